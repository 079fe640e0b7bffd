import PyProof.Rows.All
import Wide.All
import OpenK.AllK
import Wide.FinOn
import Lean
import PyProof.EqAt
import PyProof.EqKinds
import PyProof.TupleCall
import PyProof.AttrMissHeap
import KE.KEqDict
import KE.KItemsList
import PyProof.WalksMore
import PyProof.TupleOfStr
import PySem.Challenge.RW_mergetree_k14_so_many_at_once
set_option maxHeartbeats 4000000
set_option maxRecDepth 100000
set_option Elab.async false
set_option linter.all false
local macro_rules|`(tactic|ac_rfl)=>`(tactic|decide +kernel)
abbrev Qa:=@List.getElem?_eq_getElem
abbrev Qb:=@List.length_map
abbrev Qc:=@PySem.Heap.get?_push_of_some
abbrev Qd:=@List.length_append
abbrev Qe:=@List.map_cons
abbrev Qf:=@Nat.le_refl
abbrev Qg:=@List.getElem?_eq_some_iff
abbrev Qh:=@List.mem_append_right
abbrev Qi:=@List.mem_cons_of_mem
abbrev Qj:=@List.map_append
abbrev Qk:=@List.mem_append
abbrev Ql:=@List.mem_singleton
abbrev Qm:=@List.mem_map_of_mem
abbrev Qn:=@Bool.false_ne_true
abbrev Qo:=@Option.some.inj
abbrev Qp:=@List.length_drop
abbrev Qq:=@PySem.Heap.lt_size
abbrev Qr:=@List.length_take
abbrev Qs:=@List.size_toArray
abbrev Qt:=@PySem.Heap.get?_push_size
abbrev Qu:=@List.getElem?_map
abbrev Qv:=@Nat.zero_le
abbrev Qw:=@Nat.lt_of_lt_of_le
abbrev Qx:=@List.take_of_length_le
abbrev Qy:=@Array.length_toList
abbrev Qz:=@List.mem_cons
abbrev QA:=@List.mem_cons_self
abbrev QB:=@List.mem_append_left
abbrev QC:=@List.getD_eq_getElem?_getD
abbrev QD:=@PySem.boot_len
abbrev QE:=@Nat.ne_of_lt
abbrev QF:=@List.map_map
abbrev QG:=@PySem.W.mg_none_of
abbrev QH:=@List.length_cons
abbrev QI:=@List.eq_nil_of_length_eq_zero
abbrev QJ:=@List.mem_map
abbrev QK:=@List.length_singleton
abbrev QL:=@Array.toList_append
abbrev QM:=@List.mem_of_getElem?
abbrev QN:=@List.getElem?_append_right
abbrev QO:=@PySem.F.plainAttrs_list
abbrev QP:=@Nat.le_trans
abbrev QR:=@Array.getElem?_toList
abbrev QS:=@List.getElem_mem
abbrev QT:=@List.append_assoc
abbrev QU:=@Array.getElem_toList
abbrev QV:=@List.drop_eq_nil_of_le
abbrev QW:=@PySem.F.slot_list_append
abbrev QX:=@PySem.F.type_list_append
abbrev QY:=@List.map_congr_left
abbrev QZ:=@List.take_append_drop
abbrev Q0:=@List.mem_of_mem_drop
abbrev Q1:=@PySem.W.kia_one
abbrev Q3:=@List.nodup_cons
abbrev Q4:=@PySem.W.kia_tup
abbrev Q5:=@List.getElem?_append_left
abbrev Q6:=@Nat.min_eq_left
abbrev Q7:=@List.pairwise_append
abbrev Q8:=@PyProof.Rows.callWith_type1
abbrev Q9:=@Nat.ne_of_gt
abbrev Qaa:=@List.take_add_one
abbrev Qab:=@Nat.lt_irrefl
abbrev Qac:=@PySem.Heap.size_push
abbrev Qad:=@List.mem_iff_getElem
abbrev Qae:=@List.mem_of_mem_take
abbrev Qaf:=@PySem.mem_of_lookup
abbrev Qag:=@Nat.add_lt_add_left
abbrev Qah:=@List.getElem?_toArray
abbrev Qai:=@List.getElem?_eq_none
abbrev Qaj:=@List.getLastD_eq_getLast?
abbrev Qak:=@Int.natCast_add
abbrev Qal:=@Array.toList_push
abbrev Qam:=@List.flatten_cons
abbrev Qan:=@Nat.lt_add_of_pos_right
abbrev Qao:=@List.zip_cons_cons
abbrev Qap:=@List.pairwise_cons
abbrev Qaq:=@List.find?_cons_of_neg
abbrev Qar:=@Nat.add_sub_cancel
abbrev Qas:=@List.append_nil
abbrev Qat:=@List.sum_cons
abbrev Qau:=@List.length_replicate
abbrev Qav:=@List.reverse_cons
abbrev Qaw:=@List.getElem_drop
abbrev Qax:=@List.getElem_take
abbrev Qay:=@Nat.le_succ
abbrev Qaz:=@Array.toList_reverse
abbrev QaA:=@Bool.and_eq_true
abbrev QaB:=@List.lookup_cons
abbrev QaC:=@Nat.le_add_right
abbrev QaD:=@List.pairwise_iff_getElem
abbrev QaE:=@List.getElem?_eq_none_iff
abbrev QaF:=@List.reverse_append
abbrev QaG:=@List.flatten_append
abbrev QaH:=@List.any_cons
abbrev QaI:=@Array.getElem_mem_toList
abbrev QaJ:=@List.getLast?_eq_getLast
abbrev QaK:=@Bool.eq_iff_iff
abbrev QaL:=@List.find?_cons
abbrev QaM:=@Int.emod_lt_of_pos
abbrev QaN:=@Nat.add_sub_cancel_left
abbrev QaO:=@List.pairwise_singleton
abbrev QaP:=@PySem.W.kitx_list
abbrev QaQ:=@PySem.W.kitx_dict
abbrev QaR:=@List.take_sublist
abbrev QaS:=@Option.map_eq_some_iff
abbrev QaT:=@List.Perm.append_right
abbrev QaU:=@List.Perm.refl
abbrev QaV:=@List.drop_sublist
abbrev QaW:=@List.length_eq_one_iff
abbrev QaX:=@List.length_pos_of_mem
abbrev QaY:=@Int.add_zero
abbrev QaZ:=@List.flatMap_cons
abbrev Qa2:=@Nat.lt_succ_self
abbrev Qa3:=@List.all_eq_true
abbrev Qa4:=@Nat.min_eq_right
abbrev Qa5:=@List.map_drop
namespace L2
open PySem PySem.Spec PyProof.Rows
abbrev Key:=Sum Int Str
def ZeE:Key→Value→Bool
 | .inl k,v=>Value.isInt k v
 | .inr x,v=>Value.isStrOf x v
def Zo7(w:World):Key→Int
 | .inl k=>hashInt k
 | .inr x=>hashStr w x
theorem Zaa:∀ {k:Key} {v:Value},ZeE k v=true→(∃i t,k=Sum.inl i∧v=Value.int i t)∨(∃x t,k=Sum.inr x∧v=Value.str x t)
 | .inl i,v,h=>by
  obtain⟨t,e⟩:=Value.isInt_shape (k:=i) (v:=v) h
  exact .inl ⟨i,t,rfl,e⟩
 | .inr x,v,h=>by
  obtain⟨t,e⟩:=Value.isStrOf_shape (x:=x) (v:=v) h
  exact .inr ⟨x,t,rfl,e⟩
theorem Zjj(i:Int)(t:Tok):ZeE (.inl i) (.int i t)=true:=by simp[ZeE,Value.isInt]
theorem Zjd(x:Str)(t:Tok):ZeE (.inr x) (.str x t)=true:=by simp[ZeE,Value.isStrOf]
theorem ZmY(a b:Int):decide ((Sum.inl a:Key)=Sum.inl b)=(a == b):=by
 by_cases e:a=b
 ·subst e;simp
 ·have h:¬ (Sum.inl a:Key)=Sum.inl b:=fun q=>e (Sum.inl.inj q)
  rw[decide_eq_false h]
  exact(beq_eq_false_iff_ne.mpr e).symm
theorem Znd(a b:Str):decide ((Sum.inr a:Key)=Sum.inr b)=decide (a=b):=by
 by_cases e:a=b
 ·subst e;simp
 ·have h:¬ (Sum.inr a:Key)=Sum.inr b:=fun q=>e (Sum.inr.inj q)
  rw[decide_eq_false h,decide_eq_false e]
theorem Znp(a:Int)(b:Str):decide ((Sum.inl a:Key)=Sum.inr b)=false:=decide_eq_false (fun q=>nomatch q)
theorem Zng(a:Str)(b:Int):decide ((Sum.inr a:Key)=Sum.inl b)=false:=decide_eq_false (fun q=>nomatch q)
def ZP(prog:Program)(w:World):PySem.KeyKind prog w Key where
 is:=ZeE
 hash:=Zo7 w
 inj:=fun v a b ha hb=>by
  rcases Zaa ha with⟨i,t,rfl,rfl⟩|⟨x,t,rfl,rfl⟩
  ·rcases Zaa hb with⟨j,u,rfl,e⟩|⟨y,u,rfl,e⟩
   ·injection e with e1 _;rw[e1]
   ·exact nomatch e
  ·rcases Zaa hb with⟨j,u,rfl,e⟩|⟨y,u,rfl,e⟩
   ·exact nomatch e
   ·injection e with e1 _;rw[e1]
 byValue:=fun k v h=>by
  rcases Zaa h with⟨i,t,rfl,rfl⟩|⟨x,t,rfl,rfl⟩<;>rfl
 pyHash:=fun hv h=>by
  rcases Zaa hv with⟨i,t,rfl,rfl⟩|⟨x,t,rfl,rfl⟩
  ·exact wpAny_pyHash_int h
  ·exact wpAny_pyHash_str h
 eqBool:=fun hu hv h=>by
  rcases Zaa hu with⟨i,t,rfl,rfl⟩|⟨x,t,rfl,rfl⟩
  ·rcases Zaa hv with⟨j,u,rfl,rfl⟩|⟨y,u,rfl,rfl⟩
   ·rw[ZmY]at h;exact wpAny_eqBool_int h
   ·rw[Znp]at h;exact SeqAt.EqAt.int_str i t y u _ _ _ _ h
  ·rcases Zaa hv with⟨j,u,rfl,rfl⟩|⟨y,u,rfl,rfl⟩
   ·rw[Zng]at h;exact SeqAt.EqAt.str_int x t j u _ _ _ _ h
   ·rw[Znd]at h;exact wpAny_eqBool_str h
 «strs»:=fun k x t v h=>by
  rcases Zaa h with⟨i,u,rfl,e⟩|⟨y,u,rfl,e⟩
  ·exact nomatch e
  ·injection e with e1 _
   subst e1
   cases v<;>rfl
theorem ZhK(prog:Program)(w:World)(k:Key)(v:Value):(ZP prog w).is k v=ZeE k v:=rfl
theorem ZgX(prog:Program)(w:World)(i:Int)(t:Tok):(ZP prog w).is (.inl i) (.int i t)=true:=Zjj i t
theorem Zgy(prog:Program)(w:World)(x:Str)(t:Tok):(ZP prog w).is (.inr x) (.str x t)=true:=Zjd x t
inductive V where
 | non|bl (b:Bool)|int (i:Int)|str (x:Str)|byt (b:Array UInt8)|flt (b:UInt64)|ref (a:Addr)|ty (n:String)
 deriving DecidableEq
def Zw:V→Value→Prop
 | .non,u=>u=Value.none
 | .bl b,u=>u=Value.bool b
 | .int i,u=>∃t,u=Value.int i t
 | .str x,u=>∃t,u=Value.str x t
 | .byt b,u=>∃t,u=Value.bytes b t
 | .flt b,u=>∃t,u=Value.float b t
 | .ref a,u=>u=Value.ref a
 | .ty n,u=>u=Value.type n
abbrev Zy:List V→List Value→Prop:=Paired Zw
theorem Zy.length{xs:List V}{us:List Value}(r:Zy xs us):xs.length=us.length:=Paired.length r
theorem Zy.get:∀ {xs:List V} {us:List Value} {i:Nat} {x:V},Zy xs us→xs[i]? = some x→∃u,us[i]? = some u∧Zw x u
 | _,_,_,_,.nil,e=>by simp at e
 | _,_,0,_,.cons r _,e=>by simp at e;subst e;exact⟨_,rfl,r⟩
 | _,_,i+1,x,.cons _ t,e=>by
  obtain⟨u,h1,h2⟩:=Zy.get (i:=i) (x:=x) t (by simpa using e)
  exact⟨u,by simpa using h1,h2⟩
theorem Zy.set{x:V}{u:Value}(r:Zw x u):∀ {xs:List V} {us:List Value} (i:Nat),Zy xs us→Zy (xs.set i x) (us.set i u)
 | _,_,_,.nil=>.nil
 | _,_,0,.cons _ t=>.cons r t
 | _,_,i+1,.cons q t=>.cons q (Zy.set r i t)
theorem Zy.append:∀ {xs ys:List V} {us ws:List Value},Zy xs us→Zy ys ws→Zy (xs++ys) (us++ws)
 | _,_,_,_,.nil,s=>s
 | _,_,_,_,.cons r t,s=>.cons r (Zy.append t s)
theorem Zy.take:∀ {xs:List V} {us:List Value} (n:Nat),Zy xs us→Zy (xs.take n) (us.take n)
 | _,_,0,_=>.nil
 | _,_,_+1,.nil=>.nil
 | _,_,n+1,.cons r t=>.cons r (Zy.take n t)
theorem Zy.drop:∀ {xs:List V} {us:List Value} (n:Nat),Zy xs us→Zy (xs.drop n) (us.drop n)
 | _,_,0,r=>r
 | _,_,_+1,.nil=>.nil
 | _,_,n+1,.cons _ t=>Zy.drop n t
def Zcl:Option V→Option Value→Prop
 | some v,some u=>Zw v u
 | none,none=>True
 | _,_=>False
def KV{κ:Type}:List (κ×V)→List (κ×Value)→Prop:=Paired fun (p:κ×V) (q:κ×Value)=>p.1=q.1∧Zw p.2 q.2
def kV:Key→V
 | .inl i=>.int i
 | .inr x=>.str x
inductive HO where
  | lst (xs:List V)
  | tup (xs:List V)
  | dK (kvs:List (Key×V))|dT (kvs:List (List Key×V))
  | set (S:Int→Bool) (n:Nat)
  | ins (C dx:Addr) (fs:List (Str×V))
  | own (x:Addr)
  | xd (fs:List (Str×V))
  | met (f x:Addr)
  | rng (lo hi:Int)
  | frz (o:Obj) (u:HO)
  | tbl (ps:Array Value)
  | ext (φ:Heap→Prop)
abbrev Hp:=Addr→Option HO
def upd(H:Hp)(a:Addr)(o:HO):Hp:=fun b=>if b=a then some o else H b
theorem Zd{H:Hp}{a:Addr}{o:HO}:upd H a o a=some o:=by unfold upd;rw[if_pos rfl]
theorem Zc{H:Hp}{a b:Addr}{o:HO}(h:b≠a):upd H a o b=H b:=by unfold upd;rw[if_neg h]
theorem Zk3{H:Hp}{a b:Addr}{o u:HO}(h:H a=some o)(h':H b=some u)(d:o≠u):a≠b:=by
 intro e;subst e;rw[h]at h';exact d (Qo h')
theorem Zb{H:Hp}{a b:Addr}{o:HO}(h:H a=some o)(h':H b=none):a≠b:=by
 intro e;subst e;rw[h]at h';cases h'
section
variable (P:Program) (w:World)
def Z3(H:Hp)(h:Heap)(a:Addr):HO→Prop
 | .lst xs=>xs.length≤sizeLine∧∃ (its:List Value) (n:Nat),Zy xs its∧h.get? a=some { cls:=.type "list",data:=.seq its.toArray n }
 | .tup xs=>xs.length≤sizeLine∧∃its:List Value,Zy xs its∧IsTup h a its.toArray
 | .dK kvs=>kvs.length≤sizeLine∧(a == sysModules)=false∧∃vs,KV kvs vs∧h.DictOf (ZP P w) a vs
 | .dT kvs=>kvs.length≤sizeLine∧(a == sysModules)=false∧∃xs:List (List Key×Addr×Value),
   Paired (fun (p:List Key×V) (q:List Key×Addr×Value)=>p.1=q.1∧H q.2.1=some (.tup (p.1.map kV))∧Zw p.2 q.2.2) kvs xs ∧
   ∃o es ep,h.get? a=some o∧o.ExactDict∧o.data=.dict es ep∧es.toList=xs.map (entryOfKey (tupleKind (ZP P w)))∧(xs.map (·.1)).Nodup
 | .set S n=>h.SetOf (intKind P w) a S n
 | .ins C dx fs=>H dx=some (.own a)∧fs.length≤1000∧dx≠a∧h.get? a=some (PySem.W.instObj C dx) ∧
   ∃mA,h.Ns1 dx mA∧(∀f,Zcl (fs.lookup f) (mA f))∧PySem.Within mA (fs.map (·.1))
 | .own _=>∃o,h.get? a=some o
 | .xd fs=>∃mA,h.Ns1 a mA∧∀f,Zcl (fs.lookup f) (mA f)
 | .rng lo hi=>∃t u v,h.get? a=some { cls:=.type "range",data:=.fields #[.int lo t,.int hi u,.int 1 v] }
 | .frz o u=>h.get? a=some o∧Z3 H h a u
 | .tbl ps=>h.get? a=some { cls:=.none,data:=.fields ps }
 | .met f x=>h.get? a=some (PySem.W.methodObj (.ref f) (.ref x))
 | .ext φ=>φ h∧(∃o,h.get? a=some o)∧∀h1 h2:Heap,φ h1→(∀o,h1.get? a=some o→h2.get? a=some o)→φ h2
def HOk(H:Hp)(h:Heap):Prop:=∀a o,H a=some o→Z3 P w H h a o
end
section
variable {P:Program} {w:World} {H H':Hp} {h h':Heap} {a:Addr} {o:HO}
theorem Z3.lt(x:Z3 P w H h a o):a<h.objs.size:=by
 cases o with
 | lst xs=>obtain⟨_,_,_,_,e⟩:=x;exact Qq e
 | tup xs=>obtain⟨_,_,_,p⟩:=x;exact p.lt
 | dK kvs=>obtain⟨_,_,_,_,o,_,_,e,_⟩:=x;exact Qq e
 | dT kvs=>obtain⟨_,_,_,_,o,_,_,e,_⟩:=x;exact Qq e
 | set S n=>obtain⟨o,_,_,_,e,_⟩:=x;exact Qq e
 | ins C dx fs=>obtain⟨_,_,_,e,_⟩:=x;exact Qq e
 | own y=>obtain⟨_,e⟩:=x;exact Qq e
 | xd fs=>obtain⟨_,⟨_,_,_,e,_⟩,_⟩:=x;exact Qq e
 | rng lo hi=>obtain⟨_,_,_,e⟩:=x;exact Qq e
 | frz ob u=>obtain⟨e,_⟩:=x;exact Qq e
 | tbl ps=>exact Qq (show h.get? a=some _ from x)
 | met f y=>exact Qq (show h.get? a=some _ from x)
 | ext φ=>obtain⟨_,⟨_,e⟩,_⟩:=x;exact Qq e
theorem Paired.mapP{α β:Type}{F G:α→β→Prop}:∀ {l₁:List α} {l₂:List β},Paired F l₁ l₂→(∀a b,F a b→G a b)→Paired G l₁ l₂
 | _,_,.nil,_=>.nil
 | _,_,.cons r t,f=>.cons (f _ _ r) (Paired.mapP t f)
theorem Z3.stay(x:Z3 P w H h a o)(k:∀b u,(b=a∨H b=some (.own a))→h.get? b=some u→h'.get? b=some u)
  (ho:∀b,H b=some (.own a)→H' b=some (.own a)) (ht:∀b xs,H b=some (.tup xs)→H' b=some (.tup xs)):Z3 P w H' h' a o:=by
 induction o with
 | lst xs=>obtain⟨z,its,n,r,e⟩:=x;exact⟨z,its,n,r,k _ _ (.inl rfl) e⟩
 | tup xs=>obtain⟨z,its,r,ob,e,c⟩:=x;exact⟨z,its,r,ob,k _ _ (.inl rfl) e,c⟩
 | dK kvs=>obtain⟨z,y,vs,r,ob,es,ep,e,c⟩:=x;exact⟨z,y,vs,r,ob,es,ep,k _ _ (.inl rfl) e,c⟩
 | dT kvs =>
  obtain⟨z,y,xs,r,ob,es,ep,e,c⟩:=x
  exact⟨z,y,xs,Paired.mapP r fun p q z=>⟨z.1,ht _ _ z.2.1,z.2.2⟩,ob,es,ep,k _ _ (.inl rfl) e,c⟩
 | set S n=>obtain⟨ob,es,ep,t,e,c⟩:=x;exact⟨ob,es,ep,t,k _ _ (.inl rfl) e,c⟩
 | ins C dx fs =>
  obtain⟨d,z,ne,e,mA,⟨od,es,ep,e2,c⟩,r⟩:=x
  exact⟨ho _ d,z,ne,k _ _ (.inl rfl) e,mA,⟨od,es,ep,k _ _ (.inr d) e2,c⟩,r⟩
 | own y=>obtain⟨ob,e⟩:=x;exact⟨ob,k _ _ (.inl rfl) e⟩
 | xd fs=>obtain⟨mA,⟨od,es,ep,e,c⟩,r⟩:=x;exact⟨mA,⟨od,es,ep,k _ _ (.inl rfl) e,c⟩,r⟩
 | rng lo hi=>obtain⟨t,u,v,e⟩:=x;exact⟨t,u,v,k _ _ (.inl rfl) e⟩
 | frz ob u ih=>obtain⟨e,q⟩:=x;exact⟨k _ _ (.inl rfl) e,ih q⟩
 | tbl ps =>
  have e:h.get? a=some { cls:=.none,data:=.fields ps }:=x
  show h'.get? a=some { cls:=.none,data:=.fields ps }
  exact k a _ (.inl rfl) e
 | met f y =>
  have e:h.get? a=some (PySem.W.methodObj (.ref f) (.ref y)):=x
  show h'.get? a=some (PySem.W.methodObj (.ref f) (.ref y))
  exact k a _ (.inl rfl) e
 | ext φ=>obtain⟨p,⟨o,e⟩,st⟩:=x;exact⟨st _ _ p fun o q=>k _ _ (.inl rfl) q,⟨o,k _ _ (.inl rfl) e⟩,st⟩
theorem HOk.lt(x:HOk P w H h)(e:H a=some o):a<h.objs.size:=(x a o e).lt
theorem HOk.fresh(x:HOk P w H h)(e:h.objs.size≤a):H a=none:=by
 cases q:H a with
 | none=>rfl
 | some u=>exact absurd (Qw (x.lt q) e) (Qab _)
theorem HOk.kept(x:HOk P w H h)(k:∀b u,h.get? b=some u→h'.get? b=some u):HOk P w H h':=fun a o e =>
 (x a o e).stay (fun b u _ q=>k b u q) (fun _ q=>q) fun _ _ q=>q
theorem HOk.laid(x:HOk P w H h)(k:∀b u,h.get? b=some u→h'.get? b=some u)(hp:h.objs.size≤a)(new:Z3 P w (upd H a o) h' a o):HOk P w (upd H a o) h':=fun b u e=>by
 have hn:=x.fresh hp
 by_cases hb:b=a
 ·subst hb;rw[Zd]at e;cases e;exact new
 ·rw[Zc hb]at e
  exact(x b u e).stay (fun c v _ q=>k c v q) (fun c q=>by rw[Zc (Zb q hn)];exact q) fun c xs q=>by rw[Zc (Zb q hn)];exact q
end
def Rd(H:Hp)(a:Addr)(u:HO):Prop:=H a=some u∨∃o,H a=some (.frz o u)
theorem Rd.ok{P:Program}{w:World}{H:Hp}{h:Heap}{a:Addr}{u:HO}(r:Rd H a u)(x:HOk P w H h):Z3 P w H h a u:=by
 rcases r with r|⟨o,r⟩
 ·exact x a u r
 ·obtain⟨_,q⟩:=x a _ r
  exact q
def Mut:Option HO→Prop
 | some (.lst _)=>True
 | some (.dK _)=>True
 | some (.dT _)=>True
 | some (.set _ _)=>True
 | some (.ins _ _ _)=>True
 | some (.ext _)=>True
 | _=>False
section
variable {P:Program} {w:World} {H:Hp} {h h':Heap} {x e:Addr} {o':HO}
theorem HOk.write(ok:HOk P w H h)(mu:Mut (H x))(he:e=x∨H e=some (.own x))(k:∀b u,b≠e→h.get? b=some u→h'.get? b=some u)(heo:∃u,h'.get? e=some u)
  (new:Z3 P w (upd H x o') h' x o'):HOk P w (upd H x o') h':=fun b u q=>by
 have nown:∀c y,H c=some (.own y)→c≠x:=fun c y r z=>by subst z;rw[r]at mu;exact mu
 have ntup:∀c xs,H c=some (.tup xs)→c≠x:=fun c xs r z=>by subst z;rw[r]at mu;exact mu
 by_cases hb:b=x
 ·subst hb;rw[Zd]at q;cases q;exact new
 ·rw[Zc hb]at q
  by_cases hbe:b=e
  ·have q':H b=some (.own x):=by
    rcases he with z|z
    ·exact absurd (hbe.trans z) hb
    ·rw[hbe];exact z
   rw[q]at q';cases q'
   obtain⟨v,hv⟩:=heo
   exact⟨v,by rw[hbe];exact hv⟩
  ·refine(ok b u q).stay (fun c v hc r=>k c v ?_ r) (fun c r=>by rw[Zc (nown c b r)];exact r) fun c xs r=>by rw[Zc (ntup c xs r)];exact r
   rcases hc with rfl|hc
   ·exact hbe
   ·rintro rfl
    rcases he with z|z
    ·exact nown c b hc z
    ·rw[hc]at z;cases z;exact hb rfl
end
structure Un (fs ex:List Addr) (H H':Hp) (h h':Heap):Prop where
 keep:∀b o,h.get? b=some o→H b=none→b ∉ fs→b ∉ ex→h'.get? b=some o
 slot:∀b o,h.get? b=some o→H b=none→b∈fs→b ∉ ex→∃sl,h'.get? b=some { o with slots:=sl }
 free:∀b o,h.get? b=some o→H b=none→b ∉ ex→H' b=none
 there:∀b o,h.get? b=some o→b ∉ ex→∃o',h'.get? b=some o'
 tups:∀b xs,H b=some (.tup xs)→H' b=some (.tup xs)
 frzs:∀b o u,H b=some (.frz o u)→H' b=some (.frz o u)
 tbls:∀b ps,H b=some (.tbl ps)→∃more,H' b=some (.tbl (ps++more))
section
variable {fs fs' ex ex':List Addr} {H H1 H2:Hp} {h h1 h2 h':Heap} {a x e:Addr} {o:HO}
theorem Un.any(u:Un fs ex H H1 h h1){b:Addr}{ob:Obj}(q:h.get? b=some ob)(n:H b=none)(hx:b ∉ ex):∃sl,h1.get? b=some { ob with slots:=sl }:=by
 by_cases hb:b∈fs
 ·exact u.slot b ob q n hb hx
 ·exact⟨ob.slots,u.keep b ob q n hb hx⟩
theorem Un.kept(k:∀b u,h.get? b=some u→h'.get? b=some u):Un fs ex H H h h' :=
 ⟨fun b ob q _ _ _=>k b ob q,fun b ob q _ _ _=>⟨ob.slots,k b ob q⟩,fun _ _ _ n _=>n,fun b ob q _=>⟨ob,k b ob q⟩,fun _ _ q=>q,fun _ _ _ q=>q,fun _ ps q=>⟨#[],by rw[q];simp⟩⟩
theorem Un.refl:Un fs ex H H h h:=Un.kept fun _ _ q=>q
theorem Un.laid(k:∀b u,h.get? b=some u→h'.get? b=some u)(hp:h.objs.size≤a)(hn:H a=none):Un fs ex H (upd H a o) h h' where
 keep:=fun b u q _ _ _=>k b u q
 slot:=fun b u q _ _ _=>⟨u.slots,k b u q⟩
 free:=fun b u q n _=>by rw[Zc (QE (Qw (Qq q) hp))];exact n
 there:=fun b u q _=>⟨u,k b u q⟩
 tups:=fun b xs q=>by rw[Zc (Zb q hn)];exact q
 frzs:=fun b u xs q=>by rw[Zc (Zb q hn)];exact q
 tbls:=fun b ps q=>⟨#[],by rw[Zc (Zb q hn),q];simp⟩
theorem Un.write(mu:Mut (H x))(he:e=x∨H e=some (.own x))(k:∀b u,b≠e→h.get? b=some u→h'.get? b=some u)(heo:∃u,h'.get? e=some u):Un fs ex H (upd H x o) h h':=by
 have hx:∀b,H b=none→b≠x:=fun b n z=>by subst z;rw[n]at mu;exact mu
 have hb:∀b,H b=none→b≠e:=fun b n z=>by
  subst z
  rcases he with r|r
  ·exact hx b n r
  ·rw[n]at r;cases r
 have hm:∀b u,H b=some u→¬ Mut (some u)→b≠x:=fun b u q nm z=>by subst z;rw[q]at mu;exact nm mu
 refine⟨fun b u q n _ _=>k b u (hb b n) q,fun b u q n _ _=>⟨u.slots,k b u (hb b n) q⟩,fun b u q n _=>by rw[Zc (hx b n)];exact n,fun b u q _=>?_,
  fun b xs q=>by rw[Zc (hm b _ q fun z=>z)];exact q,fun b u xs q=>by rw[Zc (hm b _ q fun z=>z)];exact q,fun b ps q=>⟨#[],by rw[Zc (hm b _ q fun z=>z),q];simp⟩⟩
 by_cases hbe:b=e
 ·subst hbe;exact heo
 ·exact⟨u,k b u hbe q⟩
end
def trk(h:Heap)(H:Hp):List Addr:=(List.range h.objs.size).filter fun a=>(H a).isSome
def ZfX(h:Heap)(H:Hp):Heap:=PySem.W.hideAll h (trk h H)
theorem Zjr(h:Heap)(H:Hp):(ZfX h H).objs.size=h.objs.size:=PySem.W.hideAll_size _ _
theorem ZkZ{h:Heap}{H:Hp}{b:Addr}{o:Obj}(e:h.get? b=some o)(n:H b=none):(ZfX h H).get? b=some o :=
 PySem.W.hideAll_get _ e fun hm=>by
  have q:(H b).isSome=true:=(List.mem_filter.mp hm).2
  rw[n]at q;simp at q
theorem Zmk{h:Heap}{H:Hp}{b:Addr}{o:Obj}(e:(ZfX h H).get? b=some o):h.get? b=some o∧H b=none:=by
 have e':h.get? b=some o:=PySem.W.of_hideAll (trk h H) e
 refine⟨e',?_⟩
 cases q:H b with
 | none=>rfl
 | some x =>
  have hm:b∈trk h H:=List.mem_filter.mpr ⟨List.mem_range.mpr (Qq e'),by simp[q]⟩
  have z:(ZfX h H).get? b=none:=PySem.W.hideAll_none (trk h H) hm
  rw[z]at e;cases e
def ZlI(g h:Heap)(L:Addr):List (Addr×Obj):=(List.range h.objs.size).filterMap fun a=>if a=L∨(g.get? a).isSome=true then none else (h.get? a).map fun o=>(a,o)
def rest(g h:Heap)(L d:Addr):List (Addr×Obj):=(ZlI g h L).filter fun p=>decide (p.1≠d)
structure Mod (K:PySem.W.Frag) (mg:Str→Option Value) (base:Heap):Prop where
 kin:K.In base
 glob:base.Ns mainGlobals mg
 blt:∃mb,base.Ns builtinsNs mb∧∀x:Str,x ≠ "__name__"→mb x=bootBuiltins x
 nolimit:base.NoLimit
structure Cx where
 prog:Program
 w:World
 K:PySem.W.Frag
 mg:Str→Option Value
 base:Heap
 A:Around
 N:List Str
 s₀:Shared
 H₀:Hp
 env:Env
 outer:List Env
 stack:List Env
 ex:List Addr
 fn:Str→Bool
 calm:Bool
 pn:List (Addr×Obj)
 xe:Value→Shared→Prop
def frs(l:List Env):List Addr:=l.filterMap (·.frame)
abbrev Cx.fs(X:Cx):List Addr:=frs X.outer
def Vis(sc:Scope)(x:Str):Prop:=sc.names.lookup x=some .local∨sc.names.lookup x=some .cell∨sc.names.lookup x=some .free
def Loc(sc:Scope)(x:Str):Prop:=sc.names.lookup x=some .local∨sc.names.lookup x=some .cell
def Zpk(env:Env)(h:Heap)(m:Str→Option Value)(x:Str)(u:Value):Prop :=
 (env.kindOf x=some .local∧m x=some u)∨((env.kindOf x=some .cell∨env.kindOf x=some .free)∧∃c,env.cells.lookup x=some c∧h.IsCell c (some u))
structure Cx.Ok (X:Cx):Prop where
 mod:Mod X.K X.mg X.base
 kind:X.env.scope.kind=.function
 glob:X.env.globals=mainGlobals
 blt:X.env.builtins=builtinsNs
 above:X.s₀.heap.objs.size≤X.env.locals
 inj:∀x y c,X.env.cells.lookup x=some c→X.env.cells.lookup y=some c→x=y
 has:∀x,(X.env.kindOf x=some .cell∨X.env.kindOf x=some .free)→∃c,X.env.cells.lookup x=some c
 cab:∀x c,X.fn x=true→X.env.cells.lookup x=some c→X.s₀.heap.objs.size≤c
 hd:X.calm=true→X.A.handled=none
 frames:X.A.frames=some X.stack
 stk:X.stack=X.outer∨(X.stack=X.env::X.outer∧X.env.frame=some X.env.locals)
 exf:∀b∈X.ex,b≠X.env.locals∧∀x c,X.env.cells.lookup x=some c→c≠b
 bs:∀b o,X.base.get? b=some o→X.s₀.heap.get? b=some o∧X.H₀ b=none
 bsz:X.base.objs.size≤X.s₀.heap.objs.size
 noex:∀b o,X.base.get? b=some o→b ∉ X.ex
 exfs:∀b∈X.ex,b ∉ X.fs
 funs:X.s₀.heap.FunFrames X.base X.outer
 frf:∀b∈X.fs,X.H₀ b=none
structure Inv (X:Cx) (pins:List (Addr×Obj)) (σ:List (Option V)) (H:Hp) (s:Shared):Prop where
 ok:X.Ok
 os:s.os=X.s₀.os
 bare:AllBare s.gens
 base:Un X.fs X.ex X.H₀ H X.s₀.heap s.heap
 loc:∃m,s.heap.Ns X.env.locals m∧∀ (i:Nat) (x:Str) (v:V),X.N[i]? = some x→σ[i]? = some (some v)→Vis X.env.scope x→∃u,Zw v u∧Zpk X.env s.heap m x u
 cell:∀x c,X.env.cells.lookup x=some c→∃v,s.heap.IsCell c v
 free:H X.env.locals=none
 freeC:∀x c,X.env.cells.lookup x=some c→H c=none
 pin:∀p∈X.pn++pins,s.heap.get? p.1=some p.2∧H p.1=none∧p.1≠X.env.locals∧p.1 ∉ X.fs∧∀v,p.2.data≠.cell v
 hok:HOk X.prog X.w H s.heap
 len:σ.length=X.N.length
section
variable {X:Cx} {pins:List (Addr×Obj)} {σ:List (Option V)} {H H':Hp} {s:Shared} {h':Heap}
theorem Cx.Ok.nofr(ok:X.Ok){b:Addr}{o:Obj}(e:X.base.get? b=some o):b ∉ X.fs:=fun hb=>by
 have:=(ok.funs.mem hb).1
 rw[e]at this;cases this
theorem Inv.bs(I:Inv X pins σ H s):∀b o,X.base.get? b=some o→s.heap.get? b=some o∧H b=none:=fun b o e =>
 ⟨I.base.keep b o (I.ok.bs b o e).1 (I.ok.bs b o e).2 (I.ok.nofr e) (I.ok.noex b o e),I.base.free b o (I.ok.bs b o e).1 (I.ok.bs b o e).2 (I.ok.noex b o e)⟩
theorem Inv.bk(I:Inv X pins σ H s):∀b o,X.base.get? b=some o→s.heap.get? b=some o:=fun b o e=>(I.bs b o e).1
theorem Inv.mod(I:Inv X pins σ H s):Mod X.K X.mg X.base:=I.ok.mod
theorem Inv.kIn(I:Inv X pins σ H s):X.K.In s.heap:=I.ok.mod.kin.keeps I.bk
theorem Inv.lt(I:Inv X pins σ H s):X.env.locals<s.heap.objs.size:=let ⟨_,hn,_⟩:=I.loc;hn.lt
theorem Inv.sz(I:Inv X pins σ H s):X.s₀.heap.objs.size≤s.heap.objs.size:=QP I.ok.above (Nat.le_of_lt I.lt)
theorem Inv.nofs(I:Inv X pins σ H s){a:Addr}(h:s.heap.objs.size≤a):a ∉ X.fs:=fun hb=>by
 obtain⟨_,o,ho,_⟩:=I.ok.funs.mem hb
 exact absurd (Qw (Qq ho) (QP I.sz h)) (Qab _)
theorem Inv.cne(I:Inv X pins σ H s):∀x c,X.env.cells.lookup x=some c→c≠X.env.locals:=fun x c e z=>by
 obtain⟨v,o,ho,hd⟩:=I.cell x c e
 obtain⟨m,⟨o',es,ep,ho',hd',_⟩,_⟩:=I.loc
 rw[z,ho']at ho;cases ho;rw[hd']at hd;cases hd
theorem Inv.funs(I:Inv X pins σ H s):s.heap.FunFrames X.base X.outer:=by
 have all:∀ (l:List Env),(∀b∈frs l,b∈X.fs)→X.s₀.heap.FunFrames X.base l→s.heap.FunFrames X.base l:=by
  intro l
  induction l with
  | nil=>intro _ _;trivial
  | cons env r ih =>
   intro hs hl
   obtain⟨hk,⟨L,o,hf,hn,ho,hd⟩,hr⟩:=hl
   have hL:L∈X.fs:=hs L (by unfold frs;rw[List.filterMap_cons,hf];exact QA)
   obtain⟨sl,e⟩:=I.base.slot L o ho (I.ok.frf L hL) hL fun z=>I.ok.exfs L z hL
   exact⟨hk,⟨L,_,hf,hn,e,hd⟩,ih (fun b hb=>hs b (by unfold frs;rw[List.filterMap_cons,hf];exact Qi _ hb)) hr⟩
 exact all X.outer (fun _ hb=>hb) I.ok.funs
theorem Inv.stack(I:Inv X pins σ H s):s.heap.FunFrames X.base X.stack:=by
 rcases I.ok.stk with e|⟨e,hf⟩
 ·rw[e];exact I.funs
 ·rw[e]
  obtain⟨m,hn,_⟩:=I.loc
  refine .cons (by rw[I.ok.kind];decide) hf hn ?_ I.funs
  exact Heap.get?_none_of_le (QP I.ok.bsz I.ok.above)
theorem Inv.stkSub(I:Inv X pins σ H s):∀b∈frs X.stack,b∈X.env.locals::X.fs:=fun b hb=>by
 rcases I.ok.stk with e|⟨e,hf⟩
 ·rw[e]at hb;exact Qi _ hb
 ·rw[e]at hb
  unfold frs at hb
  rw[List.filterMap_cons,hf]at hb
  exact hb
theorem Inv.stkFree(I:Inv X pins σ H s):∀b∈frs X.stack,H b=none:=fun b hb=>by
 rcases Qz.mp (I.stkSub b hb) with e|hb
 ·rw[e];exact I.free
 ·obtain⟨_,o,ho,_⟩:=I.ok.funs.mem hb
  exact I.base.free b o ho (I.ok.frf b hb) fun z=>I.ok.exfs b z hb
theorem Inv.step{g':Array GenState}{t':Nat}{d':Drawn}{ch:List Addr}(I:Inv X pins σ H s)
  (hch:∀b∈ch,(b∈X.ex∨X.s₀.heap.objs.size≤b)∧b≠X.env.locals∧(∀x c,X.env.cells.lookup x=some c→c≠b)∧∀p∈X.pn++pins,p.1≠b)
  (keep:∀b o,b≠X.env.locals→b ∉ X.fs→b ∉ ch→s.heap.get? b=some o→H b=none→h'.get? b=some o)
  (slot:∀b o,b≠X.env.locals→b∈X.fs→b ∉ ch→s.heap.get? b=some o→H b=none→∃sl,h'.get? b=some { o with slots:=sl }) (free:∀b o,b ∉ ch→s.heap.get? b=some o→H b=none→H' b=none)
  (there:∀b o,b ∉ ch→s.heap.get? b=some o→∃o',h'.get? b=some o')
  (tups:∀b xs,H b=some (.tup xs)→H' b=some (.tup xs)) (frzs:∀b o u,H b=some (.frz o u)→H' b=some (.frz o u)) (tbls:∀b ps,H b=some (.tbl ps)→∃more,H' b=some (.tbl (ps++more)))
  (ns:∀m,s.heap.Ns X.env.locals m→h'.Ns X.env.locals m) (hok:HOk X.prog X.w H' h') (hg:AllBare g') :
  Inv X pins σ H' { s with heap:=h',gens:=g',drawn:=d',toks:=t' }:=by
 have neL:∀b o,X.s₀.heap.get? b=some o→b≠X.env.locals:=fun b o e=>QE (Qw (Qq e) I.ok.above)
 have neC:∀b o,X.s₀.heap.get? b=some o→b ∉ X.ex→b ∉ ch:=fun b o e hx hb=>by
  rcases(hch b hb).1 with z|z
  ·exact hx z
  ·exact absurd (Qw (Qq e) z) (Qab _)
 have cellK:∀x c,X.env.cells.lookup x=some c→∀v,s.heap.IsCell c v→h'.IsCell c v:=fun x c e v ⟨o,ho,hd⟩=>by
  have nch:c ∉ ch:=fun z=>(hch c z).2.2.1 x c e rfl
  by_cases hc:c∈X.fs
  ·obtain⟨sl,q⟩:=slot c o (I.cne x c e) hc nch ho (I.freeC x c e)
   exact⟨_,q,hd⟩
  ·exact⟨o,keep c o (I.cne x c e) hc nch ho (I.freeC x c e),hd⟩
 refine⟨I.ok,I.os,hg,⟨fun b o e n hb hx=>?_,fun b o e n hb hx=>?_,fun b o e n hx=>?_,fun b o e hx=>?_,fun b xs e=>tups b xs (I.base.tups b xs e),fun b o xs e=>frzs b o xs (I.base.frzs b o xs e),fun b ps e=>?_⟩,?_,fun x c e=>?_,?_,fun x c e=>?_,fun p hp=>?_,hok,I.len⟩
 ·exact keep b o (neL b o e) hb (neC b o e hx) (I.base.keep b o e n hb hx) (I.base.free b o e n hx)
 ·obtain⟨sl,e1⟩:=I.base.slot b o e n hb hx
  obtain⟨sl',e2⟩:=slot b _ (neL b o e) hb (neC b o e hx) e1 (I.base.free b o e n hx)
  exact⟨sl',e2⟩
 ·obtain⟨o',e1⟩:=I.base.there b o e hx
  exact free b o' (neC b o e hx) e1 (I.base.free b o e n hx)
 ·obtain⟨o',e1⟩:=I.base.there b o e hx
  exact there b o' (neC b o e hx) e1
 ·obtain⟨m1,e1⟩:=I.base.tbls b ps e
  obtain⟨m2,e2⟩:=tbls b _ e1
  exact⟨m1++m2,by rw[e2,Array.append_assoc]⟩
 ·obtain⟨m,hn,hl⟩:=I.loc
  refine⟨m,ns m hn,fun i x v e1 e2 e3=>?_⟩
  obtain⟨u,r,l⟩:=hl i x v e1 e2 e3
  refine⟨u,r,?_⟩
  rcases l with l|⟨k,c,e,z⟩
  ·exact .inl l
  ·exact .inr ⟨k,c,e,cellK x c e _ z⟩
 ·obtain⟨v,z⟩:=I.cell x c e
  exact⟨v,cellK x c e v z⟩
 ·obtain⟨m,⟨o,_,_,ho,_⟩,_⟩:=I.loc
  exact free _ o (fun z=>(hch _ z).2.1 rfl) ho I.free
 ·obtain⟨v,o,ho,hd⟩:=I.cell x c e
  exact free c o (fun z=>(hch c z).2.2.1 x c e rfl) ho (I.freeC x c e)
 ·obtain⟨e,n,ne,nf,d⟩:=I.pin p hp
  have nch:p.1 ∉ ch:=fun z=>(hch p.1 z).2.2.2 p hp rfl
  exact⟨keep p.1 p.2 ne nf nch e n,free p.1 p.2 nch e n,ne,nf,d⟩
theorem Inv.un{t':Nat}(I:Inv X pins σ H s)(u:Un X.fs [] H H' s.heap h')(hok:HOk X.prog X.w H' h'):Inv X pins σ H' { s with heap:=h',toks:=t' }:=by
 obtain⟨m,⟨o,es,ep,ho,r⟩,_⟩:=id I.loc
 obtain⟨sl,hL⟩:=u.any ho I.free (by simp)
 exact I.step (g':=s.gens) (d':=s.drawn) (ch:=[]) (fun _ z=>nomatch z) (fun b o _ hb _ e n=>u.keep b o e n hb (by simp)) (fun b o _ hb _ e n=>u.slot b o e n hb (by simp)) (fun b o _ e n=>u.free b o e n (by simp)) (fun b o _ e=>u.there b o e (by simp)) u.tups u.frzs u.tbls (fun m' hm=>by
  obtain⟨o',es',ep',ho',r'⟩:=hm
  rw[ho]at ho';cases ho'
  exact⟨_,es',ep',hL,r'⟩) hok I.bare
theorem Inv.call{g':Array GenState}{t':Nat}{d':Drawn}{ch:List Addr}(I:Inv X pins σ H s)(u:Un (frs X.stack) ch H H' s.heap h')(hok:HOk X.prog X.w H' h')(hg:AllBare g')
  (hch:∀b∈ch,(b∈X.ex∨X.s₀.heap.objs.size≤b)∧b≠X.env.locals∧(∀x c,X.env.cells.lookup x=some c→c≠b)∧∀p∈X.pn++pins,p.1≠b) :
  Inv X pins σ H' { s with heap:=h',gens:=g',drawn:=d',toks:=t' }:=by
 obtain⟨m,⟨o,es,ep,ho,r⟩,_⟩:=id I.loc
 obtain⟨sl,hL⟩:=u.any ho I.free fun z=>(hch _ z).2.1 rfl
 exact I.step (ch:=ch) hch (fun b o hL hb hc e n=>u.keep b o e n (fun z=>(Qz.mp (I.stkSub b z)).elim hL hb) hc) (fun b o _ _ hc e n=>u.any e n hc) (fun b o hc e n=>u.free b o e n hc) (fun b o hc e=>u.there b o e hc) u.tups u.frzs u.tbls (fun m' hm=>by
  obtain⟨o',es',ep',ho',r'⟩:=hm
  rw[ho]at ho';cases ho'
  exact⟨_,es',ep',hL,r'⟩) hok hg
theorem Inv.turned{t':Nat}{it:Addr}(I:Inv X pins σ H s)(k:∀b o,b≠it→s.heap.get? b=some o→h'.get? b=some o)(hn:H it=none)(hL:it≠X.env.locals)
  (h1:it∈X.ex∨X.s₀.heap.objs.size≤it) (h2:∀x c,X.env.cells.lookup x=some c→c≠it) (h3:∀p∈X.pn++pins,p.1≠it):Inv X pins σ H { s with heap:=h',toks:=t' }:=by
 have nit:∀b u,H b=some u→b≠it:=fun b u e z=>by rw[z,hn]at e;cases e
 refine I.step (g':=s.gens) (d':=s.drawn) (ch:=[it]) (fun b hb=>?_) (fun b o _ _ hc e _=>k b o (fun z=>hc (by simp[z])) e) (fun b o _ _ hc e _=>⟨o.slots,k b o (fun z=>hc (by simp[z])) e⟩) (fun _ _ _ _ n=>n)
  (fun b o hc e=>⟨o,k b o (fun z=>hc (by simp[z])) e⟩) (fun _ _ e=>e) (fun _ _ _ e=>e) (fun b ps e=>⟨#[],by rw[e];simp⟩) (fun m hm=>?_) (fun b u e=>?_) I.bare
 ·have e:b=it:=by simpa using hb
  subst e
  exact⟨h1,hL,h2,h3⟩
 ·obtain⟨o,es,ep,ho,r⟩:=hm
  exact⟨o,es,ep,k _ o (Ne.symm hL) ho,r⟩
 ·refine(I.hok b u e).stay (fun c v hc q=>k c v ?_ q) (fun _ q=>q) fun _ _ q=>q
  rcases hc with z|z
  ·rw[z];exact nit b u e
  ·exact nit c _ z
theorem Inv.tok(I:Inv X pins σ H s)(t:Nat):Inv X pins σ H { s with toks:=t }:=I.un (h':=s.heap) (t':=t) Un.refl I.hok
theorem Inv.kept{t':Nat}(I:Inv X pins σ H s)(k:∀b u,s.heap.get? b=some u→h'.get? b=some u):Inv X pins σ H { s with heap:=h',toks:=t' }:=I.un (Un.kept k) (I.hok.kept k)
theorem Inv.laid{a:Addr}{o:HO}{t':Nat}(I:Inv X pins σ H s)(k:∀b u,s.heap.get? b=some u→h'.get? b=some u)(hp:s.heap.objs.size≤a)(new:Z3 X.prog X.w (upd H a o) h' a o) :
  Inv X pins σ (upd H a o) { s with heap:=h',toks:=t' }:=I.un (Un.laid k hp (I.hok.fresh hp)) (I.hok.laid k hp new)
theorem Inv.write{x e:Addr}{o:HO}{t':Nat}(I:Inv X pins σ H s)(mu:Mut (H x))(he:e=x∨H e=some (.own x))(k:∀b u,b≠e→s.heap.get? b=some u→h'.get? b=some u)(heo:∃u,h'.get? e=some u)
  (new:Z3 X.prog X.w (upd H x o) h' x o):Inv X pins σ (upd H x o) { s with heap:=h',toks:=t' }:=I.un (Un.write mu he k heo) (I.hok.write mu he k heo new)
theorem Inv.pins_of{pins':List (Addr×Obj)}(I:Inv X pins σ H s)(h:∀p∈pins',s.heap.get? p.1=some p.2∧H p.1=none∧p.1≠X.env.locals∧p.1 ∉ X.fs∧∀v,p.2.data≠.cell v):Inv X pins' σ H s :=
 ⟨I.ok,I.os,I.bare,I.base,I.loc,I.cell,I.free,I.freeC,fun p hp=>(Qk.mp hp).elim (fun z=>I.pin p (QB _ z)) (h p),I.hok,I.len⟩
theorem Zhj{N:List Str}(hN:N.Nodup){i j:Nat}{x:Str}(a:N[i]? = some x)(b:N[j]? = some x):i=j:=by
 obtain⟨h1,e1⟩:=Qg.mp a
 obtain⟨h2,e2⟩:=Qg.mp b
 exact(List.getElem_inj hN).mp (e1.trans e2.symm)
theorem ZfH{M:Model}{A:Around}{E:Value→Shared→Prop}{i:Nat}{x:Str}{v:V}{u:Value}{Q:Unit→Shared→Prop}(I:Inv X pins σ H s)(hN:X.N.Nodup)(hi:X.N[i]? = some x)(hx:Loc X.env.scope x)(r:Zw v u)
  (h:∀s',Inv X pins (σ.set i (some v)) H s'→(∃a,Heap.SameBut a s.heap s'.heap∧(a=X.env.locals∨X.env.cells.lookup x=some a))→Q () s') (hf:X.fn x=true∨X.env.scope.names.lookup x=some .local:=by first|exact .inl rfl|exact .inr rfl|assumption):wpAny M A (storeName X.env x u) Q E s:=by
 obtain⟨m,hn,hl⟩:=id I.loc
 have hcls:(X.env.scope.kind == .class||(X.env.scope.kind == .module&&X.env.locals != X.env.globals))=false:=by rw[I.ok.kind];rfl
 have hiσ:i<σ.length:=by rw[I.len];exact(Qg.mp hi).1
 have cne:=I.cne
 have tracked:∀ {a:Addr} {h':Heap},(∃o,s.heap.get? a=some o∧H a=none)→Heap.SameBut a s.heap h'→HOk X.prog X.w H h':=fun {a h'} ha hs b ob e=>by
  obtain⟨_,_,hfree⟩:=ha
  refine(I.hok b ob e).stay (fun c w' hc q=>(hs.2 c ?_).trans q) (fun _ q=>q) fun _ _ q=>q
  rintro rfl
  rcases hc with rfl|hc
  ·rw[hfree]at e;cases e
  ·rw[hfree]at hc;cases hc
 rcases hx with hk|hk
 ·refine wpAny_storeName_local hk hn (fun h' hn' hs=>?_) hcls
  obtain⟨oL,_,_,hoL,_⟩:=id hn
  refine h _ ⟨I.ok,I.os,I.bare,⟨fun b o e n hb hx=>?_,fun b o e n hb hx=>?_,I.base.free,fun b o e hx=>?_,I.base.tups,I.base.frzs,I.base.tbls⟩,⟨_,hn',fun j y v' e1 e2 e3=>?_⟩,fun y c e=>?_,I.free,I.freeC,fun p hp=>?_,tracked ⟨oL,hoL,I.free⟩ hs,by simpa using I.len⟩ ⟨_,hs,.inl rfl⟩
  ·exact(hs.2 b (QE (Qw (Qq e) I.ok.above))).trans (I.base.keep b o e n hb hx)
  ·obtain⟨sl,e1⟩:=I.base.slot b o e n hb hx
   exact⟨sl,(hs.2 b (QE (Qw (Qq e) I.ok.above))).trans e1⟩
  ·obtain⟨o',e1⟩:=I.base.there b o e hx
   exact⟨o',(hs.2 b (QE (Qw (Qq e) I.ok.above))).trans e1⟩
  ·by_cases hj:j=i
   ·subst hj
    rw[hi]at e1;cases e1
    rw[List.getElem?_set_self hiσ]at e2
    cases e2
    exact⟨u,r,.inl ⟨hk,by simp⟩⟩
   ·rw[List.getElem?_set_ne (Ne.symm hj)]at e2
    obtain⟨u',r',q⟩:=hl j y v' e1 e2 e3
    refine⟨u',r',?_⟩
    rcases q with⟨k,e⟩|⟨k,c,e,z⟩
    ·refine .inl ⟨k,?_⟩
     have:y≠x:=fun e=>hj (Zhj hN e1 (e ▸ hi))
     simp[this,e]
    ·exact .inr ⟨k,c,e,z.sameBut hs (cne y c e)⟩
  ·obtain⟨w',z⟩:=I.cell y c e
   exact⟨w',z.sameBut hs (cne y c e)⟩
  ·obtain⟨e,n,ne,nf,d⟩:=I.pin p hp
   exact⟨(hs.2 p.1 ne).trans e,n,ne,nf,d⟩
 ·have hfn:X.fn x=true:=by
   rcases hf with z|z
   ·exact z
   ·rw[z]at hk;cases hk
  obtain⟨c,hc⟩:=I.ok.has x (.inl hk)
  obtain⟨w',z⟩:=I.cell x c hc
  refine wpAny_storeName_cell I.ok.kind hk hc z (fun h' hc' hs=>?_)
  obtain⟨oc,hoc,hocd⟩:=id z
  refine h { s with heap:=h' } ⟨I.ok,I.os,I.bare,⟨fun b o e n hb hx=>?_,fun b o e n hb hx=>?_,I.base.free,fun b o e hx=>?_,I.base.tups,I.base.frzs,I.base.tbls⟩,⟨m,hn.sameBut hs (Ne.symm (cne x c hc)),fun j y v' e1 e2 e3=>?_⟩,fun y c' e=>?_,I.free,I.freeC,fun p hp=>?_,tracked ⟨oc,hoc,I.freeC x c hc⟩ hs,by simpa using I.len⟩ ⟨c,hs,.inr hc⟩
  ·exact(hs.2 b (QE (Qw (Qq e) (I.ok.cab x c hfn hc)))).trans (I.base.keep b o e n hb hx)
  ·obtain⟨sl,e1⟩:=I.base.slot b o e n hb hx
   exact⟨sl,(hs.2 b (QE (Qw (Qq e) (I.ok.cab x c hfn hc)))).trans e1⟩
  ·obtain⟨o',e1⟩:=I.base.there b o e hx
   exact⟨o',(hs.2 b (QE (Qw (Qq e) (I.ok.cab x c hfn hc)))).trans e1⟩
  ·by_cases hj:j=i
   ·subst hj
    rw[hi]at e1;cases e1
    rw[List.getElem?_set_self hiσ]at e2
    cases e2
    exact⟨u,r,.inr ⟨.inl hk,c,hc,hc'⟩⟩
   ·rw[List.getElem?_set_ne (Ne.symm hj)]at e2
    obtain⟨u',r',q⟩:=hl j y v' e1 e2 e3
    refine⟨u',r',?_⟩
    rcases q with q|⟨k,c',e,z'⟩
    ·exact .inl q
    ·refine .inr ⟨k,c',e,z'.sameBut hs ?_⟩
     rintro rfl
     exact hj (Zhj hN e1 (I.ok.inj _ _ _ e hc ▸ hi))
  ·by_cases hcc:c'=c
   ·subst hcc;exact⟨_,hc'⟩
   ·obtain⟨w2,z2⟩:=I.cell y c' e
    exact⟨w2,z2.sameBut hs hcc⟩
  ·obtain⟨e,n,ne,nf,d⟩:=I.pin p hp
   refine⟨(hs.2 p.1 ?_).trans e,n,ne,nf,d⟩
   intro q
   rw[q,hoc]at e
   have q':oc=p.2:=Qo e
   exact d w' (by rw[← q'];exact hocd)
theorem ZeQ{M:Model}{A:Around}{E:Value→Shared→Prop}{i:Nat}{x:Str}{v:V}{u:Value}{Q:Unit→Shared→Prop}(I:Inv X pins σ H s)(hN:X.N.Nodup)(hi:X.N[i]? = some x)(hx:Loc X.env.scope x)(r:Zw v u)
  (h:∀s',Inv X pins (σ.set i (some v)) H s'→Q () s') (hf:X.fn x=true∨X.env.scope.names.lookup x=some .local:=by first|exact .inl rfl|exact .inr rfl|assumption):wpAny M A (storeName X.env x u) Q E s :=
 ZfH I hN hi hx r (fun s' I' _=>h s' I') hf
theorem Inv.call'{s':Shared}{ch:List Addr}(I:Inv X pins σ H s)(ho:s'.os=s.os)(u:Un (frs X.stack) ch H H' s.heap s'.heap)(hok:HOk X.prog X.w H' s'.heap)(hg:AllBare s'.gens)
  (hch:∀b∈ch,(b∈X.ex∨X.s₀.heap.objs.size≤b)∧b≠X.env.locals∧(∀x c,X.env.cells.lookup x=some c→c≠b)∧∀p∈X.pn++pins,p.1≠b):Inv X pins σ H' s':=by
 obtain⟨h',g',d',t',o'⟩:=s'
 have e:o'=s.os:=ho
 subst e
 exact I.call (g':=g') (t':=t') (d':=d') u hok hg hch
end
abbrev XK:=Value→Option Addr→Hp→Prop
abbrev St:=List (Option V)
abbrev VK:=V→Hp→Prop
abbrev TE:=St→Hp→VK→Prop
abbrev TT:=St→Hp→(Bool→Hp→Prop)→Prop
abbrev TA:=St→Hp→(List V→Hp→Prop)→Prop
structure Zek where
 nx:St→Hp→Prop
 rt:VK
 bk:St→Hp→Prop:=fun _ _=>False
 ct:St→Hp→Prop:=fun _ _=>False
abbrev TS:=Zek→St→Hp→Prop
def EP(X:Cx)(pins:List (Addr×Obj))(σ:St)(Q:VK)(u:Value)(s':Shared):Prop:=∃v H',Inv X pins σ H' s'∧Zw v u∧Q v H'
def TP(X:Cx)(pins:List (Addr×Obj))(σ:St)(Q:Bool→Hp→Prop)(b:Bool)(s':Shared):Prop:=∃H',Inv X pins σ H' s'∧Q b H'
def AP(X:Cx)(pins:List (Addr×Obj))(σ:St)(Q:List V→Hp→Prop)(us:List Value)(s':Shared):Prop:=∃vs H',Inv X pins σ H' s'∧Zy vs us∧Q vs H'
def SP(X:Cx)(pins:List (Addr×Obj))(D:Zek)(f:Flow)(s':Shared):Prop :=
 match f with
 | .next=>∃σ' H',Inv X pins σ' H' s'∧D.nx σ' H'
 | .brk=>∃σ' H',Inv X pins σ' H' s'∧D.bk σ' H'
 | .cont=>∃σ' H',Inv X pins σ' H' s'∧D.ct σ' H'
 | .ret u=>∃v σ' H',Inv X pins σ' H' s'∧Zw v u∧D.rt v H'
def PE(X:Cx)(e:Expr)(t:TE):Prop :=
 ∀ (pins:List (Addr×Obj)) (s:Shared) (σ:St) (H:Hp) (Q:VK),Inv X pins σ H s→t σ H Q→wpAny (model X.prog X.w) X.A (eval e X.env) (EP X pins σ Q) X.xe s
def PT(X:Cx)(e:Expr)(t:TT):Prop :=
 ∀ (pins:List (Addr×Obj)) (s:Shared) (σ:St) (H:Hp) (Q:Bool→Hp→Prop),Inv X pins σ H s→t σ H Q→wpAny (model X.prog X.w) X.A (isTrue e X.env (eval e X.env)) (TP X pins σ Q) X.xe s
def PW(X:Cx)(e:Expr)(t:TT):Prop :=
 ∀ (whole:Sem Value) (pins:List (Addr×Obj)) (s:Shared) (σ:St) (H:Hp) (Q:Bool→Hp→Prop),Inv X pins σ H s→t σ H Q→wpAny (model X.prog X.w) X.A (isTrue e X.env whole) (TP X pins σ Q) X.xe s
theorem PW.pt{X:Cx}{e:Expr}{t:TT}(h:PW X e t):PT X e t:=h _
def PA(X:Cx)(es:List Expr)(t:TA):Prop :=
 ∀ (pos:Pos) (pins:List (Addr×Obj)) (s:Shared) (σ:St) (H:Hp) (Q:List V→Hp→Prop),Inv X pins σ H s→t σ H Q→wpAny (model X.prog X.w) X.A (spliced (backTo pos (starEach es X.env))) (AP X pins σ Q) X.xe s
def PS(X:Cx)(st:Stmt)(t:TS):Prop :=
 ∀ (pins:List (Addr×Obj)) (s:Shared) (σ:St) (H:Hp) (D:Zek),Inv X pins σ H s→t D σ H→wpAny (model X.prog X.w) X.A (exec st X.env) (SP X pins D) X.xe s
def PSs(X:Cx)(st:List Stmt)(t:TS):Prop :=
 ∀ (pins:List (Addr×Obj)) (s:Shared) (σ:St) (H:Hp) (D:Zek),Inv X pins σ H s→t D σ H→wpAny (model X.prog X.w) X.A (execs st X.env) (SP X pins D) X.xe s
theorem thn{α:Type}{t:Sem α}{Q Q':α→Shared→Prop}{M:Model}{A:Around}{E:Value→Shared→Prop}{s:Shared}(h:wpAny M A t Q E s)(hQ:∀a s,Q a s→Q' a s):wpAny M A t Q' E s:=wpAny_mono h hQ fun _ _ x=>x
section
variable {X:Cx}
def Zmy(i:Nat):TE:=fun σ H Q=>∃v,σ[i]? = some (some v)∧Q v H
def tC(v:V):TE:=fun _ H Q=>Q v H
theorem ZhH{i:Nat}{x:Str}{pos:Pos}(hN:X.N[i]? = some x)(hv:Vis X.env.scope x)(hd:(x == ("__debug__" : Str))=false:=by decide)(hcd:(x == ("__classdict__" : Str))=false:=by decide):PE X (.Name x pos) (Zmy i):=by
 intro pins s σ H Q I h
 obtain⟨v,e,h⟩:=h
 obtain⟨m,hn,hl⟩:=I.loc
 obtain⟨u,r,l⟩:=hl i x v hN e hv
 have fin:EP X pins σ Q u s:=⟨v,H,I,r,h⟩
 rcases l with⟨hk,hm⟩|⟨hk,c,hc,hcell⟩
 ·exact wpAny_Name (wpAny_loadName_local I.ok.kind hk hn hm fin) hd
 ·rcases hk with hk|hk
  ·exact wpAny_Name (wpAny_loadName_cell I.ok.kind hk hc hcell fin) hd
  ·exact wpAny_Name (wpAny_loadName_free I.ok.kind hk hc hcell fin hcd) hd
theorem Zh{i j pos}:PE X (.Constant (.int i) j pos) (tC (.int i)):=fun _ _ _ H _ I h=>wpAny_Constant_int ⟨.int i,H,I.tok _,⟨_,rfl⟩,h⟩
theorem Zil{b j pos}:PE X (.Constant (.bool b) j pos) (tC (.bl b)):=fun _ _ _ H _ I h=>Constant_bool ⟨.bl b,H,I,rfl,h⟩
theorem Zad{j pos}:PE X (.Constant .none j pos) (tC .non):=fun _ _ _ H _ I h=>Constant_none ⟨.non,H,I,rfl,h⟩
theorem ZaU{x j pos}:PE X (.Constant (.str x) j pos) (tC (.str x)):=fun _ _ _ H _ I h=>Calls.Constant_str ⟨.str x,H,I.tok _,⟨_,rfl⟩,h⟩
def Gl(X:Cx)(x:Str):Prop:=X.env.kindOf x=some .globalImplicit
theorem Zia{E:Value→Shared→Prop}{pins:List (Addr×Obj)}{s:Shared}{σ:St}{H:Hp}{x:Str}{u:Value}{pos:Pos}{Q:Value→Shared→Prop}(I:Inv X pins σ H s)(hg:Gl X x)(hm:X.mg x=some u)(h:Q u s)
  (hd:(x == ("__debug__" : Str))=false:=by decide):wpAny (model X.prog X.w) X.A (eval (.Name x pos) X.env) Q E s :=
 Calls.Name_function_global I.ok.kind hg (Calls.loadGlobal_global (by rw[I.ok.glob];exact I.mod.glob.keeps I.bk) hm h) hd
theorem Zc8{E:Value→Shared→Prop}{pins:List (Addr×Obj)}{s:Shared}{σ:St}{H:Hp}{x:Str}{u:Value}{pos:Pos}{Q:Value→Shared→Prop}(I:Inv X pins σ H s)(hg:Gl X x)(hm:X.mg x=none)(hv:bootBuiltins x=some u)(h:Q u s)
  (hn:x ≠ "__name__":=by decide) (hd:(x == ("__debug__" : Str))=false:=by decide):wpAny (model X.prog X.w) X.A (eval (.Name x pos) X.env) Q E s:=by
 obtain⟨mb,h1,h2⟩:=I.mod.blt
 exact Calls.Name_function_global I.ok.kind hg (Calls.loadGlobal_builtin (by rw[I.ok.glob];exact I.mod.glob.keeps I.bk) hm (by rw[I.ok.blt];exact h1.keeps I.bk) ((h2 x hn).trans hv) h) hd
theorem Zl8{x:Str}{v:V}{u:Value}{pos:Pos}(hg:Gl X x)(hm:X.mg x=none)(hv:bootBuiltins x=some u)(r:Zw v u)(hn:x ≠ "__name__":=by decide)(hd:(x == ("__debug__" : Str))=false:=by decide):PE X (.Name x pos) (tC v) :=
 fun _ _ _ H _ I h=>Zc8 I hg hm hv ⟨v,H,I,r,h⟩ hn hd
def t2I(ta tb:TE)(k:Int→Int→Hp→Prop):St→Hp→Prop:=fun σ H=>ta σ H fun x H1=>tb σ H1 fun y H2=>∃i j,x=.int i∧y=.int j∧k i j H2
def tAdd(ta tb:TE):TE:=fun σ H Q=>t2I ta tb (fun i j H2=>Q (.int (i+j)) H2) σ H
def tSub(ta tb:TE):TE:=fun σ H Q=>t2I ta tb (fun i j H2=>Q (.int (i-j)) H2) σ H
def tMul(ta tb:TE):TE:=fun σ H Q=>t2I ta tb (fun i j H2=>(-(2 ^ 64)<i∧i<2 ^ 64)∧Q (.int (i*j)) H2) σ H
variable {a b:Expr} {ta tb:TE} {pos:Pos}
def PC(X:Cx)(op:CmpOp)(a b:Expr)(t:TE):Prop :=
 ∀ (pins:List (Addr×Obj)) (s:Shared) (σ:St) (H:Hp) (Q:VK),Inv X pins σ H s→t σ H Q →
  wpAny (model X.prog X.w) X.A (eval a X.env) (fun v s₁=>wpAny (model X.prog X.w) X.A (eval b X.env) (fun u s₂=>wpAny (model X.prog X.w) X.A (compareOp op v u) (EP X pins σ Q) X.xe s₂) X.xe s₁) X.xe s
def ZiZ(p:Int→Int→Bool)(ta tb:TE):TE:=fun σ H Q=>t2I ta tb (fun i j H2=>Q (.bl (p i j)) H2) σ H
abbrev tLt:TE→TE→TE:=ZiZ fun i j=>decide (i<j)
abbrev tLe:TE→TE→TE:=ZiZ fun i j=>decide (i≤j)
abbrev tGt:TE→TE→TE:=ZiZ fun i j=>decide (j<i)
abbrev tGe:TE→TE→TE:=ZiZ fun i j=>decide (j≤i)
abbrev tEqI:TE→TE→TE:=ZiZ fun i j=>decide (i=j)
abbrev tNeI:TE→TE→TE:=ZiZ fun i j=>!decide (i=j)
def tIsN(ta:TE):TE:=fun σ H Q=>ta σ H fun x H1=>Q (.bl (decide (x=.non))) H1
def tNotN(ta:TE):TE:=fun σ H Q=>ta σ H fun x H1=>Q (.bl (!decide (x=.non))) H1
def tB(t:TE):TT:=fun σ H Q=>t σ H fun x H1=>∃c,x=.bl c∧Q c H1
theorem Zd8{e:Expr}{t:TE}(h:PE X e t)(he:∀whole,isTrue e X.env whole=(do let v ← whole;standAt e.pos;holding [v] (truthy v)):=by intro _;rfl):PT X e (tB t):=by
 intro pins s σ H Q I hw
 refine isTrue_plain (thn (h pins s σ H _ I hw) ?_) (he _)
 rintro v s1 ⟨x,H1,I1,r1,q1⟩
 obtain⟨d,rfl,q⟩:=q1
 cases r1
 exact wpAny_truthy_bool ⟨H1,I1,q⟩
variable {tA tB':TT} {rest:List Expr}
def Zo5(t u:TT):TT:=fun σ H Q=>t σ H fun c H1=>if c=true then u σ H1 Q else Q false H1
def tOr(t u:TT):TT:=fun σ H Q=>t σ H fun c H1=>if c=true then Q true H1 else u σ H1 Q
def Zo1(t:TT):TT:=fun σ H Q=>t σ H fun c H1=>Q (!c) H1
theorem Zdl(ha:PT X a tA):PW X (.BoolOp .And [a] pos) tA:=by
 intro wh pins s σ H Q I h
 refine isTrue_and (thn (ha pins s σ H Q I h) fun c s1 e=>?_)
 cases c with
 | true=>exact isTrue_and_nil e
 | false=>exact e
theorem Zgh(ha:PT X a tA):PW X (.BoolOp .Or [a] pos) tA:=by
 intro wh pins s σ H Q I h
 refine isTrue_or (thn (ha pins s σ H Q I h) fun c s1 e=>?_)
 cases c with
 | false=>exact isTrue_or_nil e
 | true=>exact e
theorem Zd0(ha:PT X a tA)(hb:PW X (.BoolOp .And (b::rest) pos) tB'):PW X (.BoolOp .And (a::b::rest) pos) (Zo5 tA tB'):=by
 intro wh pins s σ H Q I h
 refine isTrue_and (thn (ha pins s σ H _ I h) ?_)
 rintro c s1 ⟨H1,I1,q1⟩
 cases c with
 | true=>exact hb wh pins s1 σ H1 Q I1 q1
 | false=>exact⟨H1,I1,q1⟩
theorem Zh8(ha:PT X a tA)(hb:PW X (.BoolOp .Or (b::rest) pos) tB'):PW X (.BoolOp .Or (a::b::rest) pos) (tOr tA tB'):=by
 intro wh pins s σ H Q I h
 refine isTrue_or (thn (ha pins s σ H _ I h) ?_)
 rintro c s1 ⟨H1,I1,q1⟩
 cases c with
 | true=>exact⟨H1,I1,q1⟩
 | false=>exact hb wh pins s1 σ H1 Q I1 q1
theorem ZhV(ha:PT X a tA):PT X (.UnaryOp .Not a pos) (Zo1 tA):=by
 intro pins s σ H Q I h
 exact isTrue_not (ha pins s σ H (fun c H1=>Q (!c) H1) I h)
def Zn8(ta tb:TE):TE:=fun σ H Q=>ta σ H fun x H1=>∃c,x=.bl c∧if c=true then tb σ H1 Q else Q (.bl false) H1
def tOrV(ta tb:TE):TE:=fun σ H Q=>ta σ H fun x H1=>∃c,x=.bl c∧if c=true then Q (.bl true) H1 else tb σ H1 Q
def Zox(ta:TE):TE:=fun σ H Q=>ta σ H fun x H1=>∃c,x=.bl c∧Q (.bl (!c)) H1
theorem Zf9{op}{t:TE}(h:PE X a t):PE X (.BoolOp op [a] pos) t:=fun pins s σ H Q I hw=>BoolOp_one (h pins s σ H Q I hw)
theorem ZeI(ha:PE X a ta)(hb:PE X (.BoolOp .And (b::rest) pos) tb):PE X (.BoolOp .And (a::b::rest) pos) (Zn8 ta tb):=by
 intro pins s σ H Q I h
 refine BoolOp_and (thn (ha pins s σ H _ I h) ?_)
 rintro v s1 ⟨x,H1,I1,r1,q1⟩
 obtain⟨c,rfl,q1⟩:=q1
 cases r1
 refine wpAny_truthy_bool ?_
 cases c with
 | true=>exact hb pins s1 σ H1 Q I1 q1
 | false=>exact⟨.bl false,H1,I1,rfl,q1⟩
theorem ZnH(ha:PE X a ta):PE X (.UnaryOp .Not a pos) (Zox ta):=by
 intro pins s σ H Q I h
 refine UnaryOp_ (thn (ha pins s σ H _ I h) ?_)
 rintro v s1 ⟨x,H1,I1,r1,q1⟩
 obtain⟨c,rfl,q1⟩:=q1
 cases r1
 exact not_of (wpAny_truthy_bool ⟨.bl (!c),H1,I1,rfl,q1⟩)
def tIf(t:TT)(ta tb:TE):TE:=fun σ H Q=>t σ H fun c H1=>if c=true then ta σ H1 Q else tb σ H1 Q
theorem Zbb{c:Expr}(hc:PT X c tA)(ha:PE X a ta)(hb:PE X b tb):PE X (.IfExp c a b pos) (tIf tA ta tb):=by
 intro pins s σ H Q I h
 refine wpAny_IfExp (thn (hc pins s σ H _ I h) ?_)
 rintro d s1 ⟨H1,I1,q1⟩
 cases d with
 | true=>exact ha pins s1 σ H1 Q I1 q1
 | false=>exact hb pins s1 σ H1 Q I1 q1
end
def SqL(K:PySem.W.Frag)(H:Hp)(a:Addr)(xs:List V):Prop :=
 Rd H a (.lst xs) ∨
  ∃ (o:Obj) (its:Array Value) (n:Nat),K.lookup a=some o∧o.cls=.type "list"∧o.dict=none∧o.data=.seq its n∧its.size≤sizeLine∧Zy xs its.toList
def SqT(K:PySem.W.Frag)(H:Hp)(a:Addr)(xs:List V):Prop :=
 Rd H a (.tup xs) ∨
  ∃ (o:Obj) (its:Array Value) (n:Nat),K.lookup a=some o∧o.cls=.type "tuple"∧o.data=.seq its n∧its.size≤sizeLine∧Zy xs its.toList
def ZoS:Value→Option V
 | .none=>some .non
 | .bool b=>some (.bl b)
 | .int i _=>some (.int i)
 | .str x _=>some (.str x)
 | .bytes b _=>some (.byt b)
 | .float b _=>some (.flt b)
 | .ref a=>some (.ref a)
 | .type n=>some (.ty n)
 | _=>none
theorem Zw.abs{x:V}{u:Value}(r:Zw x u):ZoS u=some x:=by
 cases x with
 | non=>cases r;rfl
 | bl _=>cases r;rfl
 | int _=>obtain⟨t,rfl⟩:=r;rfl
 | str _=>obtain⟨t,rfl⟩:=r;rfl
 | byt _=>obtain⟨t,rfl⟩:=r;rfl
 | flt _=>obtain⟨t,rfl⟩:=r;rfl
 | ref _=>cases r;rfl
 | ty _=>cases r;rfl
theorem Zw.inj{x y:V}{u:Value}(r:Zw x u)(q:Zw y u):x=y:=Qo (r.abs.symm.trans q.abs)
theorem Zy.inj:∀ {xs ys:List V} {us:List Value},Zy xs us→Zy ys us→xs=ys
 | _,_,_,.nil,.nil=>rfl
 | _,_,_,.cons r t,.cons r' t'=>by rw[r.inj r',Zy.inj t t']
section
variable {X:Cx} {pins:List (Addr×Obj)} {σ:St} {H:Hp} {s:Shared} {a:Addr} {xs ys:List V}
theorem SqL.of{K:PySem.W.Frag}(h:H a=some (.lst xs)):SqL K H a xs:=.inl (.inl h)
theorem SqT.of{K:PySem.W.Frag}(h:H a=some (.tup xs)):SqT K H a xs:=.inl (.inl h)
theorem Inv.list(I:Inv X pins σ H s)(h:SqL X.K H a xs):∃its:List Value,Zy xs its∧PlainL s.heap a its.toArray∧xs.length≤sizeLine:=by
 rcases h with h|⟨o,its,n,hk,hc,hd,hs,hz,r⟩
 ·obtain⟨z,its,n,r,e⟩:=h.ok I.hok
  exact⟨its,r,⟨_,n,e,rfl,rfl,rfl⟩,z⟩
 ·refine⟨its.toList,r,⟨o,n,I.kIn a o hk,hc,hd,by simpa using hs⟩,?_⟩
  have e:=r.length
  simp only[Array.length_toList]at e
  omega
theorem Inv.tuple(I:Inv X pins σ H s)(h:SqT X.K H a xs):∃its:List Value,Zy xs its∧IsTup s.heap a its.toArray∧xs.length≤sizeLine:=by
 rcases h with h|⟨o,its,n,hk,hc,hs,hz,r⟩
 ·obtain⟨z,its,r,p⟩:=h.ok I.hok
  exact⟨its,r,p,z⟩
 ·refine⟨its.toList,r,⟨o,I.kIn a o hk,hc,n,by simpa using hs⟩,?_⟩
  have e:=r.length
  simp only[Array.length_toList]at e
  omega
theorem Inv.list_inj(I:Inv X pins σ H s)(h:SqL X.K H a xs)(h':SqL X.K H a ys):xs=ys:=by
 obtain⟨its,r,⟨o,n,e,_,_,d⟩,_⟩:=I.list h
 obtain⟨its',r',⟨o',n',e',_,_,d'⟩,_⟩:=I.list h'
 rw[e]at e';cases e'
 rw[d]at d'
 injection d' with d1 _
 have:its=its':=by simpa using congrArg Array.toList d1
 subst this
 exact r.inj r'
theorem Inv.tuple_inj(I:Inv X pins σ H s)(h:SqT X.K H a xs)(h':SqT X.K H a ys):xs=ys:=by
 obtain⟨its,r,⟨o,e,_,n,d⟩,_⟩:=I.tuple h
 obtain⟨its',r',⟨o',e',_,n',d'⟩,_⟩:=I.tuple h'
 rw[e]at e';cases e'
 rw[d]at d'
 injection d' with d1 _
 have:its=its':=by simpa using congrArg Array.toList d1
 subst this
 exact r.inj r'
end
abbrev Cx.wish(X:Cx)(E:Value→Shared→Prop):Cx:={ X with xe:=E }
abbrev Cx.nox(X:Cx):Cx:=X.wish fun _ _=>False
theorem Cx.Ok.wish{X:Cx}(ok:X.Ok)(E:Value→Shared→Prop):(X.wish E).Ok :=
 ⟨ok.mod,ok.kind,ok.glob,ok.blt,ok.above,ok.inj,ok.has,ok.cab,ok.hd,ok.frames,ok.stk,ok.exf,ok.bs,ok.bsz,ok.noex,ok.exfs,ok.funs,ok.frf⟩
theorem Cx.Ok.unwish{X:Cx}{E:Value→Shared→Prop}(ok:(X.wish E).Ok):X.Ok :=
 ⟨ok.mod,ok.kind,ok.glob,ok.blt,ok.above,ok.inj,ok.has,ok.cab,ok.hd,ok.frames,ok.stk,ok.exf,ok.bs,ok.bsz,ok.noex,ok.exfs,ok.funs,ok.frf⟩
section
variable {X:Cx} {pins:List (Addr×Obj)} {σ:St} {H:Hp} {s:Shared} {E:Value→Shared→Prop}
theorem Inv.wish(I:Inv X pins σ H s)(E:Value→Shared→Prop):Inv (X.wish E) pins σ H s:=⟨I.ok.wish E,I.os,I.bare,I.base,I.loc,I.cell,I.free,I.freeC,I.pin,I.hok,I.len⟩
theorem Inv.unwish(I:Inv (X.wish E) pins σ H s):Inv X pins σ H s:=⟨I.ok.unwish,I.os,I.bare,I.base,I.loc,I.cell,I.free,I.freeC,I.pin,I.hok,I.len⟩
theorem SP.unwish{D:Zek}{f:Flow}{s':Shared}(h:SP (X.wish E) pins D f s'):SP X pins D f s':=by
 cases f with
 | next=>obtain⟨σ',H',I,q⟩:=h;exact⟨σ',H',I.unwish,q⟩
 | brk=>obtain⟨σ',H',I,q⟩:=h;exact⟨σ',H',I.unwish,q⟩
 | cont=>obtain⟨σ',H',I,q⟩:=h;exact⟨σ',H',I.unwish,q⟩
 | ret u=>obtain⟨v,σ',H',I,r,q⟩:=h;exact⟨v,σ',H',I.unwish,r,q⟩
theorem PSs.nox{st:List Stmt}{t:TS}(h:PSs X.nox st t):PSs X st t:=fun pins s σ H D I hw =>
 wpAny_mono (h pins s σ H D (I.wish _) hw) (fun _ _ q=>q.unwish) fun _ _ z=>False.elim z
end
section
variable {X:Cx} {st:Stmt} {rest:List Stmt} {t u:TS} {e:Expr} {te:TE} {pos:Pos}
def Zoz:TS:=fun D σ H=>D.nx σ H
def Zpl(t u:TS):TS:=fun D σ H=>t { D with nx:=u D } σ H
theorem ZU:PSs X [] Zoz:=fun _ _ σ H _ I h=>wpAny_execs_nil ⟨σ,H,I,h⟩
theorem Zg(h1:PS X st t)(h2:PSs X rest u):PSs X (st::rest) (Zpl t u):=by
 intro pins s σ H D I h
 refine wpAny_execs_cons (thn (h1 pins s σ H { D with nx:=u D } I h) fun f s1 q=>?_)
 cases f with
 | next =>
  obtain⟨σ',H',I',q⟩:=q
  exact h2 pins s1 σ' H' D I' q
 | ret v=>exact q
 | brk=>exact q
 | cont=>exact q
theorem Zi(h1:PS X st t):PSs X [st] t:=by
 intro pins s σ H D I h
 refine wpAny_execs_cons (thn (h1 pins s σ H D I h) fun f s1 q=>?_)
 cases f with
 | next=>exact wpAny_execs_nil q
 | ret v=>exact q
 | brk=>exact q
 | cont=>exact q
def tBreak:TS:=fun D σ H=>D.bk σ H
def tCont:TS:=fun D σ H=>D.ct σ H
theorem Inv.quiet{pins:List (Addr×Obj)}{σ:St}{H:Hp}{s:Shared}(I:Inv X pins σ H s):interactive X.env=false:=by simp[interactive,I.ok.kind]
def Zog(te:TE):TS:=fun D σ H=>te σ H fun _ H1=>D.nx σ H1
theorem ZaO(he:PE X e te)(hs:swapsWith e none pos.line X.env=pure false:=by rfl):PS X (.Expr e pos) (Zog te):=by
 intro pins s σ H D I h
 exact wpAny_Expr_any (thn (he pins s σ H _ I h) fun v s1 ⟨x,H1,I1,r1,q1⟩=>⟨σ,H1,I1,q1⟩) I.quiet hs
def Zpd(te:TE):TS:=fun D σ H=>te σ H D.rt
theorem Zr(he:PE X e te):PS X (.Return (some e) pos) (Zpd te):=by
 intro pins s σ H D I h
 exact wpAny_Return_some (thn (he pins s σ H _ I h) fun v s1 ⟨x,H1,I1,r1,q1⟩=>⟨x,σ,H1,I1,r1,q1⟩)
def tRetN:TS:=fun D _ H=>D.rt .non H
def Zpu(c:TT)(t u:TS):TS:=fun D σ H=>c σ H fun b H1=>if b=true then t D σ H1 else u D σ H1
theorem Zaz{c:Expr}{a b:List Stmt}{tc:TT}(hc:PT X c tc)(ha:PSs X a t)(hb:PSs X b u):PS X (.If c a b pos) (Zpu tc t u):=by
 intro pins s σ H D I h
 refine wpAny_If (thn (hc pins s σ H _ I h) ?_)
 rintro d s1 ⟨H1,I1,q1⟩
 cases d with
 | true=>exact ha pins s1 σ H1 D I1 q1
 | false=>exact hb pins s1 σ H1 D I1 q1
def tNever:TS:=fun _ _ _=>False
end
abbrev TG:=V→St→Hp→(St→Hp→Prop)→Prop
abbrev TGs:=List V→St→Hp→(St→Hp→Prop)→Prop
def PG(X:Cx)(target:Expr)(t:TG):Prop :=
 ∀ (pins:List (Addr×Obj)) (s:Shared) (σ:St) (H:Hp) (v:V) (u:Value) (Q:St→Hp→Prop),Inv X pins σ H s→Zw v u→t v σ H Q →
  wpAny (model X.prog X.w) X.A (assign target X.env u) (fun _ s'=>∃σ' H',Inv X pins σ' H' s'∧Q σ' H') X.xe s
def PGs(X:Cx)(ts:List Expr)(t:TGs):Prop :=
 ∀ (pins:List (Addr×Obj)) (s:Shared) (σ:St) (H:Hp) (vs:List V) (us:List Value) (Q:St→Hp→Prop),Inv X pins σ H s→Zy vs us→t vs σ H Q →
  wpAny (model X.prog X.w) X.A (assignInOrder ((assignEach ts X.env).map (·.2)) us) (fun _ s'=>∃σ' H',Inv X pins σ' H' s'∧Q σ' H') X.xe s
abbrev ZjF:=V→V→V→Hp→(Hp→Prop)→Prop
def Znw(X:Cx)(t:ZjF):Prop :=
 ∀ (pins:List (Addr×Obj)) (s:Shared) (σ:St) (H:Hp) (o i v:V) (ov iv u:Value) (Q:Hp→Prop),Inv X pins σ H s→Zw o ov→Zw i iv→Zw v u→t o i v H Q →
  wpAny (model X.prog X.w) X.A (setItem ov iv u) (fun _ s'=>∃H',Inv X pins σ H' s'∧Q H') X.xe s
abbrev TIp:=V→V→Hp→VK→Prop
def PIp(X:Cx)(op:Operator)(t:TIp):Prop :=
 ∀ (pins:List (Addr×Obj)) (s:Shared) (σ:St) (H:Hp) (x y:V) (v u:Value) (Q:VK),Inv X pins σ H s→Zw x v→Zw y u→t x y H Q →
  wpAny (model X.prog X.w) X.A (inplaceOp op v u) (EP X pins σ Q) X.xe s
section
variable {X:Cx} {pos:Pos}
def ZiH(i:Nat):TG:=fun v σ H Q=>Q (σ.set i (some v)) H
theorem ZJ{i:Nat}{x:Str}(hN:X.N.Nodup)(hi:X.N[i]? = some x)(hx:Loc X.env.scope x)(hf:X.fn x=true∨X.env.scope.names.lookup x=some .local:=by first|exact .inl rfl|exact .inr rfl|assumption):PG X (.Name x pos) (ZiH i):=by
 intro pins s σ H v u Q I r h
 exact wpAny_assign_Name (ZeQ I hN hi hx r (fun s' I'=>⟨_,H,I',h⟩) hf)
def Zo4:TGs:=fun vs σ H Q=>vs=[]∧Q σ H
def Zor(t:TG)(u:TGs):TGs:=fun vs σ H Q=>∃v r,vs=v::r∧t v σ H fun σ' H'=>u r σ' H' Q
theorem ZaZ:PGs X [] Zo4:=by
 intro pins s σ H vs us Q I r h
 obtain⟨e,h⟩:=h
 subst e
 cases r
 exact assignInOrder_nil ⟨σ,H,I,h⟩
theorem ZB{e:Expr}{es:List Expr}{t:TG}{u:TGs}(h1:PG X e t)(h2:PGs X es u)
  (hs:(assignEach (e::es) X.env).map (·.2)=assign e X.env::(assignEach es X.env).map (·.2):=by rfl):PGs X (e::es) (Zor t u):=by
 intro pins s σ H vs us Q I r h
 obtain⟨v,vr,e1,h⟩:=h
 subst e1
 cases r with
 | cons r rr =>
  rw[hs]
  refine assignInOrder_cons (thn (h1 pins s σ H _ _ _ I r h) ?_)
  rintro _ s1 ⟨σ1,H1,I1,q1⟩
  exact h2 pins s1 σ1 H1 _ _ Q I1 rr q1
def ZoJ(K:PySem.W.Frag)(n:Nat)(t:TGs):TG:=fun v σ H Q=>∃a xs,v=.ref a∧SqT K H a xs∧xs.length=n∧t xs σ H Q
theorem Zm5{es:List Expr}{k:Nat}{t:TGs}{n:Nat}(hc:X.calm=true)(h:PGs X es t)
  (hn:(assignEach es X.env).length=n:=by rfl) (hst:(assignEach es X.env).findIdx? (·.1)=none:=by rfl):PG X (.Tuple es k pos) (ZoJ X.K n t):=by
 intro pins s σ H v u Q I r hw
 obtain⟨a,xs,e1,hq,hl,hw⟩:=hw
 subst e1
 cases r
 obtain⟨its,rv,ht,hz⟩:=I.tuple hq
 refine assign_Tuple_tuple (I.ok.hd hc) ht (by simp[hn,← hl,rv.length]) hst fun h' hx=>?_
 have I1:Inv X pins σ H { s with heap:=h' }:=I.kept (t':=s.toks) fun b o e=>hx b o (QE (Qq e)) e
 exact h pins _ σ H xs _ Q I1 (by simpa using rv) hw
def Zpn(to ti:TE)(t:ZjF):TG:=fun v σ H Q=>to σ H fun o H1=>ti σ H1 fun i H2=>t o i v H2 fun H3=>Q σ H3
theorem Zdh{o i:Expr}{to ti:TE}{t:ZjF}(ho:PE X o to)(hi:PE X i ti)(hs:Znw X t)
  (ha:∀v,assign (.Subscript o i pos) X.env v=(do
   let ov ← holding [v] (eval o X.env)
   let iv ← holding [v,ov] (eval i X.env)
   standAt pos
   holding [v,ov,iv] (setItem ov iv v)
   release [v,ov,iv] []):=by intro _;rfl):PG X (.Subscript o i pos) (Zpn to ti t):=by
 intro pins s σ H v u Q I r h
 rw[ha]
 refine wpAny_bind (wpAny_holding (thn (ho pins s σ H _ I h) ?_))
 rintro ov s1 ⟨x,H1,I1,r1,q1⟩
 refine wpAny_bind (wpAny_holding (thn (hi pins s1 σ H1 _ I1 q1) ?_))
 rintro iv s2 ⟨y,H2,I2,r2,q2⟩
 refine wpAny_bind (wpAny_standAt (wpAny_bind (wpAny_holding (thn (hs pins s2 σ H2 x y v ov iv u _ I2 r1 r2 r q2) ?_))))
 rintro _ s3 ⟨H3,I3,q3⟩
 exact wpAny_release ⟨σ,H3,I3,q3⟩
def ZmT(te:TE)(g:TG):TS:=fun D σ H=>te σ H fun x H1=>g x σ H1 D.nx
theorem Zbd{tg e:Expr}{te:TE}{g:TG}(he:PE X e te)(hg:PG X tg g)(hs:swapsWithSole [tg] e pos.line X.env=pure false:=by rfl)(hw:swappedStores [tg] e X.env=pure none:=by rfl)
  (h1:(assignEach [tg] X.env).map (·.2)=[assign tg X.env]:=by rfl):PS X (.Assign [tg] e pos) (ZmT te g):=by
 intro pins s σ H D I h
 refine wpAny_Assign_stores (thn (he pins s σ H _ I h) ?_) hs hw
 rintro v s1 ⟨x,H1,I1,r1,q1⟩
 rw[h1]
 exact thn (hg pins s1 σ H1 x v _ I1 r1 q1) fun _ s2 q=>q
theorem Zz{i:Nat}{x:Str}{e:Expr}{te:TE}{pos':Pos}(hN:X.N.Nodup)(hi:X.N[i]? = some x)(hx:Loc X.env.scope x)(he:PE X e te)(hs:swapsWith e (some (.Name x pos')) pos.line X.env=pure false:=by rfl)(hf:X.fn x=true∨X.env.scope.names.lookup x=some .local:=by first|exact .inl rfl|exact .inr rfl|assumption) :
  PS X (.Assign [.Name x pos'] e pos) (ZmT te (ZiH i)):=by
 intro pins s σ H D I h
 refine wpAny_Assign_Name (thn (he pins s σ H _ I h) ?_) hs
 rintro v s1 ⟨y,H1,I1,r1,q1⟩
 exact ZeQ I1 hN hi hx r1 (fun s2 I2=>⟨_,H1,I2,q1⟩) hf
def tPar(i j:Nat)(ta:TA):TS:=fun D σ H=>ta σ H fun vs H1=>∃v w,vs=[v,w]∧D.nx ((σ.set i (some v)).set j (some w)) H1
def Zpg(i:Nat)(te:TE)(ti:TIp):TS:=fun D σ H=>∃x,σ[i]? = some (some x)∧te σ H fun y H1=>ti x y H1 fun z H2=>D.nx (σ.set i (some z)) H2
theorem ZmR{i:Nat}{x:Str}{e:Expr}{te:TE}{op:Operator}{ti:TIp}{pos':Pos}(hN:X.N.Nodup)(hi:X.N[i]? = some x)(hx:Loc X.env.scope x)(he:PE X e te)(ho:PIp X op ti)(hf:X.fn x=true∨X.env.scope.names.lookup x=some .local:=by first|exact .inl rfl|exact .inr rfl|assumption) :
  PS X (.AugAssign (.Name x pos') op e pos) (Zpg i te ti):=by
 intro pins s σ H D I h
 obtain⟨v,e1,h⟩:=h
 obtain⟨m,hn,hl⟩:=I.loc
 have vis:Vis X.env.scope x:=by rcases hx with k|k;exact .inl k;exact .inr (.inl k)
 obtain⟨u,r,l⟩:=hl i x v hi e1 vis
 refine wpAny_AugAssign_Name ?_
 have go:wpAny (model X.prog X.w) X.A (eval e X.env) (fun w s₂=>wpAny (model X.prog X.w) X.A (inplaceOp op u w) (fun r s₃=>wpAny (model X.prog X.w) X.A (storeName X.env x r) (fun _=>SP X pins D .next) X.xe s₃) X.xe s₂) X.xe s:=by
  refine thn (he pins s σ H _ I h) ?_
  rintro w s1 ⟨y,H1,I1,r1,q1⟩
  refine thn (ho pins s1 σ H1 v y u w _ I1 r r1 q1) ?_
  rintro z s2 ⟨zv,H2,I2,r2,q2⟩
  exact ZeQ I2 hN hi hx r2 (fun s3 I3=>⟨_,H2,I3,q2⟩) hf
 rcases l with⟨hk,hm⟩|⟨hk,c,hc,hcell⟩
 ·exact wpAny_loadName_local I.ok.kind hk hn hm go
 ·rcases hk with hk|hk
  ·exact wpAny_loadName_cell I.ok.kind hk hc hcell go
  ·rcases hx with k|k
   ·have:X.env.scope.names.lookup x=some .free:=hk
    rw[k]at this;cases this
   ·have:X.env.scope.names.lookup x=some .free:=hk
    rw[k]at this;cases this
def tAugS(to ti te:TE)(tget:V→V→Hp→VK→Prop)(tip:TIp)(tset:ZjF):TS:=fun D σ H=>to σ H fun o H1=>ti σ H1 fun i H2=>tget o i H2 fun x H3=>te σ H3 fun y H4=>tip x y H4 fun z H5=>tset o i z H5 fun H6=>D.nx σ H6
def PGet(X:Cx)(t:V→V→Hp→VK→Prop):Prop :=
 ∀ (pins:List (Addr×Obj)) (s:Shared) (σ:St) (H:Hp) (o i:V) (ov iv:Value) (Q:VK),Inv X pins σ H s→Zw o ov→Zw i iv→t o i H Q →
  wpAny (model X.prog X.w) X.A (getItem ov iv) (EP X pins σ Q) X.xe s
def ipI(f:Int→Int→Int):TIp:=fun x y H Q=>∃i j,x=.int i∧y=.int j∧Q (.int (f i j)) H
theorem ZnG:PIp X .Add (ipI fun i j=>i+j):=by
 intro pins s σ H x y v u Q I r1 r2 h
 obtain⟨i,j,e1,e2,q⟩:=h
 subst e1;subst e2
 obtain⟨t,rfl⟩:=r1
 obtain⟨t',rfl⟩:=r2
 exact iadd_int ⟨.int _,H,I.tok _,⟨_,rfl⟩,q⟩
end
section
variable {X:Cx} {pos:Pos}
def Zm0(c:TT)(tb:TS):TS:=fun D σ H=>∃W:Nat→St→Hp→Prop,(∃m,W m σ H)∧∀m σ H,W m σ H →
 c σ H fun b H1=>if b=true then ∃N:St→Hp→Prop,(∀σ' H',N σ' H'→∃m',m'<m∧W m' σ' H')∧tb { D with nx:=N,ct:=N,bk:=D.nx } σ H1 else D.nx σ H1
theorem ZeS{c:Expr}{body:List Stmt}{tc:TT}{tb:TS}(hp:PassesOwn (model X.prog X.w) X.A X.env X.xe)(hc:PT X c tc)(hb:PSs X body tb):PS X (.While c body [] pos) (Zm0 tc tb):=by
 intro pins s σ H D I h
 obtain⟨W,⟨m0,w0⟩,turn⟩:=h
 refine wpAny_While (codeAny_whileLoop (fun n s'=>∃σ' H',Inv X pins σ' H' s'∧W n σ' H') ?_ m0 ⟨σ,H,I,w0⟩)
 rintro n s1 ⟨σ1,H1,I1,w1⟩
 refine wpAny_passesOwn hp (thn (hc pins s1 σ1 H1 _ I1 (turn n σ1 H1 w1)) ?_)
 rintro b s2 ⟨H2,I2,q2⟩
 cases b with
 | true =>
  obtain⟨N,hN,q2⟩:=q2
  rw[if_pos rfl]
  refine wpAny_passesOwn hp (thn (hb pins s2 σ1 H2 _ I2 q2) fun f s3 q3=>?_)
  cases f with
  | next =>
   obtain⟨σ3,H3,I3,n3⟩:=q3
   obtain⟨m',hm,w3⟩:=hN σ3 H3 n3
   exact⟨m',hm,σ3,H3,I3,w3⟩
  | cont =>
   obtain⟨σ3,H3,I3,n3⟩:=q3
   obtain⟨m',hm,w3⟩:=hN σ3 H3 n3
   exact⟨m',hm,σ3,H3,I3,w3⟩
  | brk=>exact q3
  | ret v=>exact q3
 | false =>
  rw[if_neg Qn]
  exact wpAny_execs_nil ⟨σ1,H2,I2,q2⟩
end
structure It where
 go:Nat→Hp→Prop
 yld:Nat→Hp→V→Hp→Prop
 stop:Nat→Hp→Prop
def Zej(X:Cx)(pins:List (Addr×Obj))(H:Hp)(b:Addr):Prop :=
 H b=none∧b≠X.env.locals∧b ∉ X.fs∧(b∈X.ex∨X.s₀.heap.objs.size≤b)∧(∀x c,X.env.cells.lookup x=some c→c≠b)∧∀p∈X.pn++pins,p.1≠b
theorem Inv.fpOk{X:Cx}{pins:List (Addr×Obj)}{σ:St}{H H':Hp}{s:Shared}{b:Addr}(I:Inv X pins σ H s)(hb:s.heap.objs.size≤b)(hn:H' b=none):Zej X pins H' b:=by
 refine⟨hn,Q9 (Qw I.lt hb),I.nofs hb,.inr (QP I.sz hb),fun x c e z=>?_,fun p hp z=>?_⟩
 ·obtain⟨v,q⟩:=I.cell x c e
  exact absurd (Qw q.lt (by rw[z];exact hb)) (Qab _)
 ·exact absurd (Qw (Qq (I.pin p hp).1) (by rw[z];exact hb)) (Qab _)
structure Zji (P:Program) (w:World) (K:PySem.W.Frag) (tg:Expr) (J:It) (fp:List Addr) (it:Addr) (tn:Nat→Heap→Prop):Prop where
 mem:it∈fp
 obj:∀i h,tn i h→∀b∈fp,∃o,h.get? b=some o∧∀v,o.data≠.cell v
 keep:∀i h h',tn i h→(∀b∈fp,∀o,h.get? b=some o→h'.get? b=some o)→tn i h'
 item:∀ (X:Cx),X.prog=P→X.w=w→X.K=K→X.calm=true→∀ (i:Nat) (pins:List (Addr×Obj)) (s:Shared) (σ:St) (H:Hp) (E:Value→Shared→Prop),Inv X pins σ H s→(∀b∈fp,Zej X pins H b)→tn i s.heap→J.go i H →
  wpAny (model P w) X.A (pyNext (.ref it)) (fun r s1=>∃u,r=some u ∧
   wpAny (model P w) X.A (letOwnedTupleGo tg (.ref it) u) (fun _ s2=>∃x H',Inv X pins σ H' s2∧Zw x u∧J.yld i H x H'∧tn (i+1) s2.heap∧∀b∈fp,H' b=none) E s1) E s
 done:∀ (X:Cx),X.prog=P→X.w=w→X.K=K→X.calm=true→∀ (i:Nat) (pins:List (Addr×Obj)) (s:Shared) (σ:St) (H:Hp) (E:Value→Shared→Prop),Inv X pins σ H s→(∀b∈fp,Zej X pins H b)→tn i s.heap→J.stop i H →
  wpAny (model P w) X.A (pyNext (.ref it)) (fun r s1=>r=none∧Inv X pins σ H s1) E s
 self:∀ (A:Around) (i:Nat) (s:Shared) (Q:Value→Shared→Prop) (E:Value→Shared→Prop),tn i s.heap→Q (.ref it) s→wpAny (model P w) A (pyIter (.ref it)) Q E s
abbrev TI:=St→Hp→(It→Hp→Prop)→Prop
def PIE(X:Cx)(pins:List (Addr×Obj))(σ:St)(tg:Expr)(R:It→Hp→Prop)(itv:Value)(s2:Shared):Prop :=
 ∃ (it:Addr) (fp:List Addr) (tn:Nat→Heap→Prop) (J:It) (H':Hp),itv=.ref it∧Inv X pins σ H' s2∧Zji X.prog X.w X.K tg J fp it tn∧tn 0 s2.heap∧(∀b∈fp,Zej X pins H' b)∧R J H'
def PI(X:Cx)(tg iter:Expr)(wi:TI):Prop :=
 ∀ (pins:List (Addr×Obj)) (s:Shared) (σ:St) (H:Hp) (R:It→Hp→Prop),Inv X pins σ H s→wi σ H R →
  wpAny (model X.prog X.w) X.A (eval iter X.env) (fun v s1=>wpAny (model X.prog X.w) X.A (pyIter v) (PIE X pins σ tg R) X.xe s1) X.xe s
theorem ZkQ{M:Model}{A:Around}{E:Value→Shared→Prop}{s:Shared}{tg:Expr}{it:Addr}{u:Value}{o:Obj}{n:String}{vs:Array Value}{Q:Unit→Shared→Prop}(ho:s.heap.get? it=some o)(hc:o.cls=.type n)(hd:o.data=.fields vs)
  (hn:["enumerate", "zip", "dict_itemiterator", "dict_reverseitemiterator", "odict_iterator", "itertools.zip_longest", "itertools.pairwise"].contains n=false) (hQ:Q () s):wpAny M A (letOwnedTupleGo tg (.ref it) u) Q E s:=by
 unfold letOwnedTupleGo
 cases tg<;>first
  | exact wpAny_pure hQ
  | (cases u<;>first
    | exact wpAny_pure hQ
    | (refine wpAny_bind (wpAny_load ho ?_);rw[hc,hd];show wpAny M A (if (["enumerate", "zip", "dict_itemiterator", "dict_reverseitemiterator", "odict_iterator", "itertools.zip_longest", "itertools.pairwise"].contains n&&vs[0]? == some (rawInt _))=true then _ else _) Q E s;rw[if_neg (by intro h;rw[hn,Bool.false_and]at h;cases h)];exact wpAny_pure hQ))
def Itl(K:PySem.W.Frag)(a:Addr):It :=
 ⟨fun i H=>∃xs x,SqL K H a xs∧xs[i]? = some x,fun i H x H'=>H'=H∧∀xs,SqL K H a xs→xs[i]? = some x,fun i H=>∃xs,SqL K H a xs∧xs.length≤i⟩
def Itt(K:PySem.W.Frag)(a:Addr):It :=
 ⟨fun i H=>∃xs x,SqT K H a xs∧xs[i]? = some x,fun i H x H'=>H'=H∧∀xs,SqT K H a xs→xs[i]? = some x,fun i H=>∃xs,SqT K H a xs∧xs.length≤i⟩
def Itr(lo:Int)(n:Nat):It:=⟨fun i _=>i<n,fun i H x H'=>H'=H∧x=.int (lo+i),fun i _=>n≤i⟩
theorem ZiU{P:Program}{w:World}{K:PySem.W.Frag}{tg:Expr}(a it:Addr):Zji P w K tg (Itl K a) [it] it (fun i h=>h.IsListIter it a i) where
 mem:=by simp
 obj:=fun i h st b hb=>by
  have e:b=it:=by simpa using hb
  subst e
  obtain⟨o,e,c,d⟩:=st
  exact⟨o,e,fun v z=>by rw[d]at z;cases z⟩
 keep:=fun i h h' st k=>st.at fun o e=>k it (by simp) o e
 item:=by
  intro X hP hw hK hc i pins s σ H E I hf st hg
  subst hP hw hK
  obtain⟨xs,x,hq,hx⟩:=hg
  obtain⟨its,rv,p,hz⟩:=I.list hq
  obtain⟨u,hu,ru⟩:=rv.get hx
  obtain⟨f0,f1,f2,f3,f4,f5⟩:=hf it (by simp)
  refine wpAny_pyNext_list_item st p.isList (x:=u) (by simpa using hu) fun h' st' sb=>?_
  have I1:Inv X pins σ H { s with heap:=h' }:=I.turned (t':=s.toks) (fun b o hb e=>(sb.2 b hb).trans e) f0 f1 f3 f4 f5
  obtain⟨o,e,c,d⟩:=id st'
  exact⟨u,rfl,ZkQ (s:={ s with heap:=h' }) e c d (by decide) ⟨x,H,I1,ru,⟨rfl,fun ys hy=>by rw[I.list_inj hy hq];exact hx⟩,st',fun b hb=>(hf b hb).1⟩⟩
 done:=by
  intro X hP hw hK hc i pins s σ H E I hf st hg
  subst hP hw hK
  obtain⟨xs,hq,hx⟩:=hg
  obtain⟨its,rv,p,hz⟩:=I.list hq
  obtain⟨f0,f1,f2,f3,f4,f5⟩:=hf it (by simp)
  have hl:=rv.length
  exact wpAny_pyNext_list_end (I.ok.hd hc) st p.isList (by simp;omega) fun h' eb=>⟨rfl,I.turned (t':=s.toks) (fun b o hb e=>eb b o hb e) f0 f1 f3 f4 f5⟩
 self:=fun _ _ _ _ _ st h=>wpAny_pyIter_listiter st h
theorem Zht{P:Program}{w:World}{K:PySem.W.Frag}{tg:Expr}(it:Addr)(lo:Int)(n:Nat):Zji P w K tg (Itr lo n) [it] it (fun i h=>IsRangeIter h it (lo+(i:Nat)*1) ((n:Int)-(i:Nat)) 1) where
 mem:=by simp
 obj:=fun i h st b hb=>by
  have e:b=it:=by simpa using hb
  subst e
  exact⟨_,st,fun v z=>by
   have z':Data.fields _=Data.cell v:=z
   cases z'⟩
 keep:=fun i h h' st k=>k it (by simp) _ st
 item:=by
  intro X hP hw hK hc i pins s σ H E I hf st hg
  subst hP hw hK
  obtain⟨f0,f1,f2,f3,f4,f5⟩:=hf it (by simp)
  have W:=Walks.range (prog:=X.prog) (w:=X.w) (I.ok.hd hc) it lo 1 n
  refine W.item i s _ _ hg st fun v h' tk hv st' kk=>?_
  obtain⟨t,rfl⟩:=hv
  have I1:Inv X pins σ H { s with heap:=h',toks:=tk }:=I.turned (fun b o hb e=>kk b o (by simpa using hb) e) f0 f1 f3 f4 f5
  refine⟨_,rfl,ZkQ (s:={ s with heap:=h',toks:=tk }) (n := "range_iterator") st' rfl rfl (by decide) ⟨.int (lo+i),H,I1,⟨t,?_⟩,⟨rfl,rfl⟩,st',fun b hb=>(hf b hb).1⟩⟩
  rw[Int.mul_one]
 done:=by
  intro X hP hw hK hc i pins s σ H E I hf st hg
  subst hP hw hK
  obtain⟨f0,f1,f2,f3,f4,f5⟩:=hf it (by simp)
  exact wpAny_pyNext_range_end (I.ok.hd hc) st (by have:n≤i:=hg;omega) fun h' eb=>⟨rfl,I.turned (t':=s.toks) (fun b o hb e=>eb b o hb e) f0 f1 f3 f4 f5⟩
 self:=fun _ _ _ _ _ st h=>wpAny_pyIter_rangeiter st h
section
variable {X:Cx} {tg:Expr}
def ZmG(K:PySem.W.Frag)(tl:TE):TI:=fun σ H R=>tl σ H fun x H1=>∃a,x=.ref a∧(∃xs,SqL K H1 a xs)∧R (Itl K a) H1
def iTup(K:PySem.W.Frag)(tl:TE):TI:=fun σ H R=>tl σ H fun x H1=>∃a,x=.ref a∧(∃xs,SqT K H1 a xs)∧R (Itt K a) H1
theorem Zmu{l:Expr}{tl:TE}(hl:PE X l tl):PI X tg l (ZmG X.K tl):=by
 intro pins s σ H R I h
 refine thn (hl pins s σ H _ I h) ?_
 rintro v s1 ⟨x,H1,I1,r1,q1⟩
 obtain⟨a,e,⟨xs,hq⟩,q⟩:=q1
 subst e
 cases r1
 obtain⟨its,rv,p,hz⟩:=I1.list hq
 refine wpAny_pyIter_list p.isList ?_
 refine⟨s1.heap.objs.size,[s1.heap.objs.size],_,_,H1,rfl,I1.kept (t':=s1.toks) fun b o e=>Qc _ e,ZiU a _,⟨_,Qt _ rfl,rfl,rfl⟩,fun b hb=>?_,q⟩
 have e:b=s1.heap.objs.size:=by simpa using hb
 subst e
 exact I1.fpOk (Qf _) (I1.hok.fresh (Qf _))
theorem ZgT{pins:List (Addr×Obj)}{σ:St}{H:Hp}{s:Shared}{R:It→Hp→Prop}{E:Value→Shared→Prop}{lo hi:Int}{t u v:Tok}{tk:Nat}(I:Inv X pins σ H s)(h1:-(2 ^ 62)≤lo)(h2:lo<2 ^ 62)(h3:-(2 ^ 62)≤hi)(h4:hi<2 ^ 62)
  (q:R (Itr lo (hi-lo).toNat) H):wpAny (model X.prog X.w) X.A (pyIter (.ref s.heap.objs.size)) (PIE X pins σ tg R) E { s with heap:=s.heap.push { cls:=.type "range",data:=.fields #[.int lo t,.int hi u,.int 1 v] },toks:=tk }:=by
 refine wpAny_pyIter_range (IsRange.new ..) (small_one h1 h2 h3 h4) ?_
 have I1:Inv X pins σ H { s with heap:=s.heap.push { cls:=.type "range",data:=.fields #[.int lo t,.int hi u,.int 1 v] },toks:=tk }:=I.kept fun b o e=>Qc _ e
 refine⟨(s.heap.push { cls:=.type "range",data:=.fields #[.int lo t,.int hi u,.int 1 v] }).objs.size,[(s.heap.push { cls:=.type "range",data:=.fields #[.int lo t,.int hi u,.int 1 v] }).objs.size],_,_,H,rfl,
  I1.kept (t':=tk) fun b o e=>Qc _ e,Zht _ lo (hi-lo).toNat,?_,fun b hb=>?_,q⟩
 ·have e1:lo+((0:Nat):Int)*1=lo:=by simp
  have e2:(((hi-lo).toNat:Nat):Int)-((0:Nat):Int)=Builtin.Range.rangeSize lo hi 1:=by rw[rangeSize_one];split<;>omega
  show IsRangeIter _ _ (lo+((0:Nat):Int)*1) ((((hi-lo).toNat:Nat):Int)-((0:Nat):Int)) 1
  rw[e1,e2]
  exact Qt _ rfl
 ·have e:b=(s.heap.push { cls:=.type "range",data:=.fields #[.int lo t,.int hi u,.int 1 v] }).objs.size:=by simpa using hb
  subst e
  exact I1.fpOk (Qf _) (I1.hok.fresh (Qf _))
def Zoo(ta:TA):TI:=fun σ H R=>ta σ H fun vs H1=>∃j:Int,vs=[.int j] ∧ -(2 ^ 62)≤j∧j<2 ^ 62∧R (Itr 0 j.toNat) H1
def ZnT(ta:TA):TI:=fun σ H R=>ta σ H fun vs H1=>∃i j:Int,vs=[.int i,.int j]∧(-(2 ^ 62)≤i∧i<2 ^ 62 ∧ -(2 ^ 62)≤j∧j<2 ^ 62)∧R (Itr i (j-i).toNat) H1
theorem Zbm{a:Expr}{ta:TA}{p pos:Pos}(hg:Gl X "range")(hm:X.mg "range" = none)(ha:PA X [a] ta)(hs:starEach [a] X.env=[(false,eval a X.env)]:=by rfl):PI X tg (.Call (.Name "range" p) [a] [] pos) (Zoo ta):=by
 intro pins s σ H R I h
 refine Call_ (Zc8 I hg hm boot_range (Q8 (thn (ha pos pins s σ H _ I h) ?_) hs rfl))
 rintro us s1 ⟨vs,H1,I1,r1,q1⟩
 obtain⟨j,e,q1,q2,q⟩:=q1
 subst e
 cases r1 with
 | cons r rr =>
  cases rr
  obtain⟨t,rfl⟩:=r
  exact call_range_1 (ZgT I1 (by omega) (by omega) q1 q2 (by simpa using q))
theorem Zjn{a b:Expr}{ta:TA}{p pos:Pos}(hg:Gl X "range")(hm:X.mg "range" = none)(ha:PA X [a,b] ta)(hs:starEach [a,b] X.env=[(false,eval a X.env),(false,eval b X.env)]:=by rfl)(hs2:starEach [b] X.env=[(false,eval b X.env)]:=by rfl) :
  PI X tg (.Call (.Name "range" p) [a,b] [] pos) (ZnT ta):=by
 intro pins s σ H R I h
 refine Call_ (Zc8 I hg hm boot_range (Q8 (thn (ha pos pins s σ H _ I h) ?_) (by rw[hs,hs2]) (by rw[hs2];rfl)))
 rintro us s1 ⟨vs,H1,I1,r1,q1⟩
 obtain⟨i,j,e,⟨q1,q2,q3,q4⟩,q⟩:=q1
 subst e
 cases r1 with
 | cons r rr =>
  cases rr with
  | cons r' rr =>
   cases rr
   obtain⟨t,rfl⟩:=r
   obtain⟨t',rfl⟩:=r'
   exact call_range_2 (ZgT I1 q1 q2 q3 q4 q)
def ZoX(wi:TI)(g:TG)(tb:TS):TS:=fun D σ H=>wi σ H fun J H1=>∃W:Nat→Nat→St→Hp→Prop,(∃m,W 0 m σ H1)∧∀i m σ H,W i m σ H →
 (J.stop i H∧D.nx σ H)∨(J.go i H∧∃N:St→Hp→Prop,(∀σ' H',N σ' H'→∃m',m'<m∧W (i+1) m' σ' H')∧∀x H',J.yld i H x H'→g x σ H' fun σ2 H2=>tb { D with nx:=N,ct:=N,bk:=D.nx } σ2 H2)
def ZeJ(fp:List Addr)(h:Heap):List (Addr×Obj):=fp.filterMap fun b=>(h.get? b).map fun o=>(b,o)
theorem Zcd{fp:List Addr}{h:Heap}{b:Addr}{o:Obj}(hb:b∈fp)(e:h.get? b=some o):(b,o)∈ZeJ fp h:=List.mem_filterMap.mpr ⟨b,hb,by rw[e];rfl⟩
theorem ZiT{fp:List Addr}{h:Heap}{p:Addr×Obj}(hp:p∈ZeJ fp h):p.1∈fp∧h.get? p.1=some p.2:=by
 obtain⟨b,hb,e⟩:=List.mem_filterMap.mp hp
 cases q:h.get? b with
 | none=>rw[q]at e;cases e
 | some o =>
  rw[q]at e
  have e':(b,o)=p:=Qo e
  subst e'
  exact⟨hb,q⟩
theorem Inv.pinned{pins:List (Addr×Obj)}{σ:St}{H:Hp}{s:Shared}{fp:List Addr}(I:Inv X pins σ H s)(hf:∀b∈fp,Zej X pins H b)(ho:∀b∈fp,∃o,s.heap.get? b=some o∧∀v,o.data≠.cell v):Inv X (pins++ZeJ fp s.heap) σ H s :=
 I.pins_of fun p hp=>(Qk.mp hp).elim (fun z=>I.pin p (Qh _ z)) fun z=>by
  obtain⟨hb,e⟩:=ZiT z
  obtain⟨f0,f1,f2,_⟩:=hf p.1 hb
  obtain⟨o,e',d⟩:=ho p.1 hb
  rw[e]at e';cases e'
  exact⟨e,f0,f1,f2,d⟩
theorem Inv.unpinned{pins pl:List (Addr×Obj)}{σ:St}{H:Hp}{s:Shared}(I:Inv X (pins++pl) σ H s):Inv X pins σ H s:=I.pins_of fun p hp=>I.pin p (Qh _ (QB _ hp))
theorem Zb4{iter:Expr}{body:List Stmt}{wi:TI}{g:TG}{tb:TS}{pos:Pos}(hp:PassesOwn (model X.prog X.w) X.A X.env X.xe)(hc:X.calm=true)(hi:PI X tg iter wi)(hg:PG X tg g)(hb:PSs X body tb)
  (hs:∀x,foldedSetIterable iter X.env x=pure x:=by intro _;rfl):PS X (.For tg iter body [] pos) (ZoX wi g tb):=by
 intro pins s σ H D I h
 refine wpAny_For (thn (hi pins s σ H _ I h) fun v s1 h1=>thn h1 fun itv s2 h2=>?_) hs
 obtain⟨it,fp,tn,J,H2,e,I2,T,st2,f2,W,⟨m0,w0⟩,turn⟩:=h2
 subst e
 have stat:∀ {H':Hp},(∀b∈fp,H' b=none)→∀b∈fp,Zej X pins H' b:=fun hn b hb=>⟨hn b hb,(f2 b hb).2⟩
 refine codeAny_forLoop_any (fun n s'=>∃i σ' H',Inv X pins σ' H' s'∧tn i s'.heap∧(∀b∈fp,H' b=none)∧W i n σ' H') ?_ m0 ⟨0,σ,H2,I2,st2,fun b hb=>(f2 b hb).1,w0⟩
 rintro n s3 ⟨i,σ3,H3,I3,st3,fr3,w3⟩
 rcases turn i n σ3 H3 w3 with⟨stop,qn⟩|⟨go,N,hN,step⟩
 ·refine wpAny_passesOwn hp (thn (T.done X rfl rfl rfl hc i pins s3 σ3 H3 X.xe I3 (stat fr3) st3 stop) ?_)
  rintro r s4 ⟨hr,I4⟩
  subst hr
  exact wpAny_execs_nil ⟨σ3,H3,I4,qn⟩
 ·refine wpAny_passesOwn hp (thn (T.item X rfl rfl rfl hc i pins s3 σ3 H3 X.xe I3 (stat fr3) st3 go) ?_)
  rintro r s4 ⟨u,hr,h4⟩
  subst hr
  refine wpAny_passesOwn hp (thn h4 ?_)
  rintro _ s5 ⟨x,H5,I5,r5,y5,st5,fr5⟩
  have I5':=I5.pinned (stat fr5) (T.obj _ _ st5)
  refine wpAny_passesOwn hp (thn (hg _ s5 σ3 H5 x u _ I5' r5 (step x H5 y5)) ?_)
  rintro _ s6 ⟨σ6,H6,I6,q6⟩
  refine wpAny_passesOwn hp (thn (hb _ s6 σ6 H6 _ I6 q6) fun f s7 q7=>?_)
  have again:∀ {σ7:St} {H7:Hp},Inv X (pins++ZeJ fp s5.heap) σ7 H7 s7→N σ7 H7→∃m,m<n∧∃i σ' H',Inv X pins σ' H' s7∧tn i s7.heap∧(∀b∈fp,H' b=none)∧W i m σ' H':=fun {σ7 H7} I7 n7=>by
   obtain⟨m',hm,w7⟩:=hN σ7 H7 n7
   refine⟨m',hm,i+1,σ7,H7,I7.unpinned,T.keep _ _ _ st5 fun b hb o e=>(I7.pin (b,o) (Qh _ (Qh _ (Zcd hb e)))).1,fun b hb=>?_,w7⟩
   obtain⟨o,e,d⟩:=T.obj _ _ st5 b hb
   exact(I7.pin (b,o) (Qh _ (Qh _ (Zcd hb e)))).2.1
  cases f with
  | next=>obtain⟨σ7,H7,I7,n7⟩:=q7;exact again I7 n7
  | cont=>obtain⟨σ7,H7,I7,n7⟩:=q7;exact again I7 n7
  | brk=>obtain⟨σ7,H7,I7,q7⟩:=q7;exact⟨σ7,H7,I7.unpinned,q7⟩
  | ret v=>obtain⟨x7,σ7,H7,I7,r7,q7⟩:=q7;exact⟨x7,σ7,H7,I7.unpinned,r7,q7⟩
end
theorem Zgz{K:PySem.W.Frag}{a:Addr}{xs:List V}{g:TG}{tb:TS}{D:Zek}{σ:St}{H:Hp}(Pv:Nat→St→Hp→Prop)(h0:Pv 0 σ H)(hl:∀i σ H,i≤xs.length→Pv i σ H→SqL K H a xs)
  (hs:∀i x σ H,xs[i]? = some x→Pv i σ H→g x σ H fun σ2 H2=>tb { D with nx:=Pv (i+1),ct:=Pv (i+1),bk:=D.nx } σ2 H2) (hd:∀σ H,Pv xs.length σ H→D.nx σ H) :
  ∃W:Nat→Nat→St→Hp→Prop,(∃m,W 0 m σ H)∧∀i m σ H,W i m σ H →
   ((Itl K a).stop i H∧D.nx σ H)∨((Itl K a).go i H∧∃N:St→Hp→Prop,(∀σ' H',N σ' H'→∃m',m'<m∧W (i+1) m' σ' H')∧∀x H',(Itl K a).yld i H x H'→g x σ H' fun σ2 H2=>tb { D with nx:=N,ct:=N,bk:=D.nx } σ2 H2):=by
 refine⟨fun i m σ H=>m=xs.length-i∧i≤xs.length∧Pv i σ H,⟨xs.length,by simp,Qv _,h0⟩,?_⟩
 rintro i m σ H ⟨rfl,hi,p⟩
 have q:=hl i σ H hi p
 by_cases hlt:i<xs.length
 ·refine .inr ⟨⟨xs,xs[i],q,by simp[hlt]⟩,Pv (i+1),fun σ' H' p'=>⟨xs.length-(i+1),by omega,rfl,hlt,p'⟩,fun x H' y=>?_⟩
  obtain⟨e,y⟩:=y
  subst e
  exact hs i x σ _ (y xs q) p
 ·have e:i=xs.length:=by omega
  subst e
  exact .inl ⟨⟨xs,q,Qf _⟩,hd σ H p⟩
theorem ZcK{lo:Int}{n:Nat}{g:TG}{tb:TS}{D:Zek}{σ:St}{H:Hp}(Pv:Nat→St→Hp→Prop)(h0:Pv 0 σ H)
  (hs:∀i σ H,i<n→Pv i σ H→g (.int (lo+i)) σ H fun σ2 H2=>tb { D with nx:=Pv (i+1),ct:=Pv (i+1),bk:=D.nx } σ2 H2) (hd:∀σ H,Pv n σ H→D.nx σ H) :
  ∃W:Nat→Nat→St→Hp→Prop,(∃m,W 0 m σ H)∧∀i m σ H,W i m σ H →
   ((Itr lo n).stop i H∧D.nx σ H)∨((Itr lo n).go i H∧∃N:St→Hp→Prop,(∀σ' H',N σ' H'→∃m',m'<m∧W (i+1) m' σ' H')∧∀x H',(Itr lo n).yld i H x H'→g x σ H' fun σ2 H2=>tb { D with nx:=N,ct:=N,bk:=D.nx } σ2 H2):=by
 refine⟨fun i m σ H=>m=n-i∧i≤n∧Pv i σ H,⟨n,by simp,Qv _,h0⟩,?_⟩
 rintro i m σ H ⟨rfl,hi,p⟩
 by_cases hlt:i<n
 ·refine .inr ⟨hlt,Pv (i+1),fun σ' H' p'=>⟨n-(i+1),by omega,rfl,hlt,p'⟩,fun x H' y=>?_⟩
  obtain⟨e,y⟩:=y
  subst e y
  exact hs i σ _ hlt p
 ·have e:i=n:=by omega
  subst e
  exact .inl ⟨Qf _,hd σ H p⟩
abbrev R2:=V→V→Hp→VK→Prop
def OpR(X:Cx)(f:Value→Value→Sem Value)(r:R2):Prop :=
 ∀ (pins:List (Addr×Obj)) (s:Shared) (σ:St) (H:Hp) (x y:V) (v u:Value) (Q:VK),Inv X pins σ H s→Zw x v→Zw y u→r x y H Q →
  wpAny (model X.prog X.w) X.A (f v u) (EP X pins σ Q) X.xe s
def UnR(X:Cx)(f:Value→Sem Value)(r:V→Hp→VK→Prop):Prop :=
 ∀ (pins:List (Addr×Obj)) (s:Shared) (σ:St) (H:Hp) (x:V) (v:Value) (Q:VK),Inv X pins σ H s→Zw x v→r x H Q →
  wpAny (model X.prog X.w) X.A (f v) (EP X pins σ Q) X.xe s
def Zap(X:Cx)(f:Value)(r:List V→Hp→VK→Prop):Prop :=
 ∀ (pins:List (Addr×Obj)) (s:Shared) (σ:St) (H:Hp) (xs:List V) (us:List Value) (Q:VK),Inv X pins σ H s→Zy xs us→r xs H Q →
  wpAny (model X.prog X.w) X.A (call f us) (EP X pins σ Q) X.xe s
def TruR(X:Cx)(r:V→Hp→(Bool→Hp→Prop)→Prop):Prop :=
 ∀ (pins:List (Addr×Obj)) (s:Shared) (σ:St) (H:Hp) (x:V) (v:Value) (Q:Bool→Hp→Prop),Inv X pins σ H s→Zw x v→r x H Q →
  wpAny (model X.prog X.w) X.A (truthy v) (TP X pins σ Q) X.xe s
def tOp(r:R2)(ta tb:TE):TE:=fun σ H Q=>ta σ H fun x H1=>tb σ H1 fun y H2=>r x y H2 Q
def tUn(r:V→Hp→VK→Prop)(ta:TE):TE:=fun σ H Q=>ta σ H fun x H1=>r x H1 Q
def rI(C:Int→Int→Prop)(g:Int→Int→V):R2:=fun x y H Q=>∃i j,x=.int i∧y=.int j∧C i j∧Q (g i j) H
def rI0(g:Int→Int→V):R2:=fun x y H Q=>∃i j,x=.int i∧y=.int j∧Q (g i j) H
def rU(g:Int→V):V→Hp→VK→Prop:=fun x H Q=>∃i,x=.int i∧Q (g i) H
section
variable {X:Cx} {a b c:Expr} {ta tb tc:TE} {pos:Pos}
theorem Znt(ha:PE X a ta)(hb:PE X b tb){pins:List (Addr×Obj)}{s:Shared}{σ:St}{H:Hp}{R:V→V→Hp→Prop}(I:Inv X pins σ H s)
  (h:ta σ H fun x H1=>tb σ H1 fun y H2=>R x y H2) {Q:Value→Shared→Prop} {f:Value→Value→Sem Value}
  (hf:∀v u s2 x y H2,Inv X pins σ H2 s2→Zw x v→Zw y u→R x y H2→wpAny (model X.prog X.w) X.A (f v u) Q X.xe s2) :
  wpAny (model X.prog X.w) X.A (eval a X.env) (fun v s₁=>wpAny (model X.prog X.w) X.A (eval b X.env) (fun u s₂=>wpAny (model X.prog X.w) X.A (f v u) Q X.xe s₂) X.xe s₁) X.xe s:=by
 refine thn (ha pins s σ H _ I h) ?_
 rintro v s1 ⟨x,H1,I1,r1,q1⟩
 refine thn (hb pins s1 σ H1 _ I1 q1) ?_
 rintro u s2 ⟨y,H2,I2,r2,q2⟩
 exact hf v u s2 x y H2 I2 r1 r2 q2
theorem ZW{op:Operator}{r:R2}(ho:OpR X (binaryOp op) r)(ha:PE X a ta)(hb:PE X b tb):PE X (.BinOp a op b pos) (tOp r ta tb):=by
 intro pins s σ H Q I h
 exact wpAny_BinOp (Znt ha hb I h fun v u s2 x y H2 I2 rx ry q=>ho pins s2 σ H2 x y v u Q I2 rx ry q)
theorem ZiD{op:UnaryOp}{r:V→Hp→VK→Prop}(ho:UnR X (unaryOp op) r)(ha:PE X a ta):PE X (.UnaryOp op a pos) (tUn r ta):=by
 intro pins s σ H Q I h
 exact UnaryOp_ (thn (ha pins s σ H _ I h) fun v s1 ⟨x,H1,I1,r1,q1⟩=>ho pins s1 σ H1 x v Q I1 r1 q1)
theorem opI{f:Value→Value→Sem Value}{C:Int→Int→Prop}{g:Int→Int→Int}
  (rule:∀ (i j:Int) (t u:Tok) (s:Shared) (Q:Value→Shared→Prop) (E:Value→Shared→Prop),C i j→Q (.int (g i j) s.toks) { s with toks:=s.toks+1 }→wpAny (model X.prog X.w) X.A (f (.int i t) (.int j u)) Q E s) :
  OpR X f (rI C fun i j=>.int (g i j)):=by
 intro pins s σ H x y v u Q I rx ry h
 obtain⟨i,j,rfl,rfl,hc,q⟩:=h
 obtain⟨t,rfl⟩:=rx
 obtain⟨t',rfl⟩:=ry
 exact rule i j t t' s _ _ hc ⟨.int (g i j),H,I.tok _,⟨_,rfl⟩,q⟩
theorem Zof{f:Value→Value→Sem Value}{g:Int→Int→Int}
  (rule:∀ (i j:Int) (t u:Tok) (s:Shared) (Q:Value→Shared→Prop) (E:Value→Shared→Prop),Q (.int (g i j) s.toks) { s with toks:=s.toks+1 }→wpAny (model X.prog X.w) X.A (f (.int i t) (.int j u)) Q E s) :
  OpR X f (rI0 fun i j=>.int (g i j)):=by
 intro pins s σ H x y v u Q I rx ry h
 obtain⟨i,j,rfl,rfl,q⟩:=h
 obtain⟨t,rfl⟩:=rx
 obtain⟨t',rfl⟩:=ry
 exact rule i j t t' s _ _ ⟨.int (g i j),H,I.tok _,⟨_,rfl⟩,q⟩
theorem ZnP{f:Value→Value→Sem Value}{g:Int→Int→Bool}
  (rule:∀ (i j:Int) (t u:Tok) (s:Shared) (Q:Value→Shared→Prop) (E:Value→Shared→Prop),Q (.bool (g i j)) s→wpAny (model X.prog X.w) X.A (f (.int i t) (.int j u)) Q E s) :
  OpR X f (rI0 fun i j=>.bl (g i j)):=by
 intro pins s σ H x y v u Q I rx ry h
 obtain⟨i,j,rfl,rfl,q⟩:=h
 obtain⟨t,rfl⟩:=rx
 obtain⟨t',rfl⟩:=ry
 exact rule i j t t' s _ _ ⟨.bl (g i j),H,I,rfl,q⟩
def ZoZ(i j:Int):Prop:=0<j∧j<1073741824
def CDivN(i j:Int):Prop:=j≠0∧j.natAbs<1073741824
def Zoc(i j:Int):Prop:=0≤j∧j≤1000000∧i.natAbs<2 ^ 64
def Zm7(i j:Int):Prop:=(-(2 ^ 64)<i∧i<2 ^ 64)∨(-(2 ^ 64)<j∧j<2 ^ 64)
theorem Zm7.ok{i j:Int}(h:Zm7 i j):IntMulOk i j:=by
 rcases h with⟨h1,h2⟩|⟨h1,h2⟩
 ·exact .of_left (intBits_le_64 h1 h2)
 ·exact .of_right (intBits_le_64 h1 h2)
theorem ZaP:OpR X (binaryOp .Add) (rI0 fun i j=>.int (i+j)):=Zof fun _ _ _ _ _ _ _ q=>add_int q
theorem Zga:OpR X (binaryOp .Sub) (rI0 fun i j=>.int (i-j)):=Zof fun _ _ _ _ _ _ _ q=>sub_int q
theorem ZdM:OpR X (binaryOp .Mult) (rI Zm7 fun i j=>.int (i*j)):=opI fun _ _ _ _ _ _ _ hc q=>mul_int q hc.ok
theorem ZfU:OpR X (binaryOp .FloorDiv) (rI ZoZ fun i j=>.int (i / j)):=opI fun i j _ _ _ _ _ hc q=>by
 have h1:(0:Int)<j:=hc.1
 have h2:j<1073741824:=hc.2
 exact floordiv_int (by omega) (by rw[Int.fdiv_eq_ediv_of_nonneg i (by omega)];exact q) (.inl (PyProof.noPylong_small (by omega)))
theorem Zex:OpR X (binaryOp .Mod) (rI (fun _ j=>0<j) fun i j=>.int (i % j)):=opI fun i j _ _ _ _ _ hc q=>by
 have h1:(0:Int)<j:=hc
 exact mod_int' (by omega) (by rw[Int.fmod_eq_emod_of_nonneg i (by omega)];exact q)
theorem Zkz:OpR X (binaryOp .Pow) (rI Zoc fun i j=>.int (i ^ j.toNat)):=opI fun _ _ _ _ _ _ _ hc q=>pow_int_small hc.1 hc.2.1 hc.2.2 q
theorem unI{f:Value→Sem Value}{g:Int→Int}
  (rule:∀ (i:Int) (t:Tok) (s:Shared) (Q:Value→Shared→Prop) (E:Value→Shared→Prop),Q (.int (g i) s.toks) { s with toks:=s.toks+1 }→wpAny (model X.prog X.w) X.A (f (.int i t)) Q E s) :
  UnR X f (rU fun i=>.int (g i)):=by
 intro pins s σ H x v Q I rx h
 obtain⟨i,rfl,q⟩:=h
 obtain⟨t,rfl⟩:=rx
 exact rule i t s _ _ ⟨.int (g i),H,I.tok _,⟨_,rfl⟩,q⟩
theorem Zgr:UnR X (unaryOp .USub) (rU fun i=>.int (-i)):=unI fun _ _ _ _ _ q=>neg_int q
end
def ZnU:V→V→Bool
 | .non,.non=>true|.non,.int _=>true|.int _,.non=>true|.non,.bl _=>true|.bl _,.non=>true|.non,.str _=>true|.str _,.non=>true
 | .int _,.int _=>true|.bl _,.bl _=>true|.str _,.str _=>true|.byt _,.byt _=>true
 | .int _,.str _=>true|.str _,.int _=>true|.bl _,.str _=>true|.str _,.bl _=>true
 | _,_=>false
def rEq:R2:=fun x y H Q=>ZnU x y=true∧Q (.bl (decide (x=y))) H
def rNe:R2:=fun x y H Q=>ZnU x y=true∧Q (.bl (!decide (x=y))) H
theorem Zin{i j:Int}:decide (V.int i=V.int j)=(i == j):=by
 rw[QaK]
 simp
theorem Zli{i j:Bool}:decide (V.bl i=V.bl j)=(i == j):=by
 rw[QaK]
 simp
theorem ZiJ{i j:Str}:decide (V.str i=V.str j)=(i == j):=by
 rw[QaK]
 simp
theorem Zip{i j:Array UInt8}:decide (V.byt i=V.byt j)=(i.toList == j.toList):=by
 rw[QaK]
 cases i
 cases j
 simp
section
variable {X:Cx} {a b c:Expr} {ta tb tc:TE} {pos:Pos}
theorem ZH{pins:List (Addr×Obj)}{σ:St}{H:Hp}{s:Shared}{Q:VK}{k k':Bool}(I:Inv X pins σ H s)(q:Q (.bl k) H)(e:k=k'):EP X pins σ Q (.bool k') s:=by
 subst e
 exact⟨.bl k,H,I,rfl,q⟩
theorem Zbw:OpR X (compareOp .Eq) rEq:=by
 intro pins s σ H x y v u Q I rx ry h
 obtain⟨hs,q⟩:=h
 cases x with
 | non =>
  cases rx
  cases y with
  | non=>cases ry;exact PySem.EqNone.eq_none_none (ZH I q (by simp))
  | bl j=>cases ry;exact PySem.EqNone.eq_none_bool (ZH I q (by simp))
  | int j=>obtain⟨t',rfl⟩:=ry;exact PySem.EqNone.eq_none_int (ZH I q (by simp))
  | str j=>obtain⟨t',rfl⟩:=ry;exact PySem.EqNone.eq_none_str (ZH I q (by simp))
  | _=>exact absurd (show false=true from hs) Qn
 | bl i =>
  cases rx
  cases y with
  | non=>cases ry;exact PySem.EqNone.eq_bool_none (ZH I q (by simp))
  | bl j=>cases ry;exact eq_bool (ZH I q Zli)
  | str j=>obtain⟨t',rfl⟩:=ry;exact PySem.EqMixed.eq_bool_str (ZH I q (by simp))
  | _=>exact absurd (show false=true from hs) Qn
 | int i =>
  obtain⟨t,rfl⟩:=rx
  cases y with
  | non=>cases ry;exact PySem.EqNone.eq_int_none (ZH I q (by simp))
  | int j=>obtain⟨t',rfl⟩:=ry;exact eq_int (ZH I q Zin)
  | str j=>obtain⟨t',rfl⟩:=ry;exact PySem.EqMixed.eq_int_str (ZH I q (by simp))
  | _=>exact absurd (show false=true from hs) Qn
 | str i =>
  obtain⟨t,rfl⟩:=rx
  cases y with
  | non=>cases ry;exact PySem.EqNone.eq_str_none (ZH I q (by simp))
  | bl j=>cases ry;exact PySem.EqMixed.eq_str_bool (ZH I q (by simp))
  | int j=>obtain⟨t',rfl⟩:=ry;exact PySem.EqMixed.eq_str_int (ZH I q (by simp))
  | str j=>obtain⟨t',rfl⟩:=ry;exact eq_str (ZH I q ZiJ)
  | _=>exact absurd (show false=true from hs) Qn
 | byt i =>
  obtain⟨t,rfl⟩:=rx
  cases y with
  | byt j=>obtain⟨t',rfl⟩:=ry;exact PySem.W.eq_bytes (ZH I q Zip)
  | _=>exact absurd (show false=true from hs) Qn
 | _=>cases y<;>exact absurd (show false=true from hs) Qn
theorem ZmH:OpR X (compareOp .NotEq) rNe:=by
 intro pins s σ H x y v u Q I rx ry h
 obtain⟨hs,q⟩:=h
 cases x with
 | non =>
  cases rx
  cases y with
  | non=>cases ry;exact PySem.EqNone.ne_none_none (ZH I q (by simp))
  | bl j=>cases ry;exact PySem.EqNone.ne_none_bool (ZH I q (by simp))
  | int j=>obtain⟨t',rfl⟩:=ry;exact PySem.EqNone.ne_none_int (ZH I q (by simp))
  | str j=>obtain⟨t',rfl⟩:=ry;exact PySem.EqNone.ne_none_str (ZH I q (by simp))
  | _=>exact absurd (show false=true from hs) Qn
 | bl i =>
  cases rx
  cases y with
  | non=>cases ry;exact PySem.EqNone.ne_bool_none (ZH I q (by simp))
  | bl j=>cases ry;exact ne_bool (ZH I q (congrArg not Zli))
  | str j=>obtain⟨t',rfl⟩:=ry;exact PySem.EqMixed.ne_bool_str (ZH I q (by simp))
  | _=>exact absurd (show false=true from hs) Qn
 | int i =>
  obtain⟨t,rfl⟩:=rx
  cases y with
  | non=>cases ry;exact PySem.EqNone.ne_int_none (ZH I q (by simp))
  | int j=>obtain⟨t',rfl⟩:=ry;exact ne_int (ZH I q (congrArg not Zin))
  | str j=>obtain⟨t',rfl⟩:=ry;exact PySem.EqMixed.ne_int_str (ZH I q (by simp))
  | _=>exact absurd (show false=true from hs) Qn
 | str i =>
  obtain⟨t,rfl⟩:=rx
  cases y with
  | non=>cases ry;exact PySem.EqNone.ne_str_none (ZH I q (by simp))
  | bl j=>cases ry;exact PySem.EqMixed.ne_str_bool (ZH I q (by simp))
  | int j=>obtain⟨t',rfl⟩:=ry;exact PySem.EqMixed.ne_str_int (ZH I q (by simp))
  | str j=>obtain⟨t',rfl⟩:=ry;exact ne_str (ZH I q (congrArg not ZiJ))
  | _=>exact absurd (show false=true from hs) Qn
 | byt i =>
  obtain⟨t,rfl⟩:=rx
  cases y with
  | byt j=>obtain⟨t',rfl⟩:=ry;exact PySem.W.ne_bytes (ZH I q (congrArg not Zip))
  | _=>exact absurd (show false=true from hs) Qn
 | _=>cases y<;>exact absurd (show false=true from hs) Qn
theorem ZeT:OpR X (compareOp .Lt) (rI0 fun i j=>.bl (decide (i<j))):=ZnP fun _ _ _ _ _ _ _ q=>lt_int q
theorem Zg2:OpR X (compareOp .Gt) (rI0 fun i j=>.bl (decide (j<i))):=ZnP fun _ _ _ _ _ _ _ q=>gt_int q
theorem ZoK:OpR X (compareOp .GtE) (rI0 fun i j=>.bl (decide (j≤i))):=ZnP fun _ _ _ _ _ _ _ q=>ge_int q
theorem Zjk:OpR X (compareOp .Lt) (fun x y H Q=>∃i j,x=.str i∧y=.str j∧Q (.bl (decide (i.cps.toList<j.cps.toList))) H):=by
 intro pins s σ H x y v u Q I rx ry h
 obtain⟨i,j,rfl,rfl,q⟩:=h
 obtain⟨t,rfl⟩:=rx
 obtain⟨t',rfl⟩:=ry
 exact lt_str (ZH I q rfl)
theorem Zcb:OpR X (compareOp .Is) (fun x y H Q=>y=.non∧Q (.bl (decide (x=.non))) H):=by
 intro pins s σ H x y v u Q I rx ry h
 obtain⟨rfl,q⟩:=h
 cases ry
 refine is_none_gen (ZH I q ?_)
 cases x<;>first
  | (cases rx;rfl)
  | (obtain⟨t,rfl⟩:=rx;rfl)
theorem Zgq:OpR X (compareOp .IsNot) (fun x y H Q=>y=.non∧Q (.bl (!decide (x=.non))) H):=by
 intro pins s σ H x y v u Q I rx ry h
 obtain⟨rfl,q⟩:=h
 cases ry
 refine isnot_none_gen (ZH I q ?_)
 cases x<;>first
  | (cases rx;rfl)
  | (obtain⟨t,rfl⟩:=rx;rfl)
def isObj:HO→Bool
 | .lst _=>true
 | .ins _ _ _=>true
 | _=>false
theorem Zx(b:Expr){op:CmpOp}(h:op≠.In:=by decide)(h2:op≠.NotIn:=by decide):behindInMarks op b=false:=by
 have e1:(op == CmpOp.In)=false:=by cases op<;>first|rfl|exact absurd rfl h
 have e2:(op == CmpOp.NotIn)=false:=by cases op<;>first|rfl|exact absurd rfl h2
 cases b<;>simp[behindInMarks,e1,e2]
theorem ZcP{op:CmpOp}{r:R2}(ho:OpR X (compareOp op) r)(ha:PE X a ta)(hb:PE X b tb)(hm:behindInMarks op b=false):PE X (.Compare a [op] [b] pos) (tOp r ta tb):=by
 intro pins s σ H Q I h
 exact wpAny_Compare1 (Znt ha hb I h fun v u s2 x y H2 I2 rx ry q=>ho pins s2 σ H2 x y v u Q I2 rx ry q) hm
def ZnZ(t:TE):TT:=fun σ H Q=>t σ H fun x H'=>∃k,x=.bl k∧Q k H'
theorem Zs{op:CmpOp}{r:R2}(ho:OpR X (compareOp op) r)(ha:PE X a ta)(hb:PE X b tb)(hm:behindInMarks op b=false):PT X (.Compare a [op] [b] pos) (ZnZ (tOp r ta tb)):=by
 intro pins s σ H Q I h
 refine wpAny_isTrue_Compare1 (thn (ha pins s σ H _ I h) fun v s1 ⟨x,H1,I1,r1,q1⟩=>thn (hb pins s1 σ H1 _ I1 q1) fun u s2 ⟨y,H2,I2,r2,q2⟩=>
  thn (ho pins s2 σ H2 x y v u _ I2 r1 r2 q2) fun c s3 ⟨z,H3,I3,r3,k,e,q3⟩=>?_) hm
 subst e
 cases r3
 exact wpAny_truthy_bool ⟨H3,I3,q3⟩
def tChain(r r':R2)(ta tb tc:TE):TE:=fun σ H Q=>ta σ H fun x H1=>tb σ H1 fun y H2=>r x y H2 fun z H3=>∃k,z=.bl k ∧
 (if k=true then tc σ H3 fun w' H4=>r' y w' H4 Q else Q (.bl false) H3)
def Zo3(K:PySem.W.Frag)(x:V)(H:Hp)(k:Bool):Prop :=
 match x with
 | .non=>k=false
 | .bl b=>k=b
 | .int i=>k=(i != 0)
 | .str y=>y.length≤sizeLine∧k=((y.length:Int) != 0)
 | .byt y=>y.size≤sizeLine∧k=((y.size:Int) != 0)
 | .ref p=>(∃xs,SqL K H p xs∧k = !xs.isEmpty)∨(∃xs,SqT K H p xs∧k = !xs.isEmpty)∨∃kvs,H p=some (.dK kvs)∧k = !kvs.isEmpty
 | _=>False
theorem Zd7:(sizeLine:Nat)<2 ^ 63:=by rw[sizeLine_eq];decide
theorem Zhw:OpR X (binaryOp .Add) (fun x y H Q=>∃i j,x=.str i∧y=.str j∧i.length+j.length≤sizeLine∧Q (.str (i++j)) H):=by
 intro pins s σ H x y v u Q I rx ry h
 obtain⟨i,j,rfl,rfl,hz,q⟩:=h
 obtain⟨t,rfl⟩:=rx
 obtain⟨t',rfl⟩:=ry
 exact add_str (fun t' tk=>⟨.str (i++j),H,I.tok _,⟨_,rfl⟩,q⟩) hz
def PlainIxT(b:Expr):Prop:=∀o i,subscripted b false o i=operate [o,i] (getItem o i)
theorem Zcj{x:V}{us:List Value}(r:Zy [x] us):∃u,us=[u]∧Zw x u:=by
 cases r with
 | cons r1 r2=>cases r2;exact⟨_,rfl,r1⟩
theorem ZiL{x y:V}{us:List Value}(r:Zy [x,y] us):∃u w',us=[u,w']∧Zw x u∧Zw y w':=by
 cases r with
 | cons r1 r2 =>
  cases r2 with
  | cons r3 r4=>cases r4;exact⟨_,_,rfl,r1,r3⟩
theorem Zhl:Zap X (.builtin "abs") (fun xs H Q=>∃i,xs=[.int i]∧Q (.int (if i<0 then -i else i)) H):=by
 intro pins s σ H xs us Q I r h
 obtain⟨i,rfl,q⟩:=h
 obtain⟨u,rfl,t,rfl⟩:=Zcj r
 exact call_abs_int fun u tk=>⟨.int (if i<0 then -i else i),H,I.tok _,⟨_,rfl⟩,q⟩
theorem Zjf(hc:X.calm=true):Zap X (.builtin "max") (fun xs H Q=>∃i j,xs=[.int i,.int j]∧Q (.int (if j>i then j else i)) H):=by
 intro pins s σ H xs us Q I r h
 obtain⟨i,j,rfl,q⟩:=h
 obtain⟨u,w',rfl,⟨t,rfl⟩,⟨t',rfl⟩⟩:=ZiL r
 refine max_two_ints (I.ok.hd hc) fun h' tk k=>⟨_,H,I.kept k,?_,q⟩
 by_cases hj:j>i
 ·rw[if_pos hj,if_pos hj];exact⟨_,rfl⟩
 ·rw[if_neg hj,if_neg hj];exact⟨_,rfl⟩
theorem Zi2(hc:X.calm=true):Zap X (.builtin "min") (fun xs H Q=>∃i j,xs=[.int i,.int j]∧Q (.int (if j<i then j else i)) H):=by
 intro pins s σ H xs us Q I r h
 obtain⟨i,j,rfl,q⟩:=h
 obtain⟨u,w',rfl,⟨t,rfl⟩,⟨t',rfl⟩⟩:=ZiL r
 refine min_two_ints (I.ok.hd hc) fun h' tk k=>⟨_,H,I.kept k,?_,q⟩
 by_cases hj:j<i
 ·rw[if_pos hj,if_pos hj];exact⟨_,rfl⟩
 ·rw[if_neg hj,if_neg hj];exact⟨_,rfl⟩
theorem Zi3:Zap X (.type "int") (fun xs H Q=>(∃i,xs=[.int i]∧Q (.int i) H)∨∃k,xs=[.bl k]∧Q (.int (if k then 1 else 0)) H):=by
 intro pins s σ H xs us Q I r h
 rcases h with⟨i,rfl,q⟩|⟨k,rfl,q⟩
 ·obtain⟨u,rfl,t,rfl⟩:=Zcj r
  exact call_int_int ⟨.int i,H,I,⟨_,rfl⟩,q⟩
 ·obtain⟨u,rfl,r1⟩:=Zcj r
  cases r1
  exact call_int_bool ⟨.int (if k then 1 else 0),H,I.tok _,⟨_,rfl⟩,q⟩
def LenV(K:PySem.W.Frag)(x:V)(H:Hp)(n:Nat):Prop :=
 match x with
 | .str y=>y.length≤sizeLine∧n=y.length
 | .byt y=>y.size≤sizeLine∧n=y.size
 | .ref p=>(∃xs,SqL K H p xs∧n=xs.length)∨∃xs,SqT K H p xs∧n=xs.length
 | _=>False
end
structure ZhQ (h:Heap) (x dx C:Addr) (mA:Str→Option Value):Prop where
 obj:h.get? x=some (PySem.W.instObj C dx)
 ns:h.Ns1 dx mA
 ne:dx≠x
theorem Zjl{h:Heap}{dx:Addr}{mA:Str→Option Value}(n:h.Ns1 dx mA):∃od,h.get? dx=some od∧∀name,PySem.W.lookIn name od=some (mA name):=by
 obtain⟨o,es,ep,ho,hd,hk,_,hm⟩:=n
 refine⟨o,ho,fun name=>?_⟩
 have e:=hm name
 unfold nsFind findBy at e
 rw[← Array.find?_toList]at e
 unfold PySem.W.lookIn
 rw[hd]
 dsimp only
 split
 ·rename_i y q
  rw[q]at e
  exact congrArg some e
 ·rename_i q
  rw[q]at e
  have a:es.toList.any (·.refKey)=false:=by
   rw[List.any_eq_false]
   intro y hy
   obtain⟨z,t,hkey⟩:=hk y (Array.mem_toList_iff.mp hy)
   simp[DictEntry.refKey,hkey]
  have a':¬ es.toList.any (·.refKey)=true:=by rw[a];exact Qn
  rw[if_neg a']
  exact congrArg some e
theorem ZhQ.look{h:Heap}{x dx C:Addr}{mA:Str→Option Value}(I:ZhQ h x dx C mA):∃od,PySem.W.InstAt h x (PySem.W.instObj C dx) C (some od)∧∀name,PySem.W.lookIn name od=some (mA name) :=
 let ⟨od,ho,hl⟩:=Zjl I.ns
 ⟨od,⟨I.obj,rfl,rfl,ho⟩,hl⟩
section
variable {prog:Program} {w:World} {A:Around} {E:Value→Shared→Prop} {s:Shared} {K:PySem.W.Frag} {x dx C f:Addr} {mA:Str→Option Value} {name:Str} {v:Value}
theorem ZlJ{expr:Bool}{Q:Value→Shared→Prop}(X:K.In s.heap)(I:ZhQ s.heap x dx C mA)(hg:PySem.W.plainGet K C name=true)(hh:PySem.W.hasDictIn K C=true)
  (ha:PySem.W.findIn K (.ref C) name=some none) (hv:mA name=some v) (hv':PySem.W.handedIn v=true) (h:Q v { s with toks:=s.toks+1 }) :
  wpAny (model prog w) A (getAttr (.ref x) name expr) Q E s:=by
 obtain⟨od,J,hl⟩:=I.look
 exact PySem.W.get_value X J (PySem.W.plainGet_of hg).1 (PySem.W.findObj_own hh ha rfl (by rw[hl,hv])) hv' h
theorem Zku{pl:Sem Bool}{Q:Value×List Value→Shared→Prop}(X:K.In s.heap)(I:ZhQ s.heap x dx C mA)(hg:PySem.W.plainGet K C name=true)
  (hf:PySem.W.findIn K (.ref C) name=some (some (.ref f))) (ht:PySem.W.isFn K (.ref f)=true) (hv:mA name=none) (h:Q (.ref f,[.ref x]) s) :
  wpAny (model prog w) A (getMethod (.ref x) name pl) Q E s:=by
 obtain⟨od,J,hl⟩:=I.look
 exact PySem.W.method_fn X J (PySem.W.plainGet_of hg).1 (PySem.W.plainGet_of hg).2 hf (beq_iff_eq.mp ht) (by show (PySem.W.lookIn name od).map (·.isSome)=some false;rw[hl,hv];rfl) h
theorem Zmq{ns:List Str}{Q:Unit→Shared→Prop}(X:K.In s.heap)(I:ZhQ s.heap x dx C mA)
  (hs:PySem.W.findIn K (.ref C) "__setattr__" = some (some (.builtin "object.__setattr__"))) (hp:PySem.W.plainOver K C=true) (ht:PySem.W.takerIn K C name=some none) (hh:PySem.W.hasDictIn K C=true)
  (hw:PySem.Within mA ns) (hsz:ns.length≤sizeLine)
  (h:∀h',ZhQ h' x dx C (fun y=>if y=name then some v else mA y)→Heap.SameBut dx s.heap h'→Q () { s with heap:=h',toks:=s.toks+2 }) :
  wpAny (model prog w) A (setAttr (.ref x) name v) Q E s:=by
 obtain⟨od,J,hl⟩:=I.look
 refine PySem.W.set_plain X J hs (PySem.W.osa_open (s:={ s with toks:=s.toks+1 }) (r:=none) X J hp ht fun b=>?_)
 obtain⟨cd,hc,hd'⟩:=PySem.W.any_some hh
 have hx:s.heap.get? x=some ⟨.ref C,some dx,.plain,#[]⟩:=I.obj
 refine wpAny_bind (wpAny_pure (wpAny_bind (wpAny_bind (wpAny_loadPart hx (wpAny_bind (PySem.W.Looks.here (s:={ s with toks:=s.toks+1 }) (PySem.W.looks_clsIn X hc) ?_))))))
 rw[hd']
 refine wpAny_pure (a:=some dx) (wpAny_bind (wpAny_pure (wpAny_bind ?_)))
 refine wpAny_nsSet1 (s:={ s with toks:=s.toks+1 }) I.ns fun h' hn2 hs2=>?_
 obtain⟨oD,esD,epD,hoD,hdD,hcD⟩:=hn2.count (PySem.Within.cons name v hw)
 refine wpAny_bind (wpAny_lookBehind hoD (by rw[hdD];exact pastItsLine_dict (QP hcD (by rw[QH];omega))) ?_)
 exact wpAny_pure (h _ ⟨(hs2.2 _ (Ne.symm I.ne)).trans I.obj,hn2,I.ne⟩ hs2)
theorem ZkW{R:Result→Shared→Prop}{vs:List Value}{kw:List (Str×Value)}(X:K.In s.heap)(hm:PySem.W.makesIn K C=true)
  (hi:PySem.W.findIn K (.ref C) "__init__" = some (some (.ref f))) (hf:PySem.W.typeIn K (.ref f)=some (.type "function"))
  (h:codeAny (model prog w) (A.under (.builtin "type.__call__" ⟨.ref C::vs,kw⟩)) (.call (.ref f) ⟨.ref (s.heap.objs.size+1)::vs,kw⟩) (PySem.W.InitBack (s.heap.objs.size+1) R)
   { s with heap:=(s.heap.push PySem.W.emptyDict).push (PySem.W.instObj C s.heap.objs.size) }) :
  codeAny (model prog w) A (.call (.ref C) ⟨vs,kw⟩) R s:=by
 obtain⟨hh,g,d,t,os⟩:=s
 exact PySem.W.make_core (PySem.W.makes_of X hm) (PySem.W.looks_findIn X hi) (fun self=>PySem.W.bind_fn X self hf) (.inl rfl) h
end
def Zl(f:Str)(v:V):List (Str×V)→List (Str×V)
 | []=>[(f,v)]
 | (g,x)::r=>if g=f then (g,v)::r else (g,x)::Zl f v r
theorem Zk(f g:Str)(v:V):∀fs:List (Str×V),(Zl f v fs).lookup g=if g=f then some v else fs.lookup g
 | []=>by
  show List.lookup g [(f,v)]=_
  by_cases h:g=f
  ·have hb:(g == f)=true:=beq_iff_eq.mpr h
   simp only[List.lookup,hb,if_pos h]
  ·have hb:(g == f)=false:=beq_eq_false_iff_ne.mpr h
   simp only[List.lookup,hb,if_neg h]
 | (k,x)::r=>by
  have ih:=Zk f g v r
  rw[show Zl f v ((k,x)::r)=(if k=f then (k,v)::r else (k,x)::Zl f v r) from rfl]
  by_cases hk:k=f
  ·rw[if_pos hk]
   by_cases h:g=k
   ·have hb:(g == k)=true:=beq_iff_eq.mpr h
    simp only[List.lookup,hb,if_pos (h.trans hk)]
   ·have hb:(g == k)=false:=beq_eq_false_iff_ne.mpr h
    simp only[List.lookup,hb,if_neg (fun e:g=f=>h (e.trans hk.symm))]
  ·rw[if_neg hk]
   by_cases h:g=k
   ·have hb:(g == k)=true:=beq_iff_eq.mpr h
    simp only[List.lookup,hb,if_neg (fun e:g=f=>hk (h.symm.trans e))]
   ·have hb:(g == k)=false:=beq_eq_false_iff_ne.mpr h
    simp only[List.lookup,hb]
    exact ih
theorem Zd9(f:Str)(v:V):∀fs:List (Str×V),f∈(Zl f v fs).map (·.1)∧∀g,g∈fs.map (·.1)→g∈(Zl f v fs).map (·.1)
 | []=>⟨by simp[Zl],fun g h=>by simp at h⟩
 | (k,x)::r=>by
  obtain⟨i1,i2⟩:=Zd9 f v r
  rw[show Zl f v ((k,x)::r)=(if k=f then (k,v)::r else (k,x)::Zl f v r) from rfl]
  by_cases hk:k=f
  ·rw[if_pos hk]
   subst hk
   exact⟨by simp,fun g h=>by simpa using h⟩
  ·rw[if_neg hk]
   refine⟨?_,fun g h=>?_⟩
   ·rw[Qe]
    exact Qi _ i1
   ·rw[Qe]at h ⊢
    rcases Qz.mp h with e|e
    ·exact List.mem_cons.mpr (.inl e)
    ·exact Qi _ (i2 g e)
theorem Zee(f:Str)(v:V):∀fs:List (Str×V),(Zl f v fs).length≤fs.length+1
 | []=>by simp[Zl]
 | (k,x)::r=>by
  have ih:=Zee f v r
  rw[show Zl f v ((k,x)::r)=(if k=f then (k,v)::r else (k,x)::Zl f v r) from rfl]
  by_cases hk:k=f
  ·rw[if_pos hk,QH,QH];omega
  ·rw[if_neg hk,QH,QH];omega
theorem Zcl.some_of{v:V}{o:Option Value}(r:Zcl (some v) o):∃u,o=some u∧Zw v u:=by
 cases o with
 | none=>exact(show False from r).elim
 | some u=>exact⟨u,rfl,r⟩
theorem Zcl.none_of{o:Option Value}(r:Zcl none o):o=none:=by
 cases o with
 | none=>rfl
 | some u=>exact(show False from r).elim
theorem ZiY{v:V}{u:Value}(r:Zw v u):PySem.W.handedIn u=true:=by
 cases v with
 | non=>cases (show u=Value.none from r);rfl
 | bl b=>cases (show u=Value.bool b from r);rfl
 | int i=>obtain⟨t,e⟩:=(show ∃t,u=Value.int i t from r);cases e;rfl
 | str x=>obtain⟨t,e⟩:=(show ∃t,u=Value.str x t from r);cases e;rfl
 | byt b=>obtain⟨t,e⟩:=(show ∃t,u=Value.bytes b t from r);cases e;rfl
 | flt b=>obtain⟨t,e⟩:=(show ∃t,u=Value.float b t from r);cases e;rfl
 | ref a=>cases (show u=Value.ref a from r);rfl
 | ty n=>cases (show u=Value.type n from r);rfl
section
variable {P:Program} {w:World} {H H':Hp} {h h':Heap} {a C dx:Addr} {fs fs':List (Str×V)}
theorem ZdB(hok:HOk P w H h)(e:H a=some (.ins C dx fs)):∃mA,ZhQ h a dx C mA∧(∀f,Zcl (fs.lookup f) (mA f))∧PySem.Within mA (fs.map (·.1))∧fs.length≤1000∧H dx=some (.own a):=by
 obtain⟨d,z,ne,ob,mA,n,r,q⟩:=(show Z3 P w H h a (.ins C dx fs) from hok a _ e)
 exact⟨mA,⟨ob,n,ne⟩,r,q,z,d⟩
end
structure Cls (K:PySem.W.Frag) (C:Addr):Prop where
 pg:PySem.W.plainGet K C Str.empty=true
 hd:PySem.W.hasDictIn K C=true
 po:PySem.W.plainOver K C=true
 sa:PySem.W.findIn K (.ref C) "__setattr__" = some (some (.builtin "object.__setattr__"))
theorem Cls.get{K:PySem.W.Frag}{C:Addr}(c:Cls K C)(f:Str):PySem.W.plainGet K C f=true:=c.pg
def ZaI(K:PySem.W.Frag)(C:Addr)(f:Str):Prop:=PySem.W.findIn K (.ref C) f=some none
theorem ZaI.taker{K:PySem.W.Frag}{C:Addr}{f:Str}(n:ZaI K C f):PySem.W.takerIn K C f=some none:=by
 unfold PySem.W.takerIn
 rw[show PySem.W.findIn K (.ref C) f=some none from n]
 rfl
structure Con (K:PySem.W.Frag) (C:Addr) (f:Str) (v:V) (u:Value):Prop where
 at_:PySem.W.findIn K (.ref C) f=some (some u)
 rel:Zw v u
 get:PySem.W.specialIn K u "__get__" = some none
 cp:PySem.W.copiedNames.contains f=false
structure Zkg (K:PySem.W.Frag) (C:Addr) (m:Str) (f:Addr):Prop where
 at_:PySem.W.findIn K (.ref C) m=some (some (.ref f))
 fn:PySem.W.isFn K (.ref f)=true
 kp:PySem.W.keepIn K (.ref f)=true
section
variable {X:Cx} {pins:List (Addr×Obj)} {σ:St} {H:Hp} {s:Shared} {a C dx:Addr} {fs:List (Str×V)} {f:Str} {v:V} {A:Around} {E:Value→Shared→Prop}
theorem Zet{b:Bool}{Q:Value→Shared→Prop}(I:Inv X pins σ H s)(e:H a=some (.ins C dx fs))(c:Cls X.K C)(n:ZaI X.K C f)(l:fs.lookup f=some v)
  (h:∀u s',Inv X pins σ H s'→Zw v u→Q u s'):wpAny (model X.prog X.w) A (getAttr (.ref a) f b) Q E s:=by
 obtain⟨mA,O,r,_,_,_⟩:=ZdB I.hok e
 obtain⟨u,hu,ru⟩:=Zcl.some_of (v:=v) (o:=mA f) (by rw[← l];exact r f)
 exact ZlJ I.kIn O (c.get f) c.hd n hu (ZiY ru) (h u _ (I.tok _) ru)
theorem ZeM{m:Str}{g:Addr}{pl:Sem Bool}{Q:Value×List Value→Shared→Prop}(I:Inv X pins σ H s)(e:H a=some (.ins C dx fs))(c:Cls X.K C)(k:Zkg X.K C m g)(l:fs.lookup m=none)
  (h:Q (.ref g,[.ref a]) s):wpAny (model X.prog X.w) A (getMethod (.ref a) m pl) Q E s:=by
 obtain⟨mA,O,r,_,_,_⟩:=ZdB I.hok e
 have hn:mA m=none:=Zcl.none_of (by rw[← l];exact r m)
 exact Zku I.kIn O (c.get m) k.at_ k.fn hn h
theorem ZeN{y:V}{u:Value}{Q:Unit→Shared→Prop}(I:Inv X pins σ H s)(e:H a=some (.ins C dx fs))(c:Cls X.K C)(n:ZaI X.K C f)(hl:fs.length<1000)(ry:Zw y u)
  (h:∀s',Inv X pins σ (upd H a (.ins C dx (Zl f y fs))) s'→Q () s'):wpAny (model X.prog X.w) A (setAttr (.ref a) f u) Q E s:=by
 obtain⟨mA,O,r,wi,_,ho⟩:=ZdB I.hok e
 have hz:(fs.map (·.1)).length≤sizeLine:=by rw[Qb,sizeLine_eq];omega
 refine Zmq I.kIn O c.sa c.po n.taker c.hd wi hz fun h' O' sb=>h _ ?_
 have hd:∃o,h'.get? dx=some o:=let ⟨o,_,_,e',_⟩:=O'.ns;⟨o,e'⟩
 refine I.write (x:=a) (e:=dx) (by rw[e];exact True.intro) (.inr ho) (fun b q hb z=>(sb.2 b hb).trans z) hd ?_
 refine⟨by rw[Zc O.ne];exact ho,?_,O.ne,O'.obj,_,O'.ns,fun g=>?_,fun g hg=>?_⟩
 ·have:=Zee f y fs;omega
 ·show Zcl ((Zl f y fs).lookup g) (if g=f then some u else mA g)
  rw[Zk]
  by_cases q:g=f
  ·rw[if_pos q,if_pos q];exact ry
  ·rw[if_neg q,if_neg q];exact r g
 ·by_cases q:g=f
  ·rw[q];exact(Zd9 f y fs).1
  ·refine(Zd9 f y fs).2 g (wi g fun z=>hg ?_)
   show (if g=f then some u else mA g)=none
   rw[if_neg q];exact z
theorem Inv.made(I:Inv X pins σ H s):Inv X pins σ (upd (upd H s.heap.objs.size (.own (s.heap.objs.size+1))) (s.heap.objs.size+1) (.ins C s.heap.objs.size []))
  { s with heap:=(s.heap.push PySem.W.emptyDict).push (PySem.W.instObj C s.heap.objs.size) }:=by
 have e1:(s.heap.push PySem.W.emptyDict).get? s.heap.objs.size=some PySem.W.emptyDict:=Qt s.heap rfl
 have e2:((s.heap.push PySem.W.emptyDict).push (PySem.W.instObj C s.heap.objs.size)).get? (s.heap.objs.size+1)=some (PySem.W.instObj C s.heap.objs.size):=by
  have:=Qt (s.heap.push PySem.W.emptyDict) (o:=PySem.W.instObj C s.heap.objs.size) rfl
  rwa [Qac]at this
 have e3:(s.heap.push PySem.W.emptyDict).Ns s.heap.objs.size (fun _=>none):=⟨PySem.W.emptyDict,#[],_,e1,rfl,(fun e he=>absurd he (by simp)),fun _=>rfl⟩
 have I1:=I.laid (a:=s.heap.objs.size) (o:=.own (s.heap.objs.size+1)) (h':=s.heap.push PySem.W.emptyDict) (t':=s.toks) (fun b u q=>Qc _ q) (Qf _) ⟨_,e1⟩
 refine I1.laid (a:=s.heap.objs.size+1) (o:=.ins C s.heap.objs.size []) (t':=s.toks) (fun b u q=>Qc _ q) (Nat.le_of_eq (Qac _ _)) ?_
 have ne:s.heap.objs.size≠s.heap.objs.size+1:=QE (Qa2 _)
 refine⟨by rw[Zc ne,Zd],Qv _,ne,e2,fun _=>none,(Heap.Ns1.of_empty e3).at fun o q=>Qc _ q,fun _=>True.intro,fun y hy=>absurd rfl hy⟩
theorem Zmv{prog:Program}{w:World}{env:Env}{e:Expr}{f:Str}{pos:Pos}{s:Shared}{Q:Value→Shared→Prop}(hb:attributeBase e f env (eval e env)=eval e env)
  (h:wpAny (model prog w) A (eval e env) (fun o s₁=>wpAny (model prog w) A (getAttr o f true) Q E s₁) E s):wpAny (model prog w) A (eval (.Attribute e f pos) env) Q E s :=
 Attribute_any_ h (by rw[arm_eval_Attribute,hb])
end
def ZoW(K:PySem.W.Frag)(ta:TE)(f:Str):TE:=fun σ H Q=>ta σ H fun x H1=>∃a C dx fs v,x=.ref a∧H1 a=some (.ins C dx fs)∧Cls K C∧ZaI K C f∧fs.lookup f=some v∧Q v H1
def tCon(K:PySem.W.Frag)(ta:TE)(f:Str):TE:=fun σ H Q=>ta σ H fun x H1=>∃a C dx fs v u,x=.ref a∧H1 a=some (.ins C dx fs)∧Cls K C∧Con K C f v u∧fs.lookup f=none∧Q v H1
def Zpf(K:PySem.W.Frag)(ta tv:TE)(f:Str):TS:=fun D σ H=>tv σ H fun y H1=>ta σ H1 fun x H2=>∃a C dx fs,x=.ref a∧H2 a=some (.ins C dx fs)∧Cls K C∧ZaI K C f∧fs.length<1000 ∧
 D.nx σ (upd H2 a (.ins C dx (Zl f y fs)))
def ZnV(X:Cx)(op:Operator)(rd:V→V→Hp→VK→Prop):Prop :=
 ∀ (pins:List (Addr×Obj)) (s:Shared) (σ:St) (H:Hp) (x y:V) (u v:Value) (Q:VK),Inv X pins σ H s→Zw x u→Zw y v→rd x y H Q→wpAny (model X.prog X.w) X.A (inplaceOp op u v) (EP X pins σ Q) X.xe s
def Zmt(K:PySem.W.Frag)(ta tv:TE)(rd:V→V→Hp→VK→Prop)(f:Str):TS:=fun D σ H=>ta σ H fun x H1=>∃a C dx fs v,x=.ref a∧H1 a=some (.ins C dx fs)∧Cls K C∧ZaI K C f∧fs.lookup f=some v ∧
 tv σ H1 fun y H2=>rd v y H2 fun z H3=>∃dx' fs',H3 a=some (.ins C dx' fs')∧fs'.length<1000∧D.nx σ (upd H3 a (.ins C dx' (Zl f z fs')))
section
variable {X:Cx} {o e value:Expr} {f:Str} {pos pos' tpos:Pos} {ta tv:TE}
theorem Z0(he:PE X e ta)(hb:attributeBase e f X.env (eval e X.env)=eval e X.env):PE X (.Attribute e f pos) (ZoW X.K ta f):=by
 intro pins s σ H Q I h
 refine Zmv hb (thn (he pins s σ H _ I h) ?_)
 rintro u s1 ⟨x,H1,I1,rx,a,C,dx,fs,v,ex,ea,c,n,l,q⟩
 subst ex
 obtain rfl:u=Value.ref a:=rx
 exact Zet I1 ea c n l fun u' s2 I2 ru=>⟨v,H1,I2,ru,q⟩
theorem Zbc(ha:PE X o ta)(hv:PE X value tv)(hs:swapsWith value (some (.Attribute o f pos')) pos.line X.env=pure false):PS X (.Assign [.Attribute o f pos'] value pos) (Zpf X.K ta tv f):=by
 intro pins s σ H D I h
 refine plainObj_wpAny_Assign_Attribute (thn (hv pins s σ H _ I h) fun u s1 ⟨y,H1,I1,ry,q⟩=>thn (ha pins s1 σ H1 _ I1 q) ?_) hs
 rintro ov s2 ⟨x,H2,I2,rx,a,C,dx,fs,ex,ea,c,n,l,q2⟩
 subst ex
 obtain rfl:ov=Value.ref a:=rx
 exact ZeN I2 ea c n l ry fun s3 I3=>⟨σ,_,I3,q2⟩
theorem ZcI{op:Operator}{rd:V→V→Hp→VK→Prop}(ha:PE X o ta)(hv:PE X value tv)(hop:ZnV X op rd):PS X (.AugAssign (.Attribute o f tpos) op value pos) (Zmt X.K ta tv rd f):=by
 intro pins s σ H D I h
 refine wpAny_AugAssign_AttributeAny (thn (ha pins s σ H _ I h) ?_)
 rintro ov s1 ⟨x,H1,I1,rx,a,C,dx,fs,v,ex,ea,c,n,l,q⟩
 subst ex
 obtain rfl:ov=Value.ref a:=rx
 refine Zet I1 ea c n l fun u s2 I2 ru=>thn (hv pins s2 σ H1 _ I2 q) fun w3 s3 ⟨y,H2,I3,ry,q3⟩=>thn (hop pins s3 σ H2 v y u w3 _ I3 ru ry q3) ?_
 rintro w4 s4 ⟨z,H3,I4,rz,dx',fs',ea',l',q4⟩
 exact ZeN I4 ea' c n l' rz fun s5 I5=>⟨σ,_,I5,q4⟩
def Zpj:V→V→Hp→VK→Prop:=fun x y H Q=>∃i j,x=.int i∧y=.int j∧Q (.int (i+j)) H
def rSub:V→V→Hp→VK→Prop:=fun x y H Q=>∃i j,x=.int i∧y=.int j∧Q (.int (i-j)) H
theorem Zf2:ZnV X .Add Zpj:=by
 rintro pins s σ H x y u v Q I rx ry ⟨i,j,rfl,rfl,q⟩
 obtain⟨t,rfl⟩:=(show ∃t,u=Value.int i t from rx)
 obtain⟨t',rfl⟩:=(show ∃t',v=Value.int j t' from ry)
 exact PyProof.Rows.iadd_int ⟨.int (i+j),H,I.tok _,⟨_,rfl⟩,q⟩
end
section
variable {X:Cx} {pins:List (Addr×Obj)} {σ:St} {H:Hp} {s:Shared} {A:Around} {E:Value→Shared→Prop} {Q:Value→Shared→Prop} {c:Value} {b:Bool}
inductive Zdy (K:PySem.W.Frag) (H:Hp):V→Value→Prop where
 | non:Zdy K H .non (.type "NoneType")
 | bl (x:Bool):Zdy K H (.bl x) (.type "bool")
 | int (i:Int):Zdy K H (.int i) (.type "int")
 | str (x:Str):Zdy K H (.str x) (.type "str")
 | flt (x:UInt64):Zdy K H (.flt x) (.type "float")
 | lst {a:Addr} {xs:List V} (e:H a=some (.lst xs)):Zdy K H (.ref a) (.type "list")
 | frz {a:Addr} {o:Obj} {xs:List V} (e:H a=some (.frz o (.lst xs))):Zdy K H (.ref a) (.type "list")
 | tup {a:Addr} {xs:List V} (e:H a=some (.tup xs)):Zdy K H (.ref a) (.type "tuple")
 | dK {a:Addr} {kvs:List (Key×V)} (e:H a=some (.dK kvs)):Zdy K H (.ref a) (.type "dict")
 | dT {a:Addr} {kvs:List (List Key×V)} (e:H a=some (.dT kvs)):Zdy K H (.ref a) (.type "dict")
 | ins {a C dx:Addr} {fs:List (Str×V)} (e:H a=some (.ins C dx fs)) (cl:Cls K C) (ha:PySem.W.findIn K (.ref C) "__class__" = some (some (.builtin "object.__class__")))
   (hn:PySem.W.specialIn K (.builtin "object.__class__") "__get__" = some (some (.builtin "getset_descriptor.__get__"))) (htk:PySem.W.takesIn K (.builtin "object.__class__")=some true)
   (hm:PySem.W.mroIn K C (.type "object")=some true):Zdy K H (.ref a) (.ref C)
theorem Zjp{x:V}{u t:Value}(I:Inv X pins σ H s)(rx:Zw x u)(ty:Zdy X.K H x t)(e:PySem.W.kitOne X.K t c=some b)(h:∀tk,Q (.bool b) { s with toks:=tk }) :
  wpAny (model X.prog X.w) A (call (.builtin "isinstance") [u,c]) Q E s:=by
 cases ty with
 | non=>cases (show u=Value.none from rx);exact Q1 PySem.W.kitx_none I.kIn True.intro e (fun z=>nomatch z) h
 | bl y=>cases (show u=Value.bool y from rx);exact Q1 PySem.W.kitx_bool I.kIn True.intro e (fun z=>nomatch z) h
 | int i=>obtain⟨t,q⟩:=(show ∃t,u=Value.int i t from rx);cases q;exact Q1 PySem.W.kitx_int I.kIn True.intro e (fun z=>nomatch z) h
 | str y=>obtain⟨t,q⟩:=(show ∃t,u=Value.str y t from rx);cases q;exact Q1 PySem.W.kitx_str I.kIn True.intro e (fun z=>nomatch z) h
 | flt y=>obtain⟨t,q⟩:=(show ∃t,u=Value.float y t from rx);cases q;exact Q1 PySem.W.kitx_float I.kIn True.intro e (fun z=>nomatch z) h
 | @lst a xs ea =>
  cases (show u=Value.ref a from rx)
  obtain⟨_,_,n,_,h1⟩:=(show Z3 X.prog X.w H s.heap a (.lst xs) from I.hok a _ ea)
  exact Q1 QaP I.kIn ⟨_,h1,rfl⟩ e (fun z=>nomatch z) h
 | @frz a ob xs ea =>
  cases (show u=Value.ref a from rx)
  obtain⟨_,_,_,n,_,h1⟩:=(show Z3 X.prog X.w H s.heap a (.frz ob (.lst xs)) from I.hok a _ ea)
  exact Q1 QaP I.kIn ⟨_,h1,rfl⟩ e (fun z=>nomatch z) h
 | @tup a xs ea =>
  cases (show u=Value.ref a from rx)
  obtain⟨_,_,_,p⟩:=(show Z3 X.prog X.w H s.heap a (.tup xs) from I.hok a _ ea)
  obtain⟨o,h1,h2,_⟩:=p
  exact Q1 PySem.W.kitx_tuple I.kIn ⟨o,h1,h2⟩ e (fun z=>nomatch z) h
 | @dK a kvs ea =>
  cases (show u=Value.ref a from rx)
  obtain⟨_,_,vs,_,p⟩:=(show Z3 X.prog X.w H s.heap a (.dK kvs) from I.hok a _ ea)
  obtain⟨o,es,ep,h1,h2,_⟩:=p
  exact Q1 QaQ I.kIn ⟨o,h1,h2.1⟩ e (fun z=>nomatch z) h
 | @dT a kvs ea =>
  cases (show u=Value.ref a from rx)
  obtain⟨_,_,xs,_,o,es,ep,h1,h2,_⟩:=(show Z3 X.prog X.w H s.heap a (.dT kvs) from I.hok a _ ea)
  exact Q1 QaQ I.kIn ⟨o,h1,h2.1⟩ e (fun z=>nomatch z) h
 | @ins a C dx fs ea cl ha hn htk hm =>
  cases (show u=Value.ref a from rx)
  obtain⟨mA,O,_⟩:=ZdB I.hok ea
  obtain⟨od,J,_⟩:=O.look
  exact Q1 (PySem.W.kitx_own (cl.get _) cl.hd ha hn htk hm) I.kIn J e (fun z=>nomatch z) h
end
structure ZaA (k:Nat) (A:Around):Prop where
 hd:A.handled=none
 dp:A.depth+3*k+5<recursionLimit
 un:A.units+16*k+200<cLine
 gd:A.guards=some []
theorem ZaA.mono{j k:Nat}{A:Around}(r:ZaA k A)(h:j≤k):ZaA j A:=⟨r.hd,by have:=r.dp;omega,by have:=r.un;omega,r.gd⟩
theorem ZaA.deeper{k:Nat}{A:Around}(r:ZaA (k+1) A)(env:Env):ZaA k (A.deeper env) :=
 ⟨r.hd,by have:=r.dp;show A.depth+1+3*k+5<_;omega,by have:=r.un;show A.units+3+16*k+200<_;omega,r.gd⟩
theorem Zh7{A:Around}{C:Addr}{us:List Value}{kw:List (Str×Value)}:(A.under (.builtin "type.__call__" ⟨.ref C::us,kw⟩)).depth=A.depth+1:=by
 first|rfl|simp[Around.under,Code.weight,Code.isCreation,Code.isGuard,Code.isCaller,Code.frames,Code.isFrame,guardIds]
theorem ZhZ{A:Around}{C:Addr}{us:List Value}{kw:List (Str×Value)}:(A.under (.builtin "type.__call__" ⟨.ref C::us,kw⟩)).units=A.units+1:=by
 first|rfl|simp[Around.under,Code.cUnits,Code.frames,Code.isFrame]
theorem ZaA.make{k:Nat}{A:Around}(r:ZaA (k+1) A)(C:Addr)(us:List Value)(kw:List (Str×Value)):ZaA k (A.under (.builtin "type.__call__" ⟨.ref C::us,kw⟩)) :=
 ⟨r.hd,by have:=r.dp;rw[Zh7];omega,by have:=r.un;rw[ZhZ];omega,by rw[show (A.under (.builtin "type.__call__" ⟨.ref C::us,kw⟩)).guards=A.guards from by first|rfl|simp[Around.under,pushGuards,Code.guards,Code.isGuard,guardIds]];exact r.gd⟩
theorem ZaA.depth{k:Nat}{A:Around}(r:ZaA k A):A.depth<recursionLimit:=by have:=r.dp;omega
theorem ZaA.units{k:Nat}{A:Around}(r:ZaA k A):A.units+64<cLine:=by have:=r.un;omega
def ZmS:TA:=fun _ H Q=>Q [] H
def ZoL(ta:TE)(tr:TA):TA:=fun σ H Q=>ta σ H fun x H1=>tr σ H1 fun xs H2=>Q (x::xs) H2
section
variable {X:Cx} {e:Expr} {es:List Expr} {te:TE} {t:TA} {pos:Pos}
theorem Ze:PA X [] ZmS:=fun _ _ _ _ H Q I h=>Calls.spliced_nil ⟨[],H,I,.nil,h⟩
theorem Za(ha:PE X e te)(hr:PA X es t)(hs:starEach (e::es) X.env=(false,eval e X.env)::starEach es X.env:=by rfl):PA X (e::es) (ZoL te t):=by
 intro pos pins s σ H Q I h
 rw[hs]
 show wpAny _ _ (spliced ((false,eval e X.env)::backTo pos (starEach es X.env))) _ _ s
 refine Calls.spliced_cons (thn (ha pins s σ H _ I h) ?_)
 rintro u s1 ⟨x,H1,I1,r1,q1⟩
 exact thn (hr pos pins s1 σ H1 _ I1 q1) fun us s2 ⟨xs,H2,I2,r2,q2⟩=>⟨x::xs,H2,I2,.cons r1 r2,q2⟩
def ZoY(t:TA):TE:=fun σ H Q=>t σ H fun xs H1=>xs.length≤sizeLine∧∀p,H1 p=none→Q (.ref p) (upd H1 p (.tup xs))
def ZoU(t:TA):TE:=fun σ H Q=>t σ H fun xs H1=>xs.length≤sizeLine∧∀p,H1 p=none→Q (.ref p) (upd H1 p (.lst xs))
theorem ZaV{x1}(h:PA X es t):PE X (.Tuple es x1 pos) (ZoY t):=by
 intro pins s σ H Q I hq
 refine wpAny_Tuple_spliced (thn (h pos pins s σ H _ I hq) fun us s1 ⟨xs,H1,I1,r,z,q⟩=>⟨by rw[← r.length];exact z,?_⟩)
 have hf:H1 s1.heap.objs.size=none:=I1.hok.fresh (Qf _)
 refine⟨.ref s1.heap.objs.size,upd H1 s1.heap.objs.size (.tup xs),I1.laid (t':=s1.toks) (fun b u e=>Qc _ e) (Qf _) ?_,rfl,q _ hf⟩
 exact⟨z,us,r,⟨_,Qt _ rfl,rfl,_,rfl⟩⟩
theorem ZaJ(h:PA X es t):PE X (.List es pos) (ZoU t):=by
 intro pins s σ H Q I hq
 refine wpAny_List_spliced (thn (h pos pins s σ H _ I hq) fun us s1 ⟨xs,H1,I1,r,z,q⟩=>⟨by rw[← r.length];exact z,?_⟩)
 have hf:H1 s1.heap.objs.size=none:=I1.hok.fresh (Qf _)
 refine⟨.ref s1.heap.objs.size,upd H1 s1.heap.objs.size (.lst xs),I1.laid (t':=s1.toks) (fun b u e=>Qc _ e) (Qf _) ?_,rfl,q _ hf⟩
 exact⟨z,us,0,r,Qt _ rfl⟩
end
abbrev Sp:=List V→Hp→VK→XK→Prop
abbrev CXT:=List Env→Hp→Shared→XK→Value→Shared→Prop
structure ZhI (P:Program) (w:World) (K:PySem.W.Frag) (mg:Str→Option Value) (base:Heap) (A:Around) (outer:List Env) (s:Shared) (H:Hp):Prop where
 frames:A.frames=some outer
 mod:Mod K mg base
 bs:∀b o,base.get? b=some o→s.heap.get? b=some o∧H b=none
 bsz:base.objs.size≤s.heap.objs.size
 funs:s.heap.FunFrames base outer
 frf:∀b∈frs outer,H b=none
 hok:HOk P w H s.heap
 bare:AllBare s.gens
def CE(outer:List Env)(P:Program)(w:World)(H:Hp)(s:Shared)(Q:VK)(u:Value)(s':Shared):Prop :=
 ∃v H',s'.os=s.os∧AllBare s'.gens∧Un (frs outer) [] H H' s.heap s'.heap∧HOk P w H' s'.heap∧Zw v u∧Q v H'
def CR(CX:CXT)(outer:List Env)(P:Program)(w:World)(H:Hp)(s:Shared)(Q:VK)(E:XK)(r:Result)(s':Shared):Prop :=
 match r with
 | .ok (.ret u)=>CE outer P w H s Q u s'
 | .ok _=>False
 | .error e=>CX outer H s E e s'
structure ZcU (P:Program) (w:World) (K:PySem.W.Frag) (mg:Str→Option Value) (base:Heap) (CX:CXT) (k:Nat) (f:Addr) (fd:FuncData) (ps:List Str) (sp:Sp):Prop where
 len:∀vs H Q E,sp vs H Q E→vs.length=ps.length
 run:∀ (A:Around) (outer:List Env) (s:Shared) (H:Hp) (args:Args) (us:List Value) (vs:List V) (Q:VK) (E:XK),ZaA k A→ZhI P w K mg base A outer s H→BindsTo s fd args (ps.zip us)→Zy vs us→sp vs H Q E →
  codeAny (model P w) A (.call (.ref f) args) (CR CX outer P w H s Q E) s
theorem ZhI.make{P:Program}{w:World}{K:PySem.W.Frag}{mg:Str→Option Value}{base:Heap}{A:Around}{outer:List Env}{s:Shared}{H:Hp}(e:ZhI P w K mg base A outer s H)(C:Addr)(us:List Value)(kw:List (Str×Value)) :
  ZhI P w K mg base (A.under (.builtin "type.__call__" ⟨.ref C::us,kw⟩)) outer s H:=⟨by first|exact e.frames|(simpa [Around.under,Code.envs,Code.isFrame,pushEnvs] using e.frames),e.mod,e.bs,e.bsz,e.funs,e.frf,e.hok,e.bare⟩
section
variable {X:Cx} {pins:List (Addr×Obj)} {σ:St} {H:Hp} {s s':Shared}
theorem Inv.env0(I:Inv X pins σ H s):ZhI X.prog X.w X.K X.mg X.base X.A X.stack s H :=
 ⟨I.ok.frames,I.ok.mod,I.bs,QP I.ok.bsz I.sz,I.stack,I.stkFree,I.hok,I.bare⟩
theorem Inv.after{Q:VK}{u:Value}(I:Inv X pins σ H s)(h:CE X.stack X.prog X.w H s Q u s'):EP X pins σ Q u s':=by
 obtain⟨v,H',os,bare,un,hok,r,q⟩:=h
 obtain⟨hh,g,d,t,os'⟩:=s'
 obtain rfl:os'=s.os:=os
 exact⟨v,H',I.call (h':=hh) (g':=g) (d':=d) (t':=t) (ch:=[]) un hok bare (fun b z=>absurd z (by simp)),r,q⟩
end
def ZmJ(sp:Sp)(dvs:List V)(E:XK)(t:TA):TE:=fun σ H Q=>t σ H fun vs H1=>sp (vs++dvs) H1 Q E
def ZiK(C:Addr)(m:Str)(sp:Sp)(dvs:List V)(E:XK)(ta:TE)(t:TA):TE:=fun σ H Q=>ta σ H fun x H1=>∃a dx fs,x=.ref a∧H1 a=some (.ins C dx fs)∧fs.lookup m=none ∧
 t σ H1 fun vs H2=>sp (x::(vs++dvs)) H2 Q E
def ZmE(C:Addr)(sp:Sp)(dvs:List V)(E:XK)(t:TA):TE:=fun σ H Q=>t σ H fun vs H1=>∀x dx,H1 x=none→H1 dx=none→dx≠x →
 sp (.ref x::(vs++dvs)) (upd (upd H1 dx (.own x)) x (.ins C dx [])) (fun v H2=>v=.non∧Q (.ref x) H2) E
def Zbv(K:PySem.W.Frag)(fd:FuncData)(ps:List Str)(ds:List Value):Prop :=
 ∀ (s:Shared) (us:List Value),K.In s.heap→(us++ds).length=ps.length→BindsTo s fd ⟨us,[]⟩ (ps.zip (us++ds))
theorem Zbv.all{K:PySem.W.Frag}{fd:FuncData}{ps:List Str}(h:∀us:List Value,us.length=ps.length→bindArgs fd ⟨us,[]⟩=pure (ps.zip us)):Zbv K fd ps []:=fun s us _ hl=>by
 rw[Qas]at hl ⊢
 exact .of_eq (h us hl)
def Zdd(CX:CXT)(X:Cx)(E:XK):Prop:=∀ (pins:List (Addr×Obj)) (σ:St) (H:Hp) (s:Shared) (e:Value) (s':Shared),Inv X pins σ H s→CX X.stack H s E e s'→X.xe e s'
section
variable {X:Cx} {CX:CXT} {k:Nat} {f C:Addr} {fd:FuncData} {ps:List Str} {sp:Sp} {dvs:List V} {ds:List Value} {E:XK} {x m:Str} {p pos apos:Pos} {e o:Expr} {es:List Expr} {ta:TE} {t:TA}
theorem ZhF{pins:List (Addr×Obj)}{σ:St}{H:Hp}{s:Shared}{Q:VK}{us:List Value}{vs:List V}(F:ZcU X.prog X.w X.K X.mg X.base CX k f fd ps sp)(hr:ZaA k X.A)(hb:Zbv X.K fd ps ds)(hd:Zy dvs ds)(hx:Zdd CX X E)
  (I:Inv X pins σ H s) (r:Zy vs us) (h:sp (vs++dvs) H Q E):wpAny (model X.prog X.w) X.A (call (.ref f) us) (EP X pins σ Q) X.xe s:=by
 have r2:Zy (vs++dvs) (us++ds):=r.append hd
 have hl:(us++ds).length=ps.length:=by rw[← r2.length];exact F.len _ _ _ _ h
 refine wpAny_call (codeAny_mono (F.run X.A X.stack s H ⟨us,[]⟩ (us++ds) (vs++dvs) Q E hr I.env0 (hb s us I.kIn hl) r2 h) fun r s' hq=>?_)
 cases r with
 | error e=>exact hx pins σ H s e s' I hq
 | ok fl =>
  cases fl with
  | ret u=>exact I.after hq
  | next=>exact False.elim hq
  | brk=>exact False.elim hq
  | cont=>exact False.elim hq
theorem Zmi(F:ZcU X.prog X.w X.K X.mg X.base CX k f fd ps sp)(hr:ZaA k X.A)(hg:Gl X x)(hm:X.mg x=some (.ref f))(hk:PySem.W.keepIn X.K (.ref f)=true)(hb:Zbv X.K fd ps ds)(hd:Zy dvs ds)(hx:Zdd CX X E)
  (ha:PA X (e::es) t) (hdb:(x == ("__debug__" : Str))=false:=by decide) (he:starEach (e::es) X.env=(false,eval e X.env)::starEach es X.env:=by rfl) (hpl:(backTo pos (starEach es X.env)).any (·.1)=false:=by rfl) :
  PE X (.Call (.Name x p) (e::es) [] pos) (ZmJ sp dvs E t):=by
 intro pins s σ H Q I h
 refine wpAny_Call_Name_kw (Zia I hg hm ?_ hdb)
 refine PySem.W.callWith_K (h₀:=X.base) I.ok.mod.kin hk (thn (ha pos pins s σ H _ I h) fun us s1 ⟨vs,H1,I1,r,q⟩=>⟨I1.kIn,?_⟩) he hpl
 exact ZhF F hr hb hd hx I1 r q
theorem Zmb{pl:Sem Bool}(he:PE X o ta)(c:Cls X.K C)(hm:Zkg X.K C m f)(F:ZcU X.prog X.w X.K X.mg X.base CX k f fd ps sp)(hr:ZaA k X.A)(hb:Zbv X.K fd ps ds)(hd:Zy dvs ds)(hx:Zdd CX X E)(ha:PA X (e::es) t)
  (hst:starEach (e::es) X.env=(false,eval e X.env)::starEach es X.env:=by rfl) (hpl:(backTo pos (starEach es X.env)).any (·.1)=false:=by rfl)
  (ht:eval (.Call (.Attribute o m apos) (e::es) [] pos) X.env=(do
   let ov ← eval o X.env
   standAt apos.atName
   let (f,first) ← holding [ov] (getMethod ov m pl)
   callWith pos f first (backTo pos (starEach (e::es) X.env)) (backToKw pos (keywordEach [] X.env))):=by rfl) :
  PE X (.Call (.Attribute o m apos) (e::es) [] pos) (ZiK C m sp dvs E ta t):=by
 intro pins s σ H Q I h
 refine PySem.W.methodCall_KW (pl:=pl) (thn (he pins s σ H _ I h) ?_) ht
 rintro u s1 ⟨x,H1,I1,rx,a,dx,fs,ex,ea,l,q⟩
 subst ex
 obtain rfl:u=Value.ref a:=rx
 refine ZeM I1 ea c hm l ?_
 refine PySem.W.callWith_K (first:=[.ref a]) (h₀:=X.base) I.ok.mod.kin hm.kp (thn (ha pos pins s1 σ H1 _ I1 q) fun us s2 ⟨vs,H2,I2,r,q2⟩=>⟨I2.kIn,?_⟩) hst hpl
 exact ZhF (us:=.ref a::us) (vs:=.ref a::vs) F hr hb hd hx I2 (.cons rfl r) q2
theorem Zkw{pl:Sem Bool}(he:PE X o ta)(c:Cls X.K C)(hm:Zkg X.K C m f)(F:ZcU X.prog X.w X.K X.mg X.base CX k f fd ps sp)(hr:ZaA k X.A)(hb:Zbv X.K fd ps ds)(hd:Zy dvs ds)(hx:Zdd CX X E)
  (ht:eval (.Call (.Attribute o m apos) [] [] pos) X.env=(do
   let ov ← eval o X.env
   standAt apos.atName
   let (f,first) ← holding [ov] (getMethod ov m pl)
   callWith pos f first (backTo pos (starEach [] X.env)) (backToKw pos (keywordEach [] X.env))):=by rfl) :
  PE X (.Call (.Attribute o m apos) [] [] pos) (ZiK C m sp dvs E ta ZmS):=by
 intro pins s σ H Q I h
 refine PySem.W.methodCall_KW (pl:=pl) (thn (he pins s σ H _ I h) ?_) ht
 rintro u s1 ⟨x,H1,I1,rx,a,dx,fs,ex,ea,l,q⟩
 subst ex
 obtain rfl:u=Value.ref a:=rx
 refine ZeM I1 ea c hm l ?_
 exact PySem.W.callWith_K0 (first:=[.ref a]) I1.kIn hm.kp (ZhF (us:=[.ref a]) (vs:=[.ref a]) F hr hb hd hx I1 (.cons rfl .nil) q)
structure Mk (K:PySem.W.Frag) (C f:Addr):Prop where
 makes:PySem.W.makesIn K C=true
 init:PySem.W.findIn K (.ref C) "__init__" = some (some (.ref f))
 fn:PySem.W.isFn K (.ref f)=true
 kp:PySem.W.keepIn K (.ref C)=true
theorem ZjR{pins:List (Addr×Obj)}{σ:St}{H:Hp}{s:Shared}{Q:VK}{us:List Value}{vs:List V}(M:Mk X.K C f)(F:ZcU X.prog X.w X.K X.mg X.base CX k f fd ps sp)(hr:ZaA (k+1) X.A)(hb:Zbv X.K fd ps ds)(hd:Zy dvs ds)
  (hx:Zdd CX X E) (I:Inv X pins σ H s) (r:Zy vs us)
  (h:∀x dx,H x=none→H dx=none→dx≠x→sp (.ref x::(vs++dvs)) (upd (upd H dx (.own x)) x (.ins C dx [])) (fun v H2=>v=.non∧Q (.ref x) H2) E) :
  wpAny (model X.prog X.w) X.A (call (.ref C) us) (EP X pins σ Q) X.xe s:=by
 have hq:=h (s.heap.objs.size+1) s.heap.objs.size (I.hok.fresh (Qay _)) (I.hok.fresh (Qf _)) (QE (Qa2 _))
 have I2:=Inv.made (C:=C) I
 have r2:Zy (V.ref (s.heap.objs.size+1)::(vs++dvs)) (Value.ref (s.heap.objs.size+1)::(us++ds)):=.cons rfl (r.append hd)
 have hl:(Value.ref (s.heap.objs.size+1)::us++ds).length=ps.length:=by
  have e:=r2.length
  rw[F.len _ _ _ _ hq]at e
  exact e.symm
 refine wpAny_call (ZkW (f:=f) I.kIn M.makes M.init (beq_iff_eq.mp M.fn) (codeAny_mono (F.run _ X.stack _ _ ⟨Value.ref (s.heap.objs.size+1)::us,[]⟩ (Value.ref (s.heap.objs.size+1)::(us++ds)) _ _ E (hr.make C us [])
  (I2.env0.make C us []) (hb _ (Value.ref (s.heap.objs.size+1)::us) I2.kIn hl) r2 hq) fun r s' hq'=>?_))
 cases r with
 | error e=>exact hx pins σ _ _ e s' I2 hq'
 | ok fl =>
  cases fl with
  | ret u =>
   obtain⟨v,H',I3,rv,ev,q3⟩:=I2.after hq'
   subst ev
   exact⟨rv,⟨V.ref (s.heap.objs.size+1),H',I3,rfl,q3⟩⟩
  | next=>exact False.elim hq'
  | brk=>exact False.elim hq'
  | cont=>exact False.elim hq'
theorem ZlP(M:Mk X.K C f)(F:ZcU X.prog X.w X.K X.mg X.base CX k f fd ps sp)(hr:ZaA (k+1) X.A)(hg:Gl X x)(hm:X.mg x=some (.ref C))(hb:Zbv X.K fd ps ds)(hd:Zy dvs ds)(hx:Zdd CX X E)
  (ha:PA X (e::es) t) (hdb:(x == ("__debug__" : Str))=false:=by decide) (he:starEach (e::es) X.env=(false,eval e X.env)::starEach es X.env:=by rfl) (hpl:(backTo pos (starEach es X.env)).any (·.1)=false:=by rfl) :
  PE X (.Call (.Name x p) (e::es) [] pos) (ZmE C sp dvs E t):=by
 intro pins s σ H Q I h
 refine wpAny_Call_Name_kw (Zia I hg hm ?_ hdb)
 refine PySem.W.callWith_K (h₀:=X.base) I.ok.mod.kin M.kp (thn (ha pos pins s σ H _ I h) fun us s1 ⟨vs,H1,I1,r,q⟩=>⟨I1.kIn,?_⟩) he hpl
 exact ZjR M F hr hb hd hx I1 r q
end
def PK(X:Cx)(kws:List Keyword)(t:TA):Prop :=
 ∀ (pos:Pos) (pins:List (Addr×Obj)) (s:Shared) (σ:St) (H:Hp) (Q:List V→Hp→Prop),Inv X pins σ H s→t σ H Q→wpAny (model X.prog X.w) X.A (evalAll ((backToKw pos (keywordEach kws X.env)).map (·.2))) (AP X pins σ Q) X.xe s
section
variable {X:Cx} {CX:CXT} {k:Nat} {f C:Addr} {fd:FuncData} {ps ks:List Str} {sp:Sp} {E:XK} {x m:Str} {p pos apos kpos:Pos} {e o:Expr} {es:List Expr} {kws:List Keyword} {te ta:TE} {t tk:TA} {nm:Option Str}
structure KBinds (K:PySem.W.Frag) (fd:FuncData) (ps ks:List Str) (g:List Value→List Value→List Value) (gV:List V→List V→List V):Prop where
 to:∀ (s:Shared) (us ws:List Value),K.In s.heap→(g us ws).length=ps.length→BindsTo s fd ⟨us,ks.zip ws⟩ (ps.zip (g us ws))
 rel:∀ {vs:List V} {us:List Value} {zs:List V} {ws:List Value},Zy vs us→Zy zs ws→Zy (gV vs zs) (g us ws)
def tCallK(sp:Sp)(gV:List V→List V→List V)(E:XK)(t tk:TA):TE:=fun σ H Q=>t σ H fun vs H1=>tk σ H1 fun zs H2=>sp (gV vs zs) H2 Q E
variable {g:List Value→List Value→List Value} {gV:List V→List V→List V}
end
structure Zq (N P:List Str) (sc:Scope):Prop where
 kind:sc.kind=.function
 co:sc.isCoroutine=false
 gen:sc.isGenerator=false
 nd:N.Nodup
 pre:N.take P.length=P
 par:∀x∈P,sc.names.lookup x=some .local∨sc.names.lookup x=some .cell
 nofree:∀y∈sc.names,y.2≠.free
theorem Zfq{kindOf:Str→Option NameKind}{x:Str}:∀ {binds:List (Str×Value)} {m:Str→Option Value},(∀v,(x,v) ∉ binds)→bindL kindOf binds m x=m x
 | [],_,_=>rfl
 | (n,v)::r,m,h=>by
  unfold bindL
  rw[Zfq fun w hw=>h w (Qi _ hw)]
  split
  ·have:x≠n:=by rintro rfl;exact h v QA
   simp[this]
  ·rfl
theorem ZfQ{kindOf:Str→Option NameKind}{x:Str}:∀ {binds:List (Str×Value)} {m:Str→Option Value},(∀v,(x,v) ∉ binds)→bindC kindOf binds m x=m x
 | [],_,_=>rfl
 | (n,v)::r,m,h=>by
  unfold bindC
  rw[ZfQ fun w hw=>h w (Qi _ hw)]
  split
  ·rfl
  ·have:x≠n:=by rintro rfl;exact h v QA
   simp[this]
theorem Zfo{kindOf:Str→Option NameKind}{x:Str}{v:Value}:∀ {P:List Str} {vs:List Value} {i:Nat} {m:Str→Option Value},P.Nodup→P[i]? = some x→vs[i]? = some v→kindOf x=some .local →
  bindL kindOf (P.zip vs) m x=some v
 | [],_,_,_,_,h,_,_=>by simp at h
 | _::_,[],_,_,_,_,h,_=>by simp at h
 | p::P,w::vs,0,m,nd,h1,h2,hk=>by
  simp at h1 h2;subst h1;subst h2
  show bindL kindOf ((p,w)::P.zip vs) m p=_
  unfold bindL
  rw[Zfq fun v hv=>(Q3.mp nd).1 (List.of_mem_zip hv).1,if_pos hk]
  simp
 | p::P,w::vs,i+1,m,nd,h1,h2,hk=>by
  show bindL kindOf ((p,w)::P.zip vs) m x=_
  unfold bindL
  exact Zfo (i:=i) (Q3.mp nd).2 (by simpa using h1) (by simpa using h2) hk
theorem ZfF{kindOf:Str→Option NameKind}{x:Str}{v:Value}:∀ {P:List Str} {vs:List Value} {i:Nat} {m:Str→Option Value},P.Nodup→P[i]? = some x→vs[i]? = some v→kindOf x≠some .local →
  bindC kindOf (P.zip vs) m x=some v
 | [],_,_,_,_,h,_,_=>by simp at h
 | _::_,[],_,_,_,_,h,_=>by simp at h
 | p::P,w::vs,0,m,nd,h1,h2,hk=>by
  simp at h1 h2;subst h1;subst h2
  show bindC kindOf ((p,w)::P.zip vs) m p=_
  unfold bindC
  rw[ZfQ fun v hv=>(Q3.mp nd).1 (List.of_mem_zip hv).1,if_neg hk]
  simp
 | p::P,w::vs,i+1,m,nd,h1,h2,hk=>by
  show bindC kindOf ((p,w)::P.zip vs) m x=_
  unfold bindC
  exact ZfF (i:=i) (Q3.mp nd).2 (by simpa using h1) (by simpa using h2) hk
def Zcq(N:List Str)(vs:List V):St:=vs.map some++List.replicate (N.length-vs.length) none
def Zf4(CX:CXT)(P:Program)(w:World)(K:PySem.W.Frag)(mg:Str→Option Value)(base:Heap)(N:List Str)(qual:Str)(scope:Scope)(f:Addr)(cd:Value)(A:Around)(outer:List Env)(s:Shared)(H:Hp)(E:XK):Cx where
 prog:=P
 w:=w
 K:=K
 mg:=mg
 base:=base
 A:=A.deeper (envOfC qual scope s.heap.objs.size f cd)
 N:=N
 s₀:=s
 H₀:=H
 env:=envOfC qual scope s.heap.objs.size f cd
 outer:=outer
 stack:=envOfC qual scope s.heap.objs.size f cd::outer
 ex:=[]
 calm:=true
 fn:=fun _=>true
 pn:=[]
 xe:=fun e s'=>wpAny (model P w) (A.deeper (envOfC qual scope s.heap.objs.size f cd)) (leaving (envOfC qual scope s.heap.objs.size f cd) e) (fun _ s''=>CX outer H s E e s'') (fun e' s''=>CX outer H s E e' s'') s'
theorem Zhf{sc:Scope}{n:Nat}{x:Str}(h:sc.names.lookup x=some .cell):∃c,(cellsFrom n sc.names []).lookup x=some c:=by
 have q:=PySem.W.cellsFrom_some sc.names n [] (.inl h)
 exact Option.isSome_iff_exists.mp q
theorem Zjc{CX:CXT}{P:Program}{w:World}{K:PySem.W.Frag}{mg:Str→Option Value}{base:Heap}{N ps:List Str}{qual:Str}{scope:Scope}{f:Addr}{cd:Value}{A:Around}{outer:List Env}{s s1:Shared}{H:Hp}{E:XK}{us:List Value}{vs:List V}
  (S:Zq N ps scope) (hd:A.handled=none) (e0:ZhI P w K mg base A outer s H) (hl:vs.length=ps.length) (r:Zy vs us)
  (x:InCallC s s.heap.objs.size (bindL (envOfC qual scope s.heap.objs.size f cd).kindOf (ps.zip us) fun _=>none) (cellsFrom (s.heap.objs.size+1) scope.names []) (bindC (envOfC qual scope s.heap.objs.size f cd).kindOf (ps.zip us) fun _=>none) s1) :
  Inv (Zf4 CX P w K mg base N qual scope f cd A outer s H E) [] (Zcq N vs) H s1:=by
 have hpl:ps.length≤N.length:=by have:=congrArg List.length S.pre;rw[Qr]at this;omega
 obtain⟨h1,tk,rfl,hk⟩:=x.done
 have noA:∀b:Addr,b ∉ (Zf4 CX P w K mg base N qual scope f cd A outer s H E).ex:=fun b z=>absurd (show b∈([]:List Addr) from z) (by simp)
 refine⟨⟨e0.mod,S.kind,rfl,rfl,Qf _,fun y z c h1 h2=>?_,fun y hy=>?_,fun y c _ h=>?_,fun _=>hd,Around.frames_deeper e0.frames,.inr ⟨rfl,rfl⟩,fun b z=>absurd z (noA b),e0.bs,e0.bsz,fun b _ _=>noA b,fun b z=>absurd z (noA b),e0.funs,e0.frf⟩,
  rfl,e0.bare,Un.kept hk,⟨_,x.toInCall.ns,fun i y v h1 h2 h3=>?_⟩,fun y c h=>⟨_,x.cell y c h⟩,e0.hok.fresh (Qf _),fun y c h=>?_,fun p hp=>absurd (show p∈([]:List (Addr×Obj)) from hp) (by simp),e0.hok.kept hk,?_⟩
 ·exact name_of_addr x.apart (Qaf h1) (Qaf h2)
 ·have hy:scope.names.lookup y=some .cell∨scope.names.lookup y=some .free:=hy
  rcases hy with hy|hy
  ·exact Zhf hy
  ·exact absurd rfl (S.nofree _ (Qaf hy))
 ·exact Nat.le_of_lt (x.above y c (Qaf h))
 ·have hi:i<vs.length:=by
   unfold Zcq at h2
   by_cases hi:i<vs.length
   ·exact hi
   ·rw[QN (by simpa using hi)]at h2
    rw[List.getElem?_replicate]at h2
    split at h2<;>cases h2
  have ha:vs[i]? = some v:=by
   unfold Zcq at h2
   rw[Q5 (by simpa using hi),Qu]at h2
   cases e:vs[i]? with
   | none=>rw[e]at h2;cases h2
   | some a=>rw[e]at h2;cases h2;rfl
  obtain⟨u,hu,rv⟩:=r.get ha
  have hp:ps[i]? = some y:=by
   rw[← S.pre,List.getElem?_take_of_lt (by omega)];exact h1
  have ndP:ps.Nodup:=by rw[← S.pre];exact S.nd.sublist (QaR _ _)
  refine⟨u,rv,?_⟩
  rcases S.par y (QM hp) with k|k
  ·exact .inl ⟨k,Zfo ndP hp hu k⟩
  ·obtain⟨c,e⟩:=Zhf (n:=s.heap.objs.size+1) k
   refine .inr ⟨.inl k,c,e,?_⟩
   have q:=x.cell y c e
   rw[ZfF ndP hp hu (by show scope.names.lookup y≠_;rw[k];decide)]at q
   exact q
 ·exact e0.hok.fresh (Nat.le_of_lt (x.above y c (Qaf h)))
 ·unfold Zcq
  show _=N.length
  rw[Qd,Qb,Qau]
  omega
theorem Zom{CX:CXT}{P:Program}{w:World}{K:PySem.W.Frag}{mg:Str→Option Value}{base:Heap}{k:Nat}{f:Addr}{name qual:Str}{params:Arguments}{body:List Stmt}{scope:Scope}{dV kV doc pm cdv ct oc:Value}{an od:Option Addr}
  {osl:Array (Option Value)} {N ps:List Str} {sp:Sp} (lk:K.lookup f=some ⟨oc,od,.func (PySem.W.fnOf name qual params body scope dV kV doc pm an cdv ct),osl⟩) (hcd:PySem.W.codeIn K cdv qual=true) (S:Zq N ps scope)
  (len:∀vs H Q E,sp vs H Q E→vs.length=ps.length)
  (hbody:∀ (A:Around) (outer:List Env) (s:Shared) (H:Hp) (vs:List V) (Q:VK) (E:XK),ZaA k (A.deeper (envOfC qual scope s.heap.objs.size f cdv))→sp vs H Q E →
   ∃t,PSs (Zf4 CX P w K mg base N qual scope f cdv A outer s H E) body t∧t { nx:=fun _ H'=>Q .non H',rt:=Q } (Zcq N vs) H) :
  ZcU P w K mg base CX (k+1) f (PySem.W.fnOf name qual params body scope dV kV doc pm an cdv ct) ps sp:=by
 refine⟨len,fun A outer s H args us vs Q E hr e0 hb r hsp=>?_⟩
 have hl:=len _ _ _ _ hsp
 have KX:K.In s.heap:=e0.mod.kin.keeps fun b o e=>(e0.bs b o e).1
 have lim:s.heap.NoLimit:=e0.mod.nolimit.keeps fun b o e=>(e0.bs b o e).1
 have hkind:∀y∈ps.zip us,scope.names.lookup y.1=some .local∨(scope.names.lookup y.1=some .cell∧((cellsFrom (s.heap.objs.size+1) scope.names []).lookup y.1).isSome=true):=fun ⟨n,v⟩ hy=>by
  rcases S.par n (List.of_mem_zip hy).1 with q|q
  ·exact .inl q
  ·exact .inr ⟨q,PySem.W.cellsFrom_some _ _ _ (.inl q)⟩
 refine codeAny_call_function hr.depth (KX _ _ lk) rfl S.co S.gen rfl (PySem.W.codeRec_of KX hcd) (hb _ _ _ _ ?_)
 refine wpAny_newFunctionEnv_cells S.kind hkind fun env he s1 x=>?_
 subst he
 refine⟨lim.keeps x.toInCall.keep,codeAny_func ?_⟩
 obtain⟨t,ht,hq⟩:=hbody A outer s H vs Q E (hr.deeper _) hsp
 have I:Inv (Zf4 CX P w K mg base N qual scope f cdv A outer s H E) [] (Zcq N vs) H s1:=Zjc S hr.hd e0 hl r x
 refine wpAny_mono (ht [] s1 (Zcq N vs) H _ I hq) (fun fl s' hs=>?_) fun e s' hs=>hs
 have fin:∀ {σ':St} {H':Hp} {v:V} {u:Value},Inv (Zf4 CX P w K mg base N qual scope f cdv A outer s H E) [] σ' H' s'→Zw v u→Q v H'→CE outer P w H s Q u s' :=
  fun {σ' H' v u} J rv q=>⟨v,H',J.os,J.bare,J.base,J.hok,rv,q⟩
 cases fl with
 | ret u =>
  obtain⟨v,σ',H',J,rv,q⟩:=hs
  exact fin J rv q
 | next =>
  obtain⟨σ',H',J,q⟩:=hs
  exact fin (v:=V.non) (u:=Value.none) J rfl q
 | brk =>
  obtain⟨_,_,_,q⟩:=hs
  exact False.elim q
 | cont =>
  obtain⟨_,_,_,q⟩:=hs
  exact False.elim q
section
variable {X:Cx} {x:Str} {p pos:Pos} {e:Expr} {es:List Expr} {t:TA} {id T:String} {r:List V→Hp→VK→Prop}
def tCB(r:List V→Hp→VK→Prop)(t:TA):TE:=fun σ H Q=>t σ H fun vs H1=>r vs H1 Q
theorem Zm(hc:Zap X (.builtin id) r)(hg:Gl X x)(hm:X.mg x=none)(hv:bootBuiltins x=some (.builtin id))(ha:PA X (e::es) t)(hn:x ≠ "__name__":=by decide)(hdb:(x == ("__debug__" : Str))=false:=by decide)
  (he:starEach (e::es) X.env=(false,eval e X.env)::starEach es X.env:=by rfl) (hpl:(backTo pos (starEach es X.env)).any (·.1)=false:=by rfl):PE X (.Call (.Name x p) (e::es) [] pos) (tCB r t):=by
 intro pins s σ H Q I h
 refine wpAny_Call_Name_kw (Zc8 I hg hm hv ?_ hn hdb)
 exact PyProof.Rows.callWith_builtin1 (thn (ha pos pins s σ H _ I h) fun us s1 ⟨vs,H1,I1,r1,q1⟩=>hc pins s1 σ H1 vs us Q I1 r1 q1) he hpl
theorem ZcN(hc:Zap X (.type T) r)(hg:Gl X x)(hm:X.mg x=none)(hv:bootBuiltins x=some (.type T))(ha:PA X (e::es) t)(hn:x ≠ "__name__":=by decide)(hdb:(x == ("__debug__" : Str))=false:=by decide)
  (he:starEach (e::es) X.env=(false,eval e X.env)::starEach es X.env:=by rfl) (hpl:(backTo pos (starEach es X.env)).any (·.1)=false:=by rfl):PE X (.Call (.Name x p) (e::es) [] pos) (tCB r t):=by
 intro pins s σ H Q I h
 refine wpAny_Call_Name_kw (Zc8 I hg hm hv ?_ hn hdb)
 exact Q8 (thn (ha pos pins s σ H _ I h) fun us s1 ⟨vs,H1,I1,r1,q1⟩=>hc pins s1 σ H1 vs us Q I1 r1 q1) he hpl
end
end L2
namespace HT
open PySem PyProof.Rows
def lexLt:List Int→List Int→Bool
 | [],[]=>false
 | [],_::_=>true
 | _::_,[]=>false
 | x::xs,y::ys=>if x=y then lexLt xs ys else decide (x<y)
theorem Znx(x y:Int)(xs ys:List Int):lexLt (x::xs) (y::ys)=if x=y then lexLt xs ys else decide (x<y):=rfl
theorem Zlt:lexLt [] []=false:=rfl
theorem Zkc(y:Int)(ys:List Int):lexLt [] (y::ys)=true:=rfl
theorem Zj5(x:Int)(xs:List Int):lexLt (x::xs) []=false:=rfl
section
open PySem.SeqAt
open PySem.AutoSeq1 (wpAny_loadPart')
open PySem.MeetsSeq PySem.MeetsSeq2 PySem.MeetsSeq3
end
section
variable {prog:Program} {w:World} {A:Around} {E:Value→Shared→Prop} {s:Shared}
def sIx(n d:Nat):Option Int→Nat
 | none=>d
 | some v=>if v<0 then (v+(n:Int)).toNat else min v.toNat n
theorem sIx_none(n d:Nat):sIx n d none=d:=rfl
theorem sIx_nat(n d k:Nat):sIx n d (some (k:Int))=min k n:=by
 show (if (k:Int)<0 then ((k:Int)+(n:Int)).toNat else min (k:Int).toNat n)=min k n
 rw[if_neg (by omega),Int.toNat_natCast]
end
end HT
namespace L2
open PySem PySem.Spec PyProof.Rows
abbrev TO:=St→Hp→(Option Int→Hp→Prop)→Prop
def PO(X:Cx)(e:Option Expr)(t:TO):Prop :=
 ∀ (pins:List (Addr×Obj)) (s:Shared) (σ:St) (H:Hp) (Q:Option Int→Hp→Prop),Inv X pins σ H s→t σ H Q →
  wpAny (model X.prog X.w) X.A (evalPart e X.env) (fun u s'=>∃o H',Inv X pins σ H' s'∧IsPart u o∧Q o H') X.xe s
def Zmf:TO:=fun _ H Q=>Q none H
def Zon(t:TE):TO:=fun σ H Q=>t σ H fun x H1=>∃i,x=.int i∧Q (some i) H1
theorem ZhU{ns:List Int}:∀ {us:List Value},Zy (ns.map V.int) us→IntsAre us ns:=by
 induction ns with
 | nil=>intro us r;rw[List.map_nil]at r;cases r;exact .nil
 | cons n ns ih =>
  intro us r
  rw[Qe]at r
  cases r with
  | cons r1 r2 =>
   obtain⟨t,e⟩:=r1
   subst e
   exact .cons n t (ih r2)
section
variable {X:Cx} {e:Expr} {te:TE} {lo hi:Option Expr} {tl th:TO} {pos p2:Pos}
theorem Zdn:PO X none Zmf:=by
 intro pins s σ H Q I h
 rw[evalPart_none]
 exact wpAny_pure ⟨none,H,I,.none,h⟩
theorem Zb5(h:PE X e te):PO X (some e) (Zon te):=by
 intro pins s σ H Q I hw
 rw[evalPart_some]
 refine thn (h pins s σ H _ I hw) ?_
 rintro u s1 ⟨x,H1,I1,r1,q1⟩
 obtain⟨i,rfl,q⟩:=q1
 obtain⟨t,rfl⟩:=r1
 exact⟨some i,H1,I1,.int i t,q⟩
def SlR(X:Cx)(r:V→Option Int→Option Int→Hp→VK→Prop):Prop :=
 ∀ (pins:List (Addr×Obj)) (s:Shared) (σ:St) (H:Hp) (x:V) (v vl vu:Value) (lo hi:Option Int) (sl:Addr) (Q:VK),Inv X pins σ H s→Zw x v→s.heap.IsSliceOf sl vl vu .none→IsPart vl lo→IsPart vu hi→r x lo hi H Q →
  ∃T id,typeLookup (.type T) "__getitem__" = pure (some (.builtin id))∧s.TypeIs v T∧wpAny (model X.prog X.w) X.A (getItem v (.ref sl)) (EP X pins σ Q) X.xe s
def tSl(r:V→Option Int→Option Int→Hp→VK→Prop)(te:TE)(tl th:TO):TE:=fun σ H Q=>te σ H fun x H1=>tl σ H1 fun l H2=>th σ H2 fun u H3=>r x l u H3 Q
theorem ZbV{r:V→Option Int→Option Int→Hp→VK→Prop}(hr:SlR X r)(he:PE X e te)(hl:PO X lo tl)(hu:PO X hi th):PE X (.Subscript e (.Slice lo hi none p2) pos) (tSl r te tl th):=by
 intro pins s σ H Q I h
 refine Subscript_ (thn (he pins s σ H _ I h) ?_)
 rintro v s1 ⟨x,H1,I1,r1,q1⟩
 refine wpAny_Slice (thn (hl pins s1 σ H1 _ I1 q1) fun vl s2 ⟨l,H2,I2,pl,q2⟩=>thn (hu pins s2 σ H2 _ I2 q2) ?_)
 rintro vu s3 ⟨u,H3,I3,pu,q3⟩
 rw[evalPart_none]
 refine wpAny_pure ?_
 have I4:Inv X pins σ H3 { s3 with heap:=s3.heap.push { cls:=.type "slice",data:=.fields #[vl,vu,.none] } }:=I3.kept (t':=s3.toks) fun b ob q=>Qc _ q
 obtain⟨T,id,hT,ht,hg⟩:=hr pins { s3 with heap:=s3.heap.push { cls:=.type "slice",data:=.fields #[vl,vu,.none] } } σ H3 x v vl vu l u s3.heap.objs.size Q I4 r1 (Heap.IsSliceOf.new ..) pl pu q3
 show wpAny (model X.prog X.w) X.A (subscriptTail e (.Slice lo hi none p2) v (.ref s3.heap.objs.size)) (EP X pins σ Q) X.xe { s3 with heap:=s3.heap.push { cls:=.type "slice",data:=.fields #[vl,vu,.none] } }
 exact tail_any (ops:=[.ref s3.heap.objs.size,v]) ht hT hg (by with_unfolding_all rfl)
def ZcV(xs:List V)(lo hi:Option Int):List V:=(xs.drop (HT.sIx xs.length 0 lo)).take (HT.sIx xs.length xs.length hi-HT.sIx xs.length 0 lo)
theorem Zed(xs:List V)(lo hi:Option Int):(ZcV xs lo hi).length≤xs.length:=by
 unfold ZcV
 rw[Qr,Qp]
 omega
def rSlT(K:PySem.W.Frag):V→Option Int→Option Int→Hp→VK→Prop:=fun x lo hi H Q=>∃a xs,x=.ref a∧SqT K H a xs ∧
 ¬ (HT.sIx xs.length 0 lo=0∧HT.sIx xs.length xs.length hi=xs.length)∧∀p,H p=none→Q (.ref p) (upd H p (.tup (ZcV xs lo hi)))
def rLtT(K:PySem.W.Frag):R2:=fun x y H Q=>∃a b ns ms,x=.ref a∧y=.ref b∧SqT K H a (ns.map V.int)∧SqT K H b (ms.map V.int)∧Q (.bl (HT.lexLt ns ms)) H
def rCatT(K:PySem.W.Frag):R2:=fun x y H Q=>∃a b xs ys,x=.ref a∧y=.ref b∧SqT K H a xs∧SqT K H b ys∧xs≠[]∧xs.length+ys.length≤sizeLine ∧
 (ys=[]→Q (.ref a) H)∧(ys≠[]→∀p,H p=none→Q (.ref p) (upd H p (.tup (xs++ys))))
end
def ixN(n:Nat)(i:Int):Option Nat:=if 0≤i then (if i<n then some i.toNat else none) else if -(n:Int)≤i then some (i+n).toNat else none
def atI{α:Type}(xs:List α)(i:Int):Option α:=(ixN xs.length i).bind fun j=>xs[j]?
theorem Zif{n:Nat}{i:Int}{j:Nat}(h:ixN n i=some j):seqIndex? i n=some j∧j<n ∧ -(n:Int)≤i∧i<n:=by
 unfold ixN at h
 by_cases h0:0≤i
 ·rw[if_pos h0]at h
  by_cases h1:i<n
  ·rw[if_pos h1]at h
   have e:i.toNat=j:=Qo h
   exact⟨by rw[seqIndex_of h0 h1,e],by omega,by omega,h1⟩
  ·rw[if_neg h1]at h;cases h
 ·rw[if_neg h0]at h
  by_cases h1:-(n:Int)≤i
  ·rw[if_pos h1]at h
   have e:(i+n).toNat=j:=Qo h
   exact⟨by rw[seqIndex_neg (by omega) h1,e],by omega,h1,by omega⟩
  ·rw[if_neg h1]at h;cases h
theorem Zgb{α:Type}{xs:List α}{i:Int}{v:α}(h:atI xs i=some v):∃j,seqIndex? i xs.length=some j∧xs[j]? = some v∧j<xs.length ∧ -(xs.length:Int)≤i∧i<xs.length:=by
 unfold atI at h
 cases e:ixN xs.length i with
 | none=>rw[e]at h;cases h
 | some j =>
  rw[e]at h
  obtain⟨h1,h2,h3,h4⟩:=Zif e
  exact⟨j,h1,h,h2,h3,h4⟩
theorem Zat{α:Type}{xs:List α}{j:Nat}{v:α}(h:xs[j]? = some v):atI xs (j:Int)=some v:=by
 have hj:j<xs.length:=(Qg.mp h).1
 have e:ixN xs.length (j:Int)=some j:=by
  unfold ixN
  rw[if_pos (by omega),if_pos (by omega)];simp
 unfold atI;rw[e];exact h
theorem ZkE{α:Type}(xs:List α)(v:α):atI (xs++[v]) (-1)=some v:=by
 have hl:(xs++[v]).length=xs.length+1:=by simp
 have e:ixN (xs++[v]).length (-1)=some xs.length:=by
  unfold ixN
  rw[hl,if_neg (by decide),if_pos (by omega)]
  congr 1
  omega
 unfold atI
 rw[e]
 show (xs++[v])[xs.length]? = some v
 simp
def ZlQ(b:Expr):Prop:=∀o i,subscripted b false o i=operate [o,i] (getItem o i)
def IxR(X:Cx)(r:R2):Prop :=
 ∀ (value slice:Expr) (pins:List (Addr×Obj)) (s:Shared) (σ:St) (H:Hp) (x y:V) (v u:Value) (Q:VK),Inv X pins σ H s→Zw x v→Zw y u→r x y H Q →
  subscripted slice false v u=operate [v,u] (getItem v u)→wpAny (model X.prog X.w) X.A (subscriptTail value slice v u) (EP X pins σ Q) X.xe s
def MtR(X:Cx)(id:String)(r:V→List V→Hp→VK→Prop):Prop :=
 ∀ (pins:List (Addr×Obj)) (s:Shared) (σ:St) (H:Hp) (x:V) (xs:List V) (v:Value) (us:List Value) (Q:VK),Inv X pins σ H s→Zw x v→Zy xs us→r x xs H Q →
  wpAny (model X.prog X.w) X.A (call (.builtin id) (v::us)) (EP X pins σ Q) X.xe s
section
variable {X:Cx} {a b:Expr} {ta tb:TE} {pos:Pos}
theorem ZG{r:R2}(hr:IxR X r)(ha:PE X a ta)(hb:PE X b tb)(hs:ZlQ b):PE X (.Subscript a b pos) (tOp r ta tb):=by
 intro pins s σ H Q I h
 exact Subscript_ (Znt ha hb I h fun v u s2 x y H2 I2 rx ry q=>hr a b pins s2 σ H2 x y v u Q I2 rx ry q (hs _ _))
def ZmN(K:PySem.W.Frag):R2:=fun x y H Q=>∃p xs i v,x=.ref p∧y=.int i∧SqL K H p xs∧atI xs i=some v∧Q v H
def ZnB(K:PySem.W.Frag):R2:=fun x y H Q=>∃p xs i v,x=.ref p∧y=.int i∧SqT K H p xs∧atI xs i=some v∧Q v H
def Zoa:R2:=fun x y H Q=>∃z i c,x=.str z∧y=.int i∧z.length≤sizeLine∧atI z.cps.toList i=some c∧Q (.str ⟨#[c]⟩) H
theorem Zl7:IxR X (ZmN X.K):=by
 intro value slice pins s σ H x y v u Q I rx ry h hs
 obtain⟨p,xs,i,z,rfl,rfl,hq,he,q⟩:=h
 cases rx
 obtain⟨t,rfl⟩:=ry
 obtain⟨its,r,pl,hz⟩:=I.list hq
 obtain⟨j,h1,h2,h3,h4,h5⟩:=Zgb he
 obtain⟨w,ew,rw'⟩:=r.get h2
 have hl:=r.length
 have hn:=Zd7
 have fin:EP X pins σ Q w s:=⟨z,H,I,rw',q⟩
 by_cases h0:0≤i
 ·have hj:i.toNat=j:=by
   rw[seqIndex_of h0 h5]at h1
   exact Qo h1
  exact item_listR pl.isList h0 (by omega) (by rw[hj];simpa using ew) fin hs
 ·have hj:(i+(its.toArray.size:Int)).toNat=j:=by
   rw[seqIndex_neg (by omega) h4]at h1
   rw[Qs,← hl]
   exact Qo h1
  exact subscriptTail_builtinR (x:=w) pl.isList.typeIs slot_list_getitem.lookup
   (wpAny_getItem_list_neg (Q:=fun r s'=>r=w∧EP X pins σ Q r s') pl.isList (by omega) (by rw[Qs]<;>omega) (by omega) (by rw[hj];simpa using ew) ⟨rfl,fin⟩) hs
theorem Znr:IxR X (ZnB X.K):=by
 intro value slice pins s σ H x y v u Q I rx ry h hs
 obtain⟨p,xs,i,z,rfl,rfl,hq,he,q⟩:=h
 cases rx
 obtain⟨t,rfl⟩:=ry
 obtain⟨its,r,pl,hz⟩:=I.tuple hq
 obtain⟨j,h1,h2,h3,h4,h5⟩:=Zgb he
 obtain⟨w,ew,rw'⟩:=r.get h2
 have hl:=r.length
 have hn:=Zd7
 have fin:EP X pins σ Q w s:=⟨z,H,I,rw',q⟩
 exact subscriptTail_builtinR (x:=w) pl.typeIs slot_tuple_getitem.lookup
  (getItem_tuple (j:=j) (Q:=fun r s'=>r=w∧EP X pins σ Q r s') pl (by omega) (by omega) (by rw[Qs,← hl];exact h1) (by simpa using ew) ⟨rfl,fin⟩) hs
theorem ZeY:IxR X Zoa:=by
 intro value slice pins s σ H x y v u Q I rx ry h hs
 obtain⟨z,i,c,rfl,rfl,hz,he,q⟩:=h
 obtain⟨t,rfl⟩:=rx
 obtain⟨t',rfl⟩:=ry
 obtain⟨j,h1,h2,h3,h4,h5⟩:=Zgb he
 have hl:z.cps.toList.length=z.length:=by simp[Str.length]
 rw[hl]at h1 h4 h5
 have hn:=Zd7
 exact tail_any (typeIs_str s z t) slot_str_getitem.lookup (getItem_str (c:=c) (by
  have e1:decide (i < -(2 ^ 63:Int))=false:=decide_eq_false (by omega)
  have e2:decide (i≥2 ^ 63)=false:=decide_eq_false (by omega)
  rw[e1,e2,Bool.or_false]) (by rw[h1];simpa using h2) ⟨.str ⟨#[c]⟩,H,I.tok _,⟨_,rfl⟩,q⟩) hs
def rIx(K:PySem.W.Frag):R2:=fun x y H Q=>ZmN K x y H Q∨ZnB K x y H Q∨Zoa x y H Q
theorem Zh6(its:List Value)(n j:Nat)(u:Value):Obj.mapSeq (·.setIfInBounds j u) { cls:=.type "list",data:=.seq its.toArray n }={ cls:=.type "list",data:=.seq (its.set j u).toArray n }:=by
 simp[Obj.mapSeq]
theorem Inv.lst{pins:List (Addr×Obj)}{σ:St}{H:Hp}{s:Shared}{p:Addr}{xs:List V}(I:Inv X pins σ H s)(h:H p=some (.lst xs)) :
  ∃ (its:List Value) (n:Nat),Zy xs its∧s.heap.get? p=some { cls:=.type "list",data:=.seq its.toArray n }∧xs.length≤sizeLine:=by
 obtain⟨z,its,n,r,e⟩:=I.hok p _ h
 exact⟨its,n,r,e,z⟩
theorem Inv.lstUpd{pins:List (Addr×Obj)}{σ:St}{H:Hp}{s:Shared}{p:Addr}{xs ys:List V}{its its':List Value}{n n':Nat}{f:Obj→Obj}(I:Inv X pins σ H s)(h:H p=some (.lst xs))
  (ho:s.heap.get? p=some { cls:=.type "list",data:=.seq its.toArray n }) (hf:f { cls:=.type "list",data:=.seq its.toArray n }={ cls:=.type "list",data:=.seq its'.toArray n' }) (r:Zy ys its') (hz:ys.length≤sizeLine) (t:Nat) :
  Inv X pins σ (upd H p (.lst ys)) { s with heap:=s.heap.update p f,toks:=t }:=by
 have e:(s.heap.update p f).get? p=some { cls:=.type "list",data:=.seq its'.toArray n' }:=by
  rw[Heap.get?_update_self f ho (by rw[hf]<;>rfl),hf]
 refine I.write (x:=p) (e:=p) (by rw[h];trivial) (.inl rfl) (fun b u hb q=>(Heap.get?_update_other _ _ (Ne.symm hb)).trans q) ⟨_,e⟩ ?_
 exact⟨hz,its',n',r,e⟩
def ZnX:V→V→V→Hp→(Hp→Prop)→Prop:=fun o i v H Q=>∃p xs k j,o=.ref p∧i=.int k∧H p=some (.lst xs)∧ixN xs.length k=some j∧Q (upd H p (.lst (xs.set j v)))
theorem ZgD:Znw X ZnX:=by
 intro pins s σ H o i v ov iv u Q I ro ri rv h
 obtain⟨p,xs,k,j,rfl,rfl,hp,hj,q⟩:=h
 cases ro
 obtain⟨t,rfl⟩:=ri
 obtain⟨its,n,r,ho,hz⟩:=I.lst hp
 obtain⟨h1,h2,h3,h4⟩:=Zif hj
 have hl:=r.length
 have hn:=Zd7
 have I':Inv X pins σ (upd H p (.lst (xs.set j v))) { s with heap:=s.heap.update p (Obj.mapSeq (·.setIfInBounds j u)) } :=
  I.lstUpd hp ho (Zh6 its n j u) (r.set rv j) (by rw[List.length_set];exact hz) s.toks
 by_cases h0:0≤k
 ·have hk:k.toNat=j:=by
   rw[seqIndex_of h0 h4]at h1
   exact Qo h1
  exact PySem.W.ki_setAt ho h0 (by omega) (by rw[Qs,← hl];exact h4) (by rw[hk];exact⟨_,I',q⟩)
 ·have hk:(k+(its.toArray.size:Int)).toNat=j:=by
   rw[seqIndex_neg (by omega) h3]at h1
   rw[Qs,← hl]
   exact Qo h1
  exact PySem.W.ki_setBack ho (by omega) (by rw[Qs,← hl];exact h3) (by omega) (by rw[hk];exact⟨_,I',q⟩)
theorem Zf8(lo hi:Option Int)(n:Nat):(sliceBounds lo hi none n).1=((HT.sIx n 0 lo:Nat):Int)∧(sliceBounds lo hi none n).2.1=((HT.sIx n n hi:Nat):Int)∧(sliceBounds lo hi none n).2.2=1:=by
 refine⟨?_,?_,rfl⟩
 ·cases lo with
  | none=>simp[sliceBounds,HT.sIx]
  | some i =>
   simp only[sliceBounds,HT.sIx,Option.getD_none,show (1:Int)>0 by decide,if_true]
   by_cases h:i<0
   ·simp only[h,if_true]<;>omega
   ·simp only[h,if_false]<;>omega
 ·cases hi with
  | none=>simp[sliceBounds,HT.sIx]
  | some i =>
   simp only[sliceBounds,HT.sIx,Option.getD_none,show (1:Int)>0 by decide,if_true]
   by_cases h:i<0
   ·simp only[h,if_true]<;>omega
   ·simp only[h,if_false]<;>omega
theorem Zfg(its:List Value)(lo hi:Option Int):slicePick its.toArray lo hi none=((its.drop (HT.sIx its.length 0 lo)).take (HT.sIx its.length its.length hi-HT.sIx its.length 0 lo)).toArray:=by
 obtain⟨h1,h2,h3⟩:=Zf8 lo hi its.toArray.size
 unfold slicePick
 rw[h1,h2,h3]
 simp only[sliceRange_one,pick_run,List.size_toArray]<;>rfl
def Zn3(K:PySem.W.Frag):V→Option Int→Option Int→Hp→VK→Prop:=fun x lo hi H Q=>∃a xs,x=.ref a∧SqL K H a xs∧∀p,H p=none→Q (.ref p) (upd H p (.lst (ZcV xs lo hi)))
theorem Zma:SlR X (Zn3 X.K):=by
 intro pins s σ H x v vl vu lo hi sl Q I rx hs pl pu h
 obtain⟨a,xs,rfl,hx,q⟩:=h
 cases rx
 obtain⟨its,r,ht,hz⟩:=I.list hx
 have hlen:=r.length
 refine⟨"list",_,slot_list_getitem.lookup,ht.isList.typeIs,?_⟩
 refine wpAny_getItem_list_slice ht.isList hs pl pu .none (by simp) ?_ (by rw[Qs]<;>omega)
 rw[Zfg,← hlen]
 refine⟨.ref s.heap.objs.size,_,I.laid (t':=s.toks) (o:=.lst (ZcV xs lo hi)) (fun b ob q=>Qc _ q) (Qf _) ?_,rfl,q _ (I.hok.fresh (Qf _))⟩
 exact⟨QP (Zed xs lo hi) hz,_,0,(r.drop (HT.sIx xs.length 0 lo)).take (HT.sIx xs.length xs.length hi-HT.sIx xs.length 0 lo),Qt _ rfl⟩
def Zdm:V→Bool
 | .non=>true
 | .bl _=>true
 | .int _=>true
 | .str _=>true
 | _=>false
def eqV:V→V→Bool
 | .non,.non=>true
 | .bl a,.bl b=>a == b
 | .bl a,.int b=>(if a then 1 else 0) == b
 | .int a,.bl b=>a == (if b then 1 else 0)
 | .int a,.int b=>a == b
 | .str a,.str b=>a == b
 | _,_=>false
theorem Znl{A:Around}{s:Shared}{y x:V}{u v:Value}(ry:Zw y u)(rx:Zw x v)(fy:Zdm y=true)(fx:Zdm x=true):SeqAt.EqAt A s u v (eqV y x):=by
 cases y with
 | non =>
  cases ry
  cases x with
  | non=>cases rx;exact SeqAt.EqAt.same _
  | bl b=>cases rx;exact SeqAt.EqAt.none_bool b
  | int b=>obtain⟨t,rfl⟩:=rx;exact SeqAt.EqAt.none_int b t
  | str b=>obtain⟨t,rfl⟩:=rx;exact SeqAt.EqAt.none_str b t
  | _=>exact absurd (show false=true from fx) Qn
 | bl a =>
  cases ry
  cases x with
  | non=>cases rx;exact SeqAt.EqAt.bool_none a
  | bl b=>cases rx;exact SeqAt.EqAt.bool_bool a b
  | int b=>obtain⟨t,rfl⟩:=rx;exact SeqAt.EqAt.bool_int a b t
  | str b=>obtain⟨t,rfl⟩:=rx;exact SeqAt.EqAt.bool_str a b t
  | _=>exact absurd (show false=true from fx) Qn
 | int a =>
  obtain⟨t',rfl⟩:=ry
  cases x with
  | non=>cases rx;exact SeqAt.EqAt.int_none a t'
  | bl b=>cases rx;exact SeqAt.EqAt.int_bool a t' b
  | int b=>obtain⟨t,rfl⟩:=rx;exact SeqAt.EqAt.int_int a t' b t
  | str b=>obtain⟨t,rfl⟩:=rx;exact SeqAt.EqAt.int_str a t' b t
  | _=>exact absurd (show false=true from fx) Qn
 | str a =>
  obtain⟨t',rfl⟩:=ry
  cases x with
  | non=>cases rx;exact SeqAt.EqAt.str_none a t'
  | bl b=>cases rx;exact SeqAt.EqAt.str_bool a t' b
  | int b=>obtain⟨t,rfl⟩:=rx;exact SeqAt.EqAt.str_int a t' b t
  | str b=>obtain⟨t,rfl⟩:=rx;exact SeqAt.EqAt.str_str a t' b t
  | _=>exact absurd (show false=true from fx) Qn
 | _=>exact absurd (show false=true from fy) Qn
def eqU(x:V)(u:Value):Bool:=match u with
 | .none=>eqV .non x
 | .bool b=>eqV (.bl b) x
 | .int i _=>eqV (.int i) x
 | .str z _=>eqV (.str z) x
 | _=>false
theorem ZjL{x y:V}{u:Value}(r:Zw y u)(f:Zdm y=true):eqU x u=eqV y x:=by
 cases y with
 | non=>cases r;rfl
 | bl b=>cases r;rfl
 | int i=>obtain⟨t,rfl⟩:=r;rfl
 | str z=>obtain⟨t,rfl⟩:=r;rfl
 | _=>exact absurd (show false=true from f) Qn
theorem ZfY{x:V}:∀ {xs:List V} {us:List Value},Zy xs us→xs.all Zdm=true→us.any (eqU x)=xs.any fun y=>eqV y x
 | _,_,.nil,_=>rfl
 | y::xs,u::us,.cons r t,f=>by
  rw[List.all_cons,QaA]at f
  rw[QaH,QaH,ZjL r f.1,ZfY t f.2]
theorem ZeZ{A:Around}{s:Shared}{x:V}{v:Value}(rx:Zw x v)(fx:Zdm x=true):∀ {xs:List V} {us:List Value},Zy xs us→xs.all Zdm=true→∀u∈us,SeqAt.EqAt A s u v (eqU x u)
 | _,_,.nil,_=>fun u hu=>by cases hu
 | y::xs,u::us,.cons r t,f=>fun u' hu=>by
  rw[List.all_cons,QaA]at f
  rcases Qz.mp hu with rfl|hu
  ·rw[ZjL r f.1];exact Znl r rx f.1 fx
  ·exact ZeZ rx fx t f.2 u' hu
def inV(x:V)(xs:List V):Bool:=xs.any fun y=>eqV y x
def rIn(K:PySem.W.Frag)(neg:Bool):R2:=fun x y H Q=>∃p xs,y=.ref p∧(SqL K H p xs∨SqT K H p xs)∧Zdm x=true∧xs.all Zdm=true∧Q (.bl (if neg then !inV x xs else inV x xs)) H
theorem Zju:OpR X (compareOp .In) (rIn X.K false):=by
 intro pins s σ H x y v u Q I rx ry h
 obtain⟨p,xs,rfl,hq,fx,fs,q⟩:=h
 cases ry
 rcases hq with hq|hq
 ·obtain⟨its,r,pl,hz⟩:=I.list hq
  refine SeqAt.in_listAt (eqU x) pl.isList (fun w hw=>ZeZ rx fx r fs w (by simpa using hw)) ⟨.bl _,H,I,rfl,?_⟩
  rw[show its.toArray.any (eqU x)=its.any (eqU x) by simp,ZfY r fs]
  exact q
 ·obtain⟨its,r,pl,hz⟩:=I.tuple hq
  refine SeqAt.in_tupleAt (eqU x) pl (fun w hw=>ZeZ rx fx r fs w (by simpa using hw)) ⟨.bl _,H,I,rfl,?_⟩
  rw[show its.toArray.any (eqU x)=its.any (eqU x) by simp,ZfY r fs]
  exact q
theorem Zf3:Zap X (.builtin "len") (fun xs H Q=>∃p ys,xs=[.ref p]∧(SqL X.K H p ys∨SqT X.K H p ys)∧Q (.int ys.length) H):=by
 intro pins s σ H xs us Q I r h
 obtain⟨p,ys,rfl,hq,q⟩:=h
 obtain⟨u,rfl,rx⟩:=Zcj r
 cases rx
 have hn:=Zd7
 rcases hq with hq|hq
 ·obtain⟨its,r',pl,hz⟩:=I.list hq
  have hlen:=r'.length
  exact Calls.call_len_list pl.isList (by simp only[List.size_toArray]<;>omega) ⟨.int ys.length,H,I.tok _,⟨s.toks+1,by rw[Qs,hlen]⟩,q⟩
 ·obtain⟨its,r',pl,hz⟩:=I.tuple hq
  have hlen:=r'.length
  exact len_tuple pl (by simp only[List.size_toArray]<;>omega) ⟨.int ys.length,H,I.tok _,⟨s.toks+1,by rw[Qs,hlen]⟩,q⟩
theorem ZaH:Zap X (.builtin "len") (fun xs H Q=>∃z,xs=[.str z]∧z.length≤sizeLine∧Q (.int z.length) H):=by
 intro pins s σ H xs us Q I r h
 obtain⟨z,rfl,hz,q⟩:=h
 obtain⟨u,rfl,t,rfl⟩:=Zcj r
 have hn:=Zd7
 exact len_str (by omega) ⟨.int z.length,H,I.tok _,⟨_,rfl⟩,q⟩
theorem Zgv:Zap X (.type "list") (fun xs H Q=>∃p ys,xs=[.ref p]∧(SqL X.K H p ys∨SqT X.K H p ys)∧∀l,H l=none→Q (.ref l) (upd H l (.lst ys))):=by
 intro pins s σ H xs us Q I r h
 obtain⟨p,ys,rfl,hq,q⟩:=h
 obtain⟨u,rfl,rx⟩:=Zcj r
 cases rx
 have fin:∀ (its:List Value),Zy ys its→ys.length≤sizeLine→∀ (h':Heap) (c':Nat),(∀b o',s.heap.get? b=some o'→h'.get? b=some o') →
   h'.get? s.heap.objs.size=some { cls:=.type "list",dict:=none,data:=.seq its.toArray c',slots:=#[] }→EP X pins σ Q (.ref s.heap.objs.size) { s with heap:=h' }:=fun its r' hz h' c' kp e =>
  ⟨.ref s.heap.objs.size,_,I.laid (t':=s.toks) kp (Qf _) (show Z3 X.prog X.w _ h' _ (.lst ys) from⟨hz,its,c',r',e⟩),rfl,q _ (I.hok.fresh (Qf _))⟩
 rcases hq with hq|hq
 ·obtain⟨its,r',pl,hz⟩:=I.list hq
  have hlen:=r'.length
  obtain⟨o,ho,hc,n,hd⟩:=pl.isList
  exact call_list_seq p (.inl rfl) ho hc hd (fun h' c' kp e=>fin its r' hz h' c' kp e) (by simp only[List.size_toArray]<;>omega)
 ·obtain⟨its,r',pl,hz⟩:=I.tuple hq
  have hlen:=r'.length
  obtain⟨o,ho,hc,n,hd⟩:=pl
  exact call_list_seq p (.inr rfl) ho hc hd (fun h' c' kp e=>fin its r' hz h' c' kp e) (by simp only[List.size_toArray]<;>omega)
def tyV(K:PySem.W.Frag)(T:String)(x:V)(H:Hp):Prop:=match x with
 | .str _=>T = "str"
 | .int _=>T = "int"
 | .ref p=>(T = "list"∧∃xs,SqL K H p xs)∨(T = "tuple"∧∃o,K.lookup p=some o∧o.cls=.type "tuple"∧o.dict=none) ∨
   (T = "dict"∧((∃kvs,H p=some (.dK kvs))∨∃kvs,H p=some (.dT kvs)))∨(T = "set"∧∃S n,H p=some (.set S n))
 | _=>False
theorem Zlo{pins:List (Addr×Obj)}{σ:St}{H:Hp}{s:Shared}{T:String}{x:V}{v:Value}(I:Inv X pins σ H s)(r:Zw x v)(ty:tyV X.K T x H) :
  s.TypeIs v T∧∀a,v=.ref a→∃ob,s.heap.get? a=some ob∧ob.dict=none:=by
 cases x with
 | str z =>
  obtain⟨t,rfl⟩:=r
  cases (show T = "str" from ty)
  exact⟨typeIs_str s z t,fun _ e=>nomatch e⟩
 | int i =>
  obtain⟨t,rfl⟩:=r
  cases (show T = "int" from ty)
  exact⟨typeIs_int s i t,fun _ e=>nomatch e⟩
 | ref p =>
  cases r
  rcases ty with⟨rfl,xs,hq⟩|⟨rfl,o,hk,hc,hd⟩|⟨rfl,hk⟩|⟨rfl,S,n,hk⟩
  ·obtain⟨its,_,pl,_⟩:=I.list hq
   refine⟨pl.isList.typeIs,fun a e=>?_⟩
   cases e
   obtain⟨o,n,e,c,hd,_⟩:=pl
   exact⟨o,e,hd⟩
  ·refine⟨⟨o,I.kIn p o hk,hc⟩,fun a e=>?_⟩
   cases e
   exact⟨o,I.kIn _ o hk,hd⟩
  ·have z:∃o,s.heap.get? p=some o∧o.ExactDict:=by
    rcases hk with⟨kvs,hk⟩|⟨kvs,hk⟩
    ·obtain⟨_,_,_,_,o,_,_,e,ex,_⟩:=I.hok p _ hk
     exact⟨o,e,ex⟩
    ·obtain⟨_,_,_,_,o,_,_,e,ex,_⟩:=I.hok p _ hk
     exact⟨o,e,ex⟩
   obtain⟨o,e,ex⟩:=z
   refine⟨⟨o,e,ex.1⟩,fun a e2=>?_⟩
   cases e2
   exact⟨o,e,ex.2.1⟩
  ·obtain⟨o,_,_,_,e,ex,_⟩:=I.hok p _ hk
   refine⟨⟨o,e,ex.1⟩,fun a e2=>?_⟩
   cases e2
   exact⟨o,e,ex.2.1⟩
 | _=>exact False.elim ty
def Zpp(K:PySem.W.Frag)(T:String)(r:V→List V→Hp→VK→Prop)(to:TE):TE:=fun σ H Q=>to σ H fun x H1=>tyV K T x H1∧r x [] H1 Q
def tBM(K:PySem.W.Frag)(T:String)(r:V→List V→Hp→VK→Prop)(to:TE)(t:TA):TE:=fun σ H Q=>to σ H fun x H1=>tyV K T x H1∧t σ H1 fun xs H2=>r x xs H2 Q
variable {o e:Expr} {es:List Expr} {to:TE} {t:TA} {name:Str} {apos cpos:Pos} {T id:String} {r:V→List V→Hp→VK→Prop}
theorem Zni(pa:PlainAttrs T)(slot:Slot T name id)(hty:typeOf (.builtin id)=pure (.type "method_descriptor"))(hm:MtR X id r)(ho:PE X o to)
  (hbase:attributeBase o name X.env (eval o X.env)=eval o X.env:=by rfl) (hline:(apos.endLine == cpos.line)=true:=by rfl):PE X (.Call (.Attribute o name apos) [] [] cpos) (Zpp X.K T r to):=by
 intro pins s σ H Q I h
 refine wpAny_Call_method0_late hbase hline (thn (ho pins s σ H _ I h) ?_)
 rintro v s1 ⟨x,H1,I1,r1,ty,q1⟩
 obtain⟨h1,h2⟩:=Zlo I1 r1 ty
 exact⟨T,id,pa,slot,hty,h1,h2,Calls.callWith_builtin rfl (PySem.evalArgs_none (hm pins s1 σ H1 x [] v [] Q I1 r1 .nil q1))⟩
theorem Zdu(pa:PlainAttrs T)(slot:Slot T name id)(hty:typeOf (.builtin id)=pure (.type "method_descriptor"))(hm:MtR X id r)(ho:PE X o to)(ha:PA X (e::es) t)
  (hbase:attributeBase o name X.env (eval o X.env)=eval o X.env:=by rfl)
  (hfew:((backTo cpos (starEach (e::es) X.env)).all (fun x=>!x.1)&&(backToKw cpos (keywordEach [] X.env)).all (fun x=>x.1.isSome)
   && decide ((e::es).length+([]:List Keyword).length+(if ([]:List Keyword).isEmpty then 0 else 1)<30))=true:=by rfl)
  (hline:(apos.endLine == cpos.line)=true:=by rfl) (hs:starEach (e::es) X.env=(false,eval e X.env)::starEach es X.env:=by rfl) (hplain:(backTo cpos (starEach es X.env)).any (·.1)=false:=by rfl) :
  PE X (.Call (.Attribute o name apos) (e::es) [] cpos) (tBM X.K T r to t):=by
 intro pins s σ H Q I h
 refine wpAny_Call_method_late hbase hfew hline rfl (thn (ho pins s σ H _ I h) ?_)
 rintro v s1 ⟨x,H1,I1,r1,ty,q1⟩
 obtain⟨h1,h2⟩:=Zlo I1 r1 ty
 refine⟨T,id,pa,slot,hty,h1,h2,?_⟩
 have hA:=ha cpos pins s1 σ H1 _ I1 q1
 rw[hs]at hA ⊢
 refine Calls.callWith_builtin (by show (false||(backTo cpos (starEach es X.env)).any (·.1))=false;rw[hplain]<;>rfl) (Calls.evalArgs_plain ?_)
 exact thn hA fun us s2 ⟨vs,H2,I2,r2,q2⟩=>hm pins s2 σ H2 x vs v us Q I2 r1 r2 q2
end
def MtM(X:Cx)(id:String)(r:V→List V→Hp→VK→Prop):Prop :=
 ∀ (pins:List (Addr×Obj)) (s:Shared) (σ:St) (H:Hp) (x:V) (xs:List V) (v:Value) (us:List Value) (Q:VK),Inv X pins σ H s→Zw x v→Zy xs us→r x xs H Q →
  wpAny (model X.prog X.w) X.A (call (.builtin id) (v::us)) (EP X pins σ Q) X.xe s
theorem Zy.one:∀ {x:V} {us:List Value},Zy [x] us→∃u,us=[u]∧Zw x u
 | _,_,.cons r .nil=>⟨_,rfl,r⟩
theorem Zy.two:∀ {x y:V} {us:List Value},Zy [x,y] us→∃u v,us=[u,v]∧Zw x u∧Zw y v
 | _,_,_,.cons r (.cons q .nil)=>⟨_,_,rfl,r,q⟩
theorem Zy.zero:∀ {us:List Value},Zy [] us→us=[]
 | _,.nil=>rfl
theorem Zy.reverse{xs:List V}{us:List Value}(h:Zy xs us):Zy xs.reverse us.reverse:=by
 induction h with
 | nil=>exact .nil
 | cons r t ih=>rw[Qav,Qav];exact Zy.append ih (.cons r .nil)
section
variable {X:Cx} {pins:List (Addr×Obj)} {σ:St} {H:Hp} {s:Shared} {l b:Addr} {xs ys zs:List V}
theorem Inv.lset{its its':List Value}{n:Nat}{f:Array Value→Array Value}{t':Nat}(I:Inv X pins σ H s)(hH:H l=some (.lst xs))
  (e:s.heap.get? l=some { cls:=.type "list",data:=.seq its.toArray n }) (hf:f its.toArray=its'.toArray) (hv:Zy ys its') (hz:ys.length≤sizeLine) :
  Inv X pins σ (upd H l (.lst ys)) { s with heap:=s.heap.update l (Obj.mapSeq f),toks:=t' }:=by
 have q:=PySem.IsL.update e f
 rw[hf]at q
 refine I.write (x:=l) (e:=l) (by rw[hH];exact trivial) (.inl rfl) (fun b' u hb hu=>(Heap.get?_update_other s.heap (Obj.mapSeq f) (Ne.symm hb)).trans hu) ⟨_,q⟩ ?_
 exact⟨hz,its',_,hv,q⟩
theorem Inv.lnew{its:List Value}{t':Nat}(I:Inv X pins σ H s)(hv:Zy ys its)(hz:ys.length≤sizeLine) :
  Inv X pins σ (upd H s.heap.objs.size (.lst ys)) { s with heap:=s.heap.push { cls:=.type "list",data:=.seq its.toArray },toks:=t' } :=
 I.laid (fun _ _ q=>Qc _ q) (Qf _) ⟨hz,its,0,hv,Qt _ rfl⟩
theorem Inv.fresh(I:Inv X pins σ H s):H s.heap.objs.size=none:=I.hok.fresh (Qf _)
theorem Inv.lstM(I:Inv X pins σ H s)(hH:H l=some (.lst xs)):xs.length≤sizeLine∧∃ (its:List Value) (n:Nat),Zy xs its∧xs.length=its.length∧s.heap.get? l=some { cls:=.type "list",data:=.seq its.toArray n }:=by
 obtain⟨z,its,n,r,e⟩:=I.hok l _ hH
 exact⟨z,its,n,r,r.length,e⟩
theorem ZjO{n:Nat}(h:n≤sizeLine):Builtin.List.listTooLong n=false:=by
 unfold Builtin.List.listTooLong
 exact decide_eq_false (by omega)
end
section
variable {X:Cx}
def ZlZ:V→List V→Hp→VK→Prop:=fun x vs H Q=>∃l xs y,x=.ref l∧vs=[y]∧H l=some (.lst xs)∧xs.length<sizeLine∧Q .non (upd H l (.lst (xs++[y])))
theorem ZaR:MtM X "list.append" ZlZ:=by
 intro pins s σ H x vs v us Q I rx rv h
 obtain⟨l,xs,y,rfl,rfl,hH,hz,q⟩:=h
 cases rx
 obtain⟨u,rfl,ru⟩:=rv.one
 obtain⟨z,its,n,r,hl,e⟩:=I.lstM hH
 refine call_meets F.slot_list_append ⟨_,e,rfl⟩ F.entry_list_append (F.args_list_append_2 _ _) (PySem.list_append l its.toArray n u (by rw[Qs];omega)) ⟨e,?_⟩
 refine⟨.non,_,I.lset (its':=its++[u]) hH e (by simp) (r.append (.cons ru .nil)) ?_,rfl,q⟩
 rw[Qd,QK]
 omega
def Zlz:V→List V→Hp→VK→Prop:=fun x vs H Q=>∃l b xs zs,x=.ref l∧vs=[.ref b]∧H l=some (.lst xs)∧H b=some (.lst zs)∧xs.length+zs.length≤sizeLine∧Q .non (upd H l (.lst (xs++zs)))
theorem ZjB:MtM X "list.extend" Zlz:=by
 intro pins s σ H x vs v us Q I rx rv h
 obtain⟨l,b,xs,zs,rfl,rfl,hH,hB,hz,q⟩:=h
 cases rx
 obtain⟨u,rfl,ru⟩:=rv.one
 cases ru
 obtain⟨z,its,n,r,hl,e⟩:=I.lstM hH
 obtain⟨z2,its2,n2,r2,hl2,e2⟩:=I.lstM hB
 have hsz:its.toArray.size+its2.toArray.size≤sizeLine:=by rw[Qs,Qs];omega
 have hlong:¬ (!its.toArray.isEmpty&&Builtin.List.listTooLong (its.toArray.size+its2.toArray.size))=true:=by
  rw[ZjO hsz,Bool.and_false]
  exact Qn
 refine call_meets F.slot_list_extend ⟨_,e,rfl⟩ F.entry_list_extend (F.args_list_extend_2 _ _)
  (AutoSeq1.list_extend_list_list_0 l its.toArray n b its2.toArray n2 hlong (by rw[Qs];omega) (by omega)) ⟨e,e2,?_⟩
 refine⟨.non,_,I.lset (its':=its++its2) hH e (by simp) (r.append r2) ?_,rfl,q⟩
 rw[Qd]
 omega
def rPop:V→List V→Hp→VK→Prop:=fun x vs H Q=>∃l xs y,x=.ref l∧vs=[]∧H l=some (.lst xs)∧xs[xs.length-1]? = some y∧Q y (upd H l (.lst xs.dropLast))
def rPopAt:V→List V→Hp→VK→Prop:=fun x vs H Q=>∃l xs i k y,x=.ref l∧vs=[.int i]∧H l=some (.lst xs) ∧ -(2 ^ 63)≤i∧i<2 ^ 63∧seqIndex? i xs.length=some k∧xs[k]? = some y∧Q y (upd H l (.lst (xs.eraseIdx k)))
def ZkS:V→List V→Hp→VK→Prop:=fun x vs H Q=>∃l xs,x=.ref l∧vs=[]∧H l=some (.lst xs)∧Q .non (upd H l (.lst xs.reverse))
theorem ZhG:MtM X "list.reverse" ZkS:=by
 intro pins s σ H x vs v us Q I rx rv h
 obtain⟨l,xs,rfl,rfl,hH,q⟩:=h
 cases rx
 have hus:=rv.zero
 subst hus
 obtain⟨z,its,n,r,hl,e⟩:=I.lstM hH
 refine call_meets F.slot_list_reverse ⟨_,e,rfl⟩ F.entry_list_reverse (F.args_list_reverse_1 _) (AutoSeq1.list_reverse_list_0 l its.toArray n (by rw[Qs];omega)) ⟨e,?_⟩
 refine⟨.non,_,I.lset (its':=its.reverse) hH e (by simp) r.reverse ?_,rfl,q⟩
 rw[List.length_reverse]
 omega
def rClear:V→List V→Hp→VK→Prop:=fun x vs H Q=>∃l xs,x=.ref l∧vs=[]∧H l=some (.lst xs)∧Q .non (upd H l (.lst []))
def rCat:R2:=fun x y H Q=>∃l b xs zs,x=.ref l∧y=.ref b∧H l=some (.lst xs)∧H b=some (.lst zs)∧xs.length+zs.length≤sizeLine∧∀p,H p=none→Q (.ref p) (upd H p (.lst (xs++zs)))
def rRep:R2:=fun x y H Q=>∃l k xs,x=.ref l∧y=.int k∧H l=some (.lst xs) ∧ -(2 ^ 63)≤k∧k<2 ^ 63∧xs.length*k.toNat≤sizeLine ∧
 ∀p,H p=none→Q (.ref p) (upd H p (.lst (List.replicate k.toNat xs).flatten))
end
section
variable {prog:Program} {w:World} {A:Around} {E:Value→Shared→Prop} {s:Shared}
end
section
variable {X:Cx}
end
end L2
namespace Att
open PySem PySem.W PySem.Calls PyProof.Rows
theorem Zel{P:Params}{h:Heap}:∀ (ns:List Int) (vs:List Value),WellAll P h vs (ns.map WData.int)→IntsAre vs ns:=by
 intro ns
 induction ns with
 | nil =>
  intro vs w
  rw[List.map_nil]at w
  cases w
  exact .nil
 | cons n ns ih =>
  intro vs w
  rw[Qe]at w
  cases w with
  | cons a b =>
   cases a
   exact .cons _ _ (ih _ b)
theorem ZjE{l:OpenLaw}{n:Nat}(hn:l.most=some n){P:Params}{h:Heap}{args:List WData}{vals:List Value}
  (hpre:l.row.toRowW.claim.pre args=true) (hwl:WellAll P h vals args) :
  ∃a vs ns,vals=[Value.ref a]∧args=[WData.list (ns.map WData.int)]∧h.get? a=some { cls:=.type "list",data:=.seq vs.toArray }∧IntsAre vs ns∧ns.length≤n:=by
 have hsh:WShape.hasAll [] args [.list .int]=true:=(pre_splitW hpre).1
 have hc:l.pre.holds [] { args:=args }=true:=(pre_splitW hpre).2
 obtain⟨d,r,rfl,h1,h2⟩:=hasAllW_cons hsh
 obtain rfl:=hasAllW_nil h2
 obtain⟨xs,rfl,h3⟩:=hasW_list h1
 obtain⟨ns,rfl⟩:=items_int h3
 have hlen:ns.length≤n:=by
  unfold OpenLaw.pre at hc
  have h4:(WTm.not (.lt (.lit (.int (n:Int))) (.len (.arg 0)))).holds [] { args:=[.list (ns.map .int)] }=true:=by
   have h4:=(holds_andW hc).1
   rw[hn]at h4
   exact h4
  have h5:=condW_of h4 (w_not (w_lt w_lit (w_len_list (w_arg rfl))))
  rw[Qb]at h5
  refine Nat.le_of_not_lt fun q=>?_
  have q':(n:Int)<((ns.length:Nat):Int):=by omega
  first
   | (rw[decide_eq_true q']at h5;exact absurd h5 (by decide))
   | (simp at h5;omega)
 cases hwl with
 | cons w1 w2 =>
  cases w2
  cases w1 with
  | list ho hall=>exact⟨_,_,ns,rfl,rfl,ho,Zel ns _ hall,hlen⟩
theorem ZiW(l:OpenLaw)(args:List WData):l.row.toRowW.claim.post args (.bool true) args=true :=
 postW_of (r:=l.row.toRowW) (X:=(true == true))
  (show WShape.has [] (.bool true) .bool=true by first|rfl|decide|simp[WShape.has,WShape.arms,WShape.armsAll])
  (show (WTm.eq .res (.lit (.bool true))).value [] { args:=args,res:=some (.bool true),after:=args }=some (.bool (true == true)) from w_eq_bool (w_res rfl) w_lit) rfl
theorem attach_call{l:OpenLaw}{n:Nat}{q:Program}{loose:List Str}{XP:(Str→Option Value)→Heap→Prop}{YP:World→Heap→Prop}{d:DefRec}
  (hn:l.most=some n) (hdf:d.params.defaults=[])
  (call:∀ (w:World) (s₀ s₁:Shared) (mg mb:Str→Option Value) (fa:Addr) (o:Obj) (pm cd doc:Value) (a:Addr) (vs:List Value) (ns:List Int),
   Ground q loose [] XP w s₀ mg mb s₁.heap→YP w s₁.heap →
   s₁.heap.get? fa=some o→o.data=.func (docDef d.name d.params d.body d.scope pm cd doc)→s₁.heap.CodeRec cd d.name→mg d.name=some (.ref fa) →
   s₁.heap.get? a=some { cls:=.type "list",data:=.seq vs.toArray }→IntsAre vs ns→ns.length≤n→s₁.gens = #[] →
   codeAny (model l.prog w) callerA (.call (.ref fa) ⟨[.ref a],[]⟩) (fun r s'=>r=.ok (.ret (.bool true))∧OldK s₁.heap s'.heap∧s'.os=s₁.os∧AllBare s'.gens) s₁) :
  WalkO q loose XP YP l.row.toRowW d [] (fun f vs=>PySem.call f vs):=by
 intro w s₀ s₁ mg mb G Y fa o pm cd doc dV kV ho hd hcd hD hmg hg args vals as hpre hlay hrd hwl hlo
 obtain rfl:dV=.none:=Dflts.none hD hdf
 obtain rfl:kV=.none:=Dflts.noKw hD
 obtain⟨a,vs,ns,rfl,rfl,hobj,hints,hlen⟩:=ZjE hn hpre hwl
 refine enter_call (codeAny_mono (call w s₀ s₁ mg mb fa o pm cd doc a vs ns G Y ho (fd_plain hd) hcd hmg hobj hints hlen hg) fun r s' hq=>?_)
 obtain⟨rfl,h2,h3,h4⟩:=hq
 exact⟨.inl ⟨.bool true,.bool true,[],rfl,fun _=>rfl,.bool true,ZiW l _,fun _=>⟨List.Pairwise.nil,fun _ hm=>(nomatch hm)⟩⟩,h2,h3,h4⟩
section
variable {prog:Program} {w:World} {A:Around} {E:Value→Shared→Prop} {s:Shared} {K:Frag}
def noObjs(h:Heap):Heap:={ h with objs:=#[] }
def ledger(h:Heap)(L d:Addr):List (Addr×Obj):=(List.range h.objs.size).filterMap fun a=>if a=L∨a=d then none else (h.get? a).map fun o=>(a,o)
end
end Att
namespace L2
open PySem PySem.Spec PyProof.Rows
theorem Zfl:∀ {vs:List Value} {ns:List Int},IntsAre vs ns→Zy (ns.map V.int) vs
 | _,_,.nil=>.nil
 | _,_,.cons n t h=>.cons ⟨t,rfl⟩ (Zfl h)
def Zm6(H:Hp):Prop:=∀b,H b=none∨∃o xs,H b=some (.frz o (.lst xs))
theorem Zj0{P:Program}{w:World}{K:PySem.W.Frag}{mg mb:Str→Option Value}{CX:CXT}{k:Nat}{fa a:Addr}{fd:FuncData}{x:Str}{sp:Sp}{s₁:Shared}{vs:List Value}{ns:List Int}
  (KX:K.In s₁.heap) (hns:s₁.heap.Ns mainGlobals mg) (hb:s₁.heap.Ns builtinsNs mb) (hbb:∀x:Str,x ≠ "__name__"→mb x=bootBuiltins x) (hlim:s₁.heap.NoLimit) (hg:s₁.gens = #[])
  (ha:s₁.heap.get? a=some { cls:=.type "list",data:=.seq vs.toArray }) (hi:IntsAre vs ns) (hl:ns.length≤sizeLine) (hr:ZaA k callerA)
  (F:∀base:Heap,K.In base→base.Ns mainGlobals mg→ZcU P w K mg base CX k fa fd [x] sp) (hbind:∀ (s:Shared) (u:Value),BindsTo s fd ⟨[u],[]⟩ [(x,u)])
  (hsp:∀H:Hp,Zm6 H→SqL K H a (ns.map V.int)→sp [.ref a] H (fun v _=>v=.bl true) fun _ _ _=>False)
  (hCX:∀H e s',CX [] H s₁ (fun _ _ _=>False) e s'→False) :
  codeAny (model P w) callerA (.call (.ref fa) ⟨[.ref a],[]⟩) (fun r s'=>r=.ok (.ret (.bool true))∧OldK s₁.heap s'.heap∧s'.os=s₁.os∧AllBare s'.gens) s₁:=by
 have rv:=Zfl hi
 have lenV:=hi.length
 have core:∀H:Hp,Zm6 H→SqL K H a (ns.map V.int)→HOk P w H s₁.heap→(∀b,H b≠none→b=a)→(H a≠none→K.lookup a=none) →
   codeAny (model P w) callerA (.call (.ref fa) ⟨[.ref a],[]⟩) (fun r s'=>r=.ok (.ret (.bool true))∧OldK s₁.heap s'.heap∧s'.os=s₁.os∧AllBare s'.gens) s₁:=by
  intro H hO hS hok hA hK
  have base_of:∀ {b:Addr} {o:Obj},s₁.heap.get? b=some o→H b=none→(ZfX s₁.heap H).get? b=some o:=fun e n=>ZkZ e n
  have noA:∀ {b:Addr} {o:Obj} {es:Array DictEntry} {ep:Nat},s₁.heap.get? b=some o→o.data=.dict es ep→H b=none:=fun {b o es ep} e d=>by
   cases q:H b with
   | none=>rfl
   | some u =>
    have e':b=a:=hA b (by rw[q];simp)
    subst e'
    rw[ha]at e;cases e
    have d':Data.seq vs.toArray _=Data.dict es ep:=d
    cases d'
  have nsK:∀ {b:Addr} {m:Str→Option Value},s₁.heap.Ns b m→(ZfX s₁.heap H).Ns b m:=fun {b m} ⟨o,es,ep,e,d,r⟩=>⟨o,es,ep,base_of e (noA e d),d,r⟩
  have hKb:K.In (ZfX s₁.heap H):=fun b o e=>base_of (KX b o e) (by
   cases q:H b with
   | none=>rfl
   | some u =>
    have e':b=a:=hA b (by rw[q];simp)
    subst e'
    rw[hK (by rw[q];simp)]at e;cases e)
  have hM:Mod K mg (ZfX s₁.heap H):=⟨hKb,nsK hns,⟨mb,nsK hb,hbb⟩,let ⟨mc,h1,h2⟩:=hlim;⟨mc,nsK h1,h2⟩⟩
  have e0:ZhI P w K mg (ZfX s₁.heap H) callerA [] s₁ H:=⟨rfl,hM,fun b o e=>Zmk e,Nat.le_of_eq (Zjr _ _),trivial,fun b hb=>absurd (show b∈([]:List Addr) from hb) (by simp),hok,.of_eq hg⟩
  refine codeAny_mono ((F _ hKb (nsK hns)).run callerA [] s₁ H ⟨[.ref a],[]⟩ [.ref a] [.ref a] _ _ hr e0 (hbind s₁ (.ref a)) (.cons rfl .nil) (hsp H hO hS)) fun r s' h=>?_
  cases r with
  | error e=>exact(hCX H e s' h).elim
  | ok fl =>
   cases fl with
   | next=>exact False.elim h
   | brk=>exact False.elim h
   | cont=>exact False.elim h
   | ret u =>
    obtain⟨v,H',os,bare,un,hok',r',q⟩:=h
    have q':v=.bl true:=q
    subst q'
    obtain rfl:u=Value.bool true:=r'
    refine⟨rfl,OldK.of_keep fun b o e=>?_,os,bare⟩
    cases q:H b with
    | none=>exact un.keep b o e q (by intro z;exact absurd (show b∈([]:List Addr) from z) (by simp)) (by simp)
    | some u =>
     rcases hO b with z|⟨ob,xs,z⟩
     ·rw[q]at z;cases z
     ·have z2:=un.frzs b ob _ z
      obtain⟨e1,_⟩:=hok b _ z
      obtain⟨e2,_⟩:=hok' b _ z2
      rw[e]at e1;cases e1
      exact e2
 cases hk:K.lookup a with
 | some o =>
  have e:=KX a o hk
  rw[ha]at e
  cases e
  refine core (fun _=>none) (fun _=>.inl rfl) (.inr ⟨_,vs.toArray,_,hk,rfl,rfl,rfl,by rw[Qs,lenV];exact hl,by simpa using rv⟩) (fun b u z=>by have z':(none:Option HO)=some u:=z;cases z') (fun b z=>absurd rfl z) fun z=>absurd rfl z
 | none =>
  refine core (fun b=>if b=a then some (.frz { cls:=.type "list",data:=.seq vs.toArray } (.lst (ns.map V.int))) else none) (fun b=>?_) (.inl (.inr ⟨{ cls:=.type "list",data:=.seq vs.toArray },if_pos rfl⟩)) (fun b u z=>?_) (fun b z=>?_) fun _=>hk
  ·by_cases hb:b=a
   ·exact .inr ⟨_,_,if_pos hb⟩
   ·exact .inl (if_neg hb)
  ·by_cases hb:b=a
   ·have z':=(if_pos hb).symm.trans z
    cases z'
    subst hb
    exact⟨ha,by rw[Qb];exact hl,vs,_,rv,ha⟩
   ·have z':=(if_neg hb).symm.trans z
    cases z'
  ·by_cases hb:b=a
   ·exact hb
   ·exact absurd (if_neg hb) z
abbrev KOf{K:PySem.W.Frag}{h:Heap}(_:K.In h):PySem.W.Frag:=K
theorem walk_of{l:PySem.W.OpenLaw}{n k:Nat}{q:Program}{loose:List Str}{XP:(Str→Option Value)→Heap→Prop}{YP:World→Heap→Prop}{d:DefRec}{K:Params→PySem.W.Frag}{CX:World→CXT}{sp:World→Sp}{x:Str}
  (hn:l.most=some n) (hn2:n≤sizeLine) (hdf:d.params.defaults=[]) (hr:ZaA k callerA)
  (hY:∀ (w:World) (h:Heap),YP w h→(K w.params).In h)
  (F:∀ (w:World) (mg:Str→Option Value) (fa:Addr) (h:Heap),(K w.params).In h→h.Ns mainGlobals mg→mg d.name=some (.ref fa) →
   ∃fd:FuncData,(∀ (s:Shared) (u:Value),BindsTo s fd ⟨[u],[]⟩ [(x,u)]) ∧
    ∀base:Heap,(K w.params).In base→base.Ns mainGlobals mg→ZcU l.prog w (K w.params) mg base (CX w) k fa fd [x] (sp w))
  (hsp:∀ (w:World) (H:Hp) (a:Addr) (ns:List Int),ns.length≤n→Zm6 H→SqL (K w.params) H a (ns.map V.int)→sp w [.ref a] H (fun v _=>v=.bl true) fun _ _ _=>False)
  (hCX:∀ (w:World) (H:Hp) (s:Shared) (e:Value) (s':Shared),CX w [] H s (fun _ _ _=>False) e s'→False) :
  PySem.W.WalkO q loose XP YP l.row.toRowW d [] (fun f vs=>PySem.call f vs):=by
 refine Att.attach_call hn hdf fun w s₀ s₁ mg mb fa o pm cd doc a vs ns G Y ho hd hcd hmg hobj hints hlen hg=>?_
 have KX:=hY w _ Y
 obtain⟨fd,hb,hF⟩:=F w mg fa _ KX G.T.g hmg
 exact Zj0 KX G.T.g G.T.b G.T.builtins G.T.nolimit hg hobj hints (QP hlen hn2) hr hF hb (fun H hO hS=>hsp w H a ns hlen hO hS) fun H e s'=>hCX w H s₁ e s'
def ZO(s:Stmt)(j:Nat):Stmt:=match s with
 | .ClassDef _ _ _ body _ _ _ _ _ _ _=>body.getD j (.Pass ⟨0,0,0,0⟩)
 | _=>.Pass ⟨0,0,0,0⟩
def Zp(s:Stmt):Arguments:=match s with
 | .FunctionDef _ a _ _ _ _ _ _ _ _=>a
 | _=>{ posonlyargs:=[],args:=[],vararg:=none,kwonlyargs:=[],kw_defaults:=[],kwarg:=none,defaults:=[] }
def Zo(s:Stmt):List Stmt:=match s with
 | .FunctionDef _ _ b _ _ _ _ _ _ _=>b
 | _=>[]
def Zf(s:Stmt):Scope:=match s with
 | .FunctionDef _ _ _ _ _ _ sc _ _ _=>sc
 | _=>{ kind:=.function,names:=[],isGenerator:=false,isCoroutine:=false }
abbrev CX0:CXT:=fun _ _ _ _ _ _=>False
abbrev E0:XK:=fun _ _ _=>False
theorem ZiO{X:Cx}:Zdd CX0 X E0:=fun _ _ _ _ _ _ _ h=>h.elim
structure Fun (K:PySem.W.Frag) (x qual:Str) (st:Stmt) (f:Addr) (fd:FuncData):Prop where
 ex:∃ (oc:Value) (od:Option Addr) (kV doc pm:Value) (an:Option Addr) (cdv ct:Value) (osl:Array (Option Value)),
  fd=PySem.W.fnOf x qual (Zp st) (Zo st) (Zf st) .none kV doc pm an cdv ct∧K.lookup f=some ⟨oc,od,.func fd,osl⟩∧PySem.W.codeIn K cdv qual=true
 kp:PySem.W.keepIn K (.ref f)=true
section
variable {P:Program} {w:World} {K:PySem.W.Frag} {mg:Str→Option Value} {base:Heap}
theorem Fun.ok{x qual:Str}{st:Stmt}{f:Addr}{fd:FuncData}{N ps:List Str}{k:Nat}{sp:Sp}(F:Fun K x qual st f fd)(S:Zq N ps (Zf st))(len:∀vs H Q E,sp vs H Q E→vs.length=ps.length)
  (hbody:∀ (cdv:Value) (A:Around) (outer:List Env) (s:Shared) (H:Hp) (vs:List V) (Q:VK) (E:XK),ZaA k (A.deeper (envOfC qual (Zf st) s.heap.objs.size f cdv))→sp vs H Q E →
   ∃t,PSs (Zf4 CX0 P w K mg base N qual (Zf st) f cdv A outer s H E).nox (Zo st) t∧t { nx:=fun _ H'=>Q .non H',rt:=Q } (Zcq N vs) H):ZcU P w K mg base CX0 (k+1) f fd ps sp:=by
 obtain⟨oc,od,kV,doc,pm,an,cdv,ct,osl,rfl,lk,hcd⟩:=F.ex
 refine Zom lk hcd S len fun A outer s H vs Q E hr hsp=>?_
 obtain⟨t,h,q⟩:=hbody cdv A outer s H vs Q E hr hsp
 exact⟨t,h.nox,q⟩
theorem Fun.binds{x qual:Str}{st:Stmt}{f:Addr}{fd:FuncData}{ps:List Str}(F:Fun K x qual st f fd)
  (h:∀ (kV doc pm:Value) (an:Option Addr) (cdv ct:Value) (us:List Value),us.length=ps.length→bindArgs (PySem.W.fnOf x qual (Zp st) (Zo st) (Zf st) .none kV doc pm an cdv ct) ⟨us,[]⟩=pure (ps.zip us)):Zbv K fd ps []:=by
 obtain⟨oc,od,kV,doc,pm,an,cdv,ct,osl,rfl,lk,hcd⟩:=F.ex
 exact .all (h kV doc pm an cdv ct)
theorem ZN{x qual:Str}{st:Stmt}{f:Addr}{oc:Value}{od an:Option Addr}{osl:Array (Option Value)}{kV doc pm cdv ct:Value}(l:K.lookup f=some ⟨oc,od,.func (PySem.W.fnOf x qual (Zp st) (Zo st) (Zf st) .none kV doc pm an cdv ct),osl⟩)
  (c:PySem.W.codeIn K cdv qual=true) (k:PySem.W.keepIn K (.ref f)=true):Fun K x qual st f (PySem.W.fnOf x qual (Zp st) (Zo st) (Zf st) .none kV doc pm an cdv ct):=⟨⟨oc,od,kV,doc,pm,an,cdv,ct,osl,rfl,l,c⟩,k⟩
end
theorem Zln{A:Around}{k:Nat}(hr:ZaA k A):A.units+1<cLine:=Nat.lt_of_le_of_lt (Nat.add_le_add_left (by decide:1≤64) _) hr.units
theorem Z5{n:Nat}(h:n≤1000):n<sizeLine:=Nat.lt_of_le_of_lt h (by decide)
section
variable {X:Cx}
theorem pv(i:Nat){x:Str}{pos:Pos}(hN:X.N[i]? = some x:=by rfl)(hv:Vis X.env.scope x:=by first|exact Or.inl rfl|exact Or.inr (Or.inl rfl)|exact Or.inr (Or.inr rfl))(hd:(x == ("__debug__" : Str))=false:=by decide)
  (hcd:(x == ("__classdict__" : Str))=false:=by decide):PE X (.Name x pos) (Zmy i):=ZhH hN hv hd hcd
end
theorem Zcc{A B:Prop}(h:B):if false=true then A else B:=by
 rw[if_neg Qn]
 exact h
theorem Ze6{A B:Prop}(h:A):if true=true then A else B:=by
 rw[if_pos rfl]
 exact h
theorem Zbx{c A B:Prop}[Decidable c](h1:c→A)(h2:¬ c→B):if c then A else B:=by
 by_cases h:c
 ·rw[if_pos h]
  exact h1 h
 ·rw[if_neg h]
  exact h2 h
theorem Zfz{c A B:Prop}[Decidable c](hc:c)(h:B):if (!decide c)=true then A else B:=by
 rw[decide_eq_true hc]
 exact Zcc h
def ZD(H H':Hp):Prop:=∀b o,H b=some o→H' b=some o
theorem ZD.refl(H:Hp):ZD H H:=fun _ _ h=>h
theorem ZD.trans{H H1 H2:Hp}(a:ZD H H1)(b:ZD H1 H2):ZD H H2:=fun c o h=>b c o (a c o h)
theorem ZD.free{H H':Hp}(e:ZD H H'){l:Addr}(h:H' l=Option.none):H l=Option.none:=by
 cases q:H l with
 | none=>rfl
 | some o =>
  rw[e l o q]at h
  cases h
theorem ZD.seq{K:PySem.W.Frag}{H H':Hp}{a:Addr}{xs:List V}(e:ZD H H')(h:SqL K H a xs):SqL K H' a xs:=by
 rcases h with(h|⟨o,h⟩)|h
 ·exact .inl (.inl (e _ _ h))
 ·exact .inl (.inr ⟨o,e _ _ h⟩)
 ·exact .inr h
def Zaq(cells:List (Str×Addr)):List (Str×NameKind)→List (Str×Addr)→List (Str×Addr)
 | [],acc=>acc
 | (n,k)::r,acc=>if k == .free then Zaq cells r ((n,(cells.lookup n).getD 0)::acc) else Zaq cells r acc
theorem Ze5{sc:Scope}{env:Env}(h:∀y∈sc.names,y.2=.free→∃c,env.cells.lookup y.1=some c) :
  closureFor sc env=pure (Zaq env.cells sc.names []):=by
 have go:∀ (names:List (Str×NameKind)) (acc:List (Str×Addr)),(∀y∈names,y.2=.free→∃c,env.cells.lookup y.1=some c) →
   (forIn names acc fun (x:Str×NameKind) (r:List (Str×Addr))=>if (x.2 == NameKind.free)=true then (do let c ← cellOf env x.1;pure (ForInStep.yield ((x.1,c)::r))) else pure (ForInStep.yield r):Sem (List (Str×Addr)))=pure (Zaq env.cells names acc):=by
  intro names
  induction names with
  | nil=>intro acc _;rfl
  | cons y r ih =>
   intro acc hy
   obtain⟨n,k⟩:=y
   rw[List.forIn_cons]
   cases hk:(k == NameKind.free) with
   | false =>
    have e1:Zaq env.cells ((n,k)::r) acc=Zaq env.cells r acc:=by
     show (if (k == NameKind.free)=true then _ else _)=_
     rw[hk];rfl
    rw[e1,← ih acc fun z hz=>hy z (Qi _ hz)]
    simp only[hk,Bool.false_eq_true,if_false,pure_bind]
   | true =>
    have hk':k=.free:=by simpa using hk
    obtain⟨c,hc⟩:=hy (n,k) QA hk'
    have e1:Zaq env.cells ((n,k)::r) acc=Zaq env.cells r ((n,c)::acc):=by
     show (if (k == NameKind.free)=true then _ else _)=_
     rw[hk,hc];rfl
    have e2:cellOf env n=pure c:=by
     unfold cellOf
     rw[hc]
    rw[e1,← ih ((n,c)::acc) fun z hz=>hy z (Qi _ hz)]
    simp only[hk,if_true,e2,pure_bind]
 have q:=go sc.names [] h
 unfold closureFor
 first
  | (rw[show (forIn sc.names ([]:List (Str×Addr)) _:Sem (List (Str×Addr)))=pure (Zaq env.cells sc.names []) from q];rfl)
  | (simp only[bind_pure];exact q)
  | exact q
theorem ZcF(cells:List (Str×Addr)):∀ (names:List (Str×NameKind)) (acc:List (Str×Addr)) (x:Str) (c:Addr),(Zaq cells names acc).lookup x=some c →
  (∃y∈names,y.1=x∧y.2=.free∧c=(cells.lookup x).getD 0)∨acc.lookup x=some c
 | [],acc,x,c,h=>.inr h
 | (n,k)::r,acc,x,c,h=>by
  by_cases hk:(k == NameKind.free)=true
  ·have e:Zaq cells ((n,k)::r) acc=Zaq cells r ((n,(cells.lookup n).getD 0)::acc):=by
    show (if (k == NameKind.free)=true then _ else _)=_
    rw[if_pos hk]
   rw[e]at h
   rcases ZcF cells r _ x c h with⟨y,hy,q⟩|q
   ·exact .inl ⟨y,Qi _ hy,q⟩
   ·rw[QaB]at q
    by_cases hx:(x == n)=true
    ·rw[hx]at q
     have hx':x=n:=by simpa using hx
     subst hx'
     exact .inl ⟨(x,k),QA,rfl,by simpa using hk,(Qo q).symm⟩
    ·have hx':(x == n)=false:=by simpa using hx
     rw[hx']at q
     exact .inr q
  ·have e:Zaq cells ((n,k)::r) acc=Zaq cells r acc:=by
    show (if (k == NameKind.free)=true then _ else _)=_
    rw[if_neg hk]
   rw[e]at h
   rcases ZcF cells r _ x c h with⟨y,hy,q⟩|q
   ·exact .inl ⟨y,Qi _ hy,q⟩
   ·exact .inr q
theorem ZeA(cells:List (Str×Addr)):∀ (names:List (Str×NameKind)) (acc:List (Str×Addr)) (x:Str),((∃y∈names,y.1=x∧y.2=.free)∨∃c,acc.lookup x=some c) →
  ∃c,(Zaq cells names acc).lookup x=some c
 | [],acc,x,h=>by
  rcases h with⟨y,hy,_⟩|h
  ·cases hy
  ·exact h
 | (n,k)::r,acc,x,h=>by
  by_cases hk:(k == NameKind.free)=true
  ·have e:Zaq cells ((n,k)::r) acc=Zaq cells r ((n,(cells.lookup n).getD 0)::acc):=by
    show (if (k == NameKind.free)=true then _ else _)=_
    rw[if_pos hk]
   rw[e]
   refine ZeA cells r _ x ?_
   by_cases hx:(x == n)=true
   ·exact .inr ⟨_,by rw[QaB,hx]⟩
   ·have hx':(x == n)=false:=by simpa using hx
    rcases h with⟨y,hy,q⟩|⟨c,q⟩
    ·rcases Qz.mp hy with rfl|hy
     ·exact absurd (by simpa using q.1.symm) hx
     ·exact .inl ⟨y,hy,q⟩
    ·exact .inr ⟨c,by rw[QaB,hx'];exact q⟩
  ·have e:Zaq cells ((n,k)::r) acc=Zaq cells r acc:=by
    show (if (k == NameKind.free)=true then _ else _)=_
    rw[if_neg hk]
   rw[e]
   refine ZeA cells r _ x ?_
   rcases h with⟨y,hy,q⟩|h
   ·rcases Qz.mp hy with rfl|hy
    ·exact absurd (by simpa using q.2) hk
    ·exact .inl ⟨y,hy,q⟩
   ·exact .inr h
structure Zaj (N N':List Str) (o c:Scope):Prop where
 kind:c.kind=.function
 okind:o.kind=.function
 nocell:∀y∈c.names,y.2≠.cell
 loc:∀y∈c.names,y.2=.local→c.names.lookup y.1=some .local
 free:∀y∈c.names,y.2=.free→c.names.lookup y.1=some .free∧(o.names.lookup y.1=some .cell∨o.names.lookup y.1=some .free)
 len:N.length≤N'.length
 same:∀i∈List.range N.length,∀x∈N'[i]?,c.names.lookup x=some .local∨c.names.lookup x=some .free→c.names.lookup x=some .free∧N[i]? = some x
 nd:N'.Nodup
def Zau(X:Cx)(c:Scope)(N':List Str)(C:Addr)(s:Shared)(H:Hp)(fp:List Addr):Cx :=
 { X with N:=N',s₀:=s,H₀:=H,env:=compEnvC c (Zaq X.env.cells c.names []) C X.env,outer:=X.stack,stack:=X.stack,ex:=fp,fn:=fun _=>false,pn:=[],xe:=fun _ _=>False }
theorem Zcz{env:Env}(hf:env.scope.kind=.function):∀ (names:List (Str×NameKind)) (x:Str),
  (names.map fun (p:Str×NameKind)=>if (p.2 == NameKind.free&&env.scope.kind == .function&&env.kindOf p.1 == some .cell)=true then (p.1,NameKind.cell) else (p.1,p.2)).lookup x =
   match names.lookup x with
   | some .free=>if env.kindOf x=some .cell then some .cell else some .free
   | k=>k
 | [],x=>rfl
 | (n,k)::r,x=>by
  have ih:=Zcz hf r x
  rw[Qe]
  by_cases hx:(x == n)=true
  ·have hx':x=n:=by simpa using hx
   subst hx'
   have e2:List.lookup x ((x,k)::r)=some k:=by rw[QaB];simp
   rw[e2]
   by_cases hk:k=.free
   ·subst hk
    by_cases hc:env.kindOf x=some .cell
    ·simp[List.lookup_cons,hf,hc]
    ·simp[List.lookup_cons,hf,hc]
   ·have hk':(k == NameKind.free)=false:=by simpa using hk
    rw[hk']
    simp only[Bool.false_and,Bool.false_eq_true,if_false,List.lookup_cons,beq_self_eq_true]
    all_goals (cases k<;>first|rfl|exact absurd rfl hk)
  ·have hx':(x == n)=false:=by simpa using hx
   have e2:List.lookup x ((n,k)::r)=List.lookup x r:=by rw[QaB,hx']
   rw[e2,← ih]
   by_cases hc:(k == NameKind.free&&env.scope.kind == .function&&env.kindOf n == some .cell)=true
   ·simp only[hc,if_true,List.lookup_cons,hx']
   ·simp only[hc,if_false,List.lookup_cons,hx',Bool.false_eq_true]
section
variable {X:Cx} {N N':List Str} {o c:Scope}
theorem ZbP(S:Zaj N N' o c)(ho:X.env.scope=o)(cl:List (Str×Addr))(C:Addr)(x:Str):(compEnvC c cl C X.env).kindOf x =
  match c.names.lookup x with
  | some .free=>if X.env.kindOf x=some .cell then some .cell else some .free
  | k=>k:=Zcz (env:=X.env) (by rw[ho];exact S.okind) c.names x
theorem Zb7{names:List (Str×NameKind)}{x:Str}{k:NameKind}(h:names.lookup x=some k):(x,k)∈names:=Qaf h
theorem Zbn(S:Zaj N N' o c)(ho:X.env.scope=o)(ok:X.Ok){x:Str}{a:Addr}(h:(Zaq X.env.cells c.names []).lookup x=some a) :
  X.env.cells.lookup x=some a∧c.names.lookup x=some .free:=by
 rcases ZcF _ _ _ _ _ h with⟨y,hy,rfl,hf,e⟩|q
 ·have hk:=S.free y hy hf
  have hv:X.env.kindOf y.1=some .cell∨X.env.kindOf y.1=some .free:=by
   show X.env.scope.names.lookup y.1=_∨X.env.scope.names.lookup y.1=_
   rw[ho];exact hk.2
  obtain⟨b,hb⟩:=ok.has y.1 hv
  rw[hb]at e
  exact⟨by rw[hb,e];rfl,hk.1⟩
 ·cases q
theorem Zg7(S:Zaj N N' o c)(ho:X.env.scope=o)(ok:X.Ok){x:Str}(h:c.names.lookup x=some .free):∃a,(Zaq X.env.cells c.names []).lookup x=some a∧X.env.cells.lookup x=some a:=by
 obtain⟨a,ha⟩:=ZeA X.env.cells c.names [] x (.inl ⟨(x,.free),Zb7 h,rfl,rfl⟩)
 exact⟨a,ha,(Zbn S ho ok ha).1⟩
theorem Zmn(S:Zaj N N' o c)(ho:X.env.scope=o){pins:List (Addr×Obj)}{σ:St}{H:Hp}{s:Shared}{fp:List Addr}(I:Inv X pins σ H s)
  (hf:∀b∈fp,Zej X pins H b) (ht:∀b∈fp,b<s.heap.objs.size):(Zau X c N' s.heap.objs.size s H fp).Ok where
 mod:=I.ok.mod
 kind:=S.kind
 glob:=I.ok.glob
 blt:=I.ok.blt
 above:=Qf _
 inj:=fun x y a h1 h2=>I.ok.inj x y a (Zbn S ho I.ok h1).1 (Zbn S ho I.ok h2).1
 has:=fun x hx=>by
  have e:=ZbP (X:=X) S ho (Zaq X.env.cells c.names []) s.heap.objs.size x
  have hx':(compEnvC c (Zaq X.env.cells c.names []) s.heap.objs.size X.env).kindOf x=some .cell∨(compEnvC c (Zaq X.env.cells c.names []) s.heap.objs.size X.env).kindOf x=some .free:=hx
  rw[e]at hx'
  cases q:c.names.lookup x with
  | none=>rw[q]at hx';rcases hx' with z|z<;>cases z
  | some k =>
   by_cases hk:k=.free
   ·subst hk
    obtain⟨a,ha,_⟩:=Zg7 S ho I.ok q
    exact⟨a,ha⟩
   ·rw[q]at hx'
    have hc:k=.cell:=by
     cases k<;>first|rfl|exact absurd rfl hk|(rcases hx' with z|z<;>cases z)
    subst hc
    exact absurd rfl (S.nocell _ (Zb7 q))
 cab:=fun x a h=>by cases (show false=true from h)
 hd:=I.ok.hd
 frames:=I.ok.frames
 stk:=.inl rfl
 exf:=fun b hb=>⟨QE (ht b hb),fun x a h=>(hf b hb).2.2.2.2.1 x a (Zbn S ho I.ok h).1⟩
 bs:=fun b ob e=>I.bs b ob e
 bsz:=QP I.ok.bsz I.sz
 noex:=fun b ob e hb=>by
  rcases(hf b hb).2.2.2.1 with z|z
  ·exact I.ok.noex b ob e z
  ·exact absurd (Qw (Qq e) (QP I.ok.bsz z)) (Qab _)
 exfs:=fun b hb hb'=>by
  rcases Qz.mp (I.stkSub b hb') with z|z
  ·exact(hf b hb).2.1 z
  ·exact(hf b hb).2.2.1 z
 funs:=I.stack
 frf:=I.stkFree
theorem ZkM(S:Zaj N N' o c)(hN:X.N=N)(ho:X.env.scope=o){pins:List (Addr×Obj)}{σ:St}{H:Hp}{s:Shared}{fp:List Addr}{h₁:Heap}{tk:Nat}{m₀:Str→Option Value}(I:Inv X pins σ H s)
  (hf:∀b∈fp,Zej X pins H b) (ht:∀b∈fp,b<s.heap.objs.size) (hns:h₁.Ns s.heap.objs.size m₀) (hk:∀b ob,s.heap.get? b=some ob→h₁.get? b=some ob) :
  Inv (Zau X c N' s.heap.objs.size s H fp) [] (σ++List.replicate (N'.length-N.length) none) H { s with heap:=h₁,toks:=tk } where
 ok:=Zmn S ho I hf ht
 os:=rfl
 bare:=I.bare
 base:=Un.kept hk
 loc:=by
  refine⟨m₀,hns,fun i x v e1 e2 e3=>?_⟩
  obtain⟨m,hn,hl⟩:=I.loc
  have hlen:σ.length=N.length:=by rw[I.len,hN]
  have hi:i<σ.length:=by
   by_cases hi:i<σ.length
   ·exact hi
   ·rw[QN (by omega),List.getElem?_replicate]at e2
    split at e2<;>cases e2
  have e2':σ[i]? = some (some v):=by rw[Q5 hi]at e2;exact e2
  have kd:=ZbP (X:=X) S ho (Zaq X.env.cells c.names []) s.heap.objs.size x
  have vis:c.names.lookup x=some .local∨c.names.lookup x=some .free:=by
   have e3':(compEnvC c (Zaq X.env.cells c.names []) s.heap.objs.size X.env).kindOf x=some .local∨(compEnvC c (Zaq X.env.cells c.names []) s.heap.objs.size X.env).kindOf x=some .cell∨(compEnvC c (Zaq X.env.cells c.names []) s.heap.objs.size X.env).kindOf x=some .free:=e3
   rw[kd]at e3'
   cases q:c.names.lookup x with
   | none=>rw[q]at e3';rcases e3' with z|z|z<;>cases z
   | some k =>
    cases k with
    | «local»=>exact .inl rfl
    | free=>exact .inr rfl
    | cell=>exact absurd rfl (S.nocell _ (Zb7 q))
    | _=>rw[q]at e3';rcases e3' with z|z|z<;>cases z
  obtain⟨hfr,hNi⟩:=S.same i (List.mem_range.mpr (by omega)) x (by rw[show N'[i]? = some x from e1];rfl) vis
  have hok:X.env.kindOf x=some .cell∨X.env.kindOf x=some .free:=by
   show X.env.scope.names.lookup x=_∨X.env.scope.names.lookup x=_
   rw[ho];exact(S.free _ (Zb7 hfr) rfl).2
  obtain⟨u,r,l⟩:=hl i x v (by rw[hN];exact hNi) e2' (.inr hok)
  refine⟨u,r,.inr ⟨?_,?_⟩⟩
  ·show (compEnvC c (Zaq X.env.cells c.names []) s.heap.objs.size X.env).kindOf x=some .cell∨(compEnvC c (Zaq X.env.cells c.names []) s.heap.objs.size X.env).kindOf x=some .free
   rw[kd,hfr]
   show (if X.env.kindOf x=some .cell then some NameKind.cell else some NameKind.free)=some .cell∨(if X.env.kindOf x=some .cell then some NameKind.cell else some NameKind.free)=some .free
   by_cases q:X.env.kindOf x=some .cell
   ·rw[if_pos q];exact .inl rfl
   ·rw[if_neg q];exact .inr rfl
  ·obtain⟨a,ha,ha'⟩:=Zg7 S ho I.ok hfr
   refine⟨a,ha,?_⟩
   rcases l with⟨z,_⟩|⟨_,a',e,ob,hob,hd⟩
   ·rcases hok with q|q<;>rw[q]at z<;>cases z
   ·rw[ha']at e;cases e
    exact⟨ob,hk _ _ hob,hd⟩
 cell:=fun x a h=>by
  obtain⟨v,ob,e,d⟩:=I.cell x a (Zbn S ho I.ok h).1
  exact⟨v,ob,hk _ _ e,d⟩
 free:=I.hok.fresh (Qf _)
 freeC:=fun x a h=>I.freeC x a (Zbn S ho I.ok h).1
 pin:=fun p hp=>absurd (show p∈([]:List (Addr×Obj)) from hp) (by simp)
 hok:=I.hok.kept hk
 len:=by
  have hlen:σ.length=N.length:=by rw[I.len,hN]
  have:=S.len
  show (σ++List.replicate (N'.length-N.length) none).length=N'.length
  rw[Qd,Qau]
  omega
end
abbrev Zir(ifs:List Expr)(env:Env):Sem Bool :=
 forIn ifs true fun k r=>if r=true then do let ok ← isTrue k env (eval k env);pure (ForInStep.yield ok) else pure (ForInStep.yield r)
def PTs(X:Cx)(ifs:List Expr)(t:TT):Prop :=
 ∀ (pins:List (Addr×Obj)) (s:Shared) (σ:St) (H:Hp) (Q:Bool→Hp→Prop),Inv X pins σ H s→t σ H Q→wpAny (model X.prog X.w) X.A (Zir ifs X.env) (TP X pins σ Q) X.xe s
def Zh2:TT:=fun _ H Q=>Q true H
theorem Zb8{X:Cx}:PTs X [] Zh2:=fun _ _ _ H _ I h=>wpAny_tests_nil ⟨H,I,h⟩
section
variable {prog:Program} {w:World} {A:Around} {R:Result→Shared→Prop} {s:Shared}
theorem ZfT{elt target iter:Expr}{ifs:List Expr}{scope:Scope}{pos:Pos}{it acc:Value}{env:Env}{E:Value→Shared→Prop}(I:Nat→Shared→Prop)
  (hE:∀e s',E e s'→False)
  (turn:∀n s,I n s→wpAny (model prog w) A (pyNext it) (fun r s₁=>match r with
   | none=>R (.ok .next) s₁
   | some v=>wpAny (model prog w) A (letOwnedTupleGo target it v) (fun _ s₀=>wpAny (model prog w) A (assign target env v) (fun _ s₂ =>
     wpAny (model prog w) A (Zir ifs env) (fun ok s₃ =>
      if ok=true then wpAny (model prog w) A (eval elt env) (fun x s₄ =>
       wpAny (model prog w) A (call (.builtin "list.append") [acc,x]) (fun _ s₅=>∃m,m<n∧I m s₅) E s₄) E s₃
      else ∃m,m<n∧I m s₃) E s₂) E s₀) E s₁) E s)
  (n:Nat) (h:I n s):codeAny (model prog w) A (.compLoop (.ListComp elt [⟨target,iter,ifs,0⟩] scope pos) 0 it acc env) R s:=by
 have go:∀ {α:Type} {t:Sem α} {Q:α→Shared→Prop} {s:Shared},wpAny (model prog w) A t Q E s→wpAny (model prog w) A t Q (notedBy (model prog w) A env fun e s'=>R (.error e) s') s :=
  fun {α t Q s} q=>wpAny_mono q (fun _ _ z=>z) fun e s' z=>(hE e s' z).elim
 refine codeAny_loop rfl I (fun n s hI=>?_) n h
 show wpAny _ A ((compTurn (.ListComp elt [⟨target,iter,ifs,0⟩] scope pos) 0 it acc env).onRaise (fun x=>do noteFrame x env;theTreesLotGoes x)) _ _ s
 refine wpAny_noted ?_
 rw[compTurn_list]
 refine wpAny_bind (wpAny_standAt (wpAny_bind (thn (go (turn n s hI)) fun r s₁ h₁=>?_)))
 cases r with
 | none=>exact wpAny_pure h₁
 | some v =>
  refine wpAny_bind (thn (go h₁) fun _ s₀ h₀=>wpAny_bind (thn (go h₀) fun _ s₂ h₂=>wpAny_bind (thn (go h₂) fun ok s₃ h₃=>?_)))
  cases ok with
  | false=>exact wpAny_pure ⟨rfl,h₃⟩
  | true =>
   exact wpAny_bind (wpAny_bind (thn (go h₃) fun x s₄ h₄=>wpAny_bind (thn (go h₄) fun _ s₅ h₅=>wpAny_pure (wpAny_pure ⟨rfl,h₅⟩))))
end
def ZdN(J:It)(D:Addr)(k:Nat)(σ:St)(H1:Hp)(g:TG)(tc:TT)(te:TE)(Q:VK):Prop :=
 ∃W:Nat→Nat→List V→St→Hp→Prop,(∃m,W 0 m [] (σ++List.replicate k none) (upd H1 D (.lst []))) ∧
  ∀i m ys σ2 H2,W i m ys σ2 H2→(J.stop i H2∧Q (.ref D) H2) ∨
   (J.go i H2∧∃N:List V→St→Hp→Prop,(∀ys' σ' H',N ys' σ' H'→∃m',m'<m∧W (i+1) m' ys' σ' H')∧∀x H3,J.yld i H2 x H3→g x σ2 H3 fun σ4 H4=>tc σ4 H4 fun b H5 =>
    if b=true then te σ4 H5 fun y H6=>H6 D=some (.lst ys)∧ys.length<sizeLine∧N (ys++[y]) σ4 (upd H6 D (.lst (ys++[y]))) else N ys σ4 H5)
def Zj3(n:Nat)(wi:TI)(g:TG)(tc:TT)(te:TE):TE:=fun σ H Q=>wi σ H fun J H1=>∀D,H1 D=none→ZdN J D n σ H1 g tc te Q
section
variable {X:Cx} {N N':List Str} {o c:Scope}
theorem ZgO{elt tg iter:Expr}{ifs:List Expr}{pos pos':Pos}{wi:TI}{g:TG}{tc:TT}{te:TE}{use:Option (Value→Sem Unit)}{QQ:Value→Shared→Prop}(S:Zaj N N' o c)(hN:X.N=N)(ho:X.env.scope=o)(hc:X.calm=true)
  (hi:PI X tg iter wi) (hg:∀C s H fp,PG (Zau X c N' C s H fp) tg g) (ht:∀C s H fp,PTs (Zau X c N' C s H fp) ifs tc) (he:∀C s H fp,PE (Zau X c N' C s H fp) elt te)
  (hs:∀x,foldedSetIterable iter X.env x=pure x) {pins:List (Addr×Obj)} {s:Shared} {σ:St} {H:Hp} {Q:VK} (I:Inv X pins σ H s) (h:Zj3 (N'.length-N.length) wi g tc te σ H Q)
  (post:∀ (D C:Addr) (s5:Shared) (H5:Hp) (m:Str→Option Value),Inv X pins σ H5 s5→H5 C=none→s5.heap.Ns C m→C≠X.env.locals→X.s₀.heap.objs.size≤C→(∀x a,X.env.cells.lookup x=some a→a≠C)→(∀p∈X.pn++pins,p.1≠C) →
   Q (.ref D) H5→compPost (model X.prog X.w) X.A X.xe use QQ (.ref D) C (.ok .next) s5) :
  wpAny (model X.prog X.w) X.A (comprehension (.ListComp elt [⟨tg,iter,ifs,0⟩] c pos) c X.env pos' (newList []) false (eval iter X.env) use) QQ X.xe s:=by
 have hclos:closureFor c X.env=pure (Zaq X.env.cells c.names []):=Ze5 fun y hy hf=>by
  refine I.ok.has y.1 ?_
  show X.env.scope.names.lookup y.1=_∨X.env.scope.names.lookup y.1=_
  rw[ho];exact(S.free y hy hf).2
 refine wpAny_comprehension_free (use:=use) rfl hs hclos S.kind S.loc (thn (hi pins s σ H _ I h) fun v s1 h1=>thn h1 fun itv s2 h2=>?_)
 obtain⟨it,fp,tn,J,H2,e,I2,T,st2,f2,hR⟩:=h2
 subst e
 have hD:H2 s2.heap.objs.size=none:=I2.fresh
 have I3:Inv X pins σ (upd H2 s2.heap.objs.size (.lst [])) { s2 with heap:=s2.heap.push { cls:=.type "list",data:=.seq ([]:List Value).toArray } } :=
  I2.lnew (ys:=[]) (its:=[]) (t':=s2.toks) .nil (Qv _)
 have fpl:∀b∈fp,b<s2.heap.objs.size:=fun b hb=>by
  obtain⟨ob,e,_⟩:=T.obj 0 _ st2 b hb
  exact Qq e
 refine wpAny_newObj_type (wpAny_newFunctionEnv S.nocell (by intro y hy;simp at hy) (fun h₁ hns₁ hsb₁=>?_) S.kind)
 have e3:∃s3:Shared,s3={ s2 with heap:=s2.heap.push { cls:=.type "list",data:=.seq ([]:List Value).toArray } }:=⟨_,rfl⟩
 obtain⟨s3,hs3⟩:=e3
 have e3:s3.heap=s2.heap.push { cls:=.type "list",data:=.seq ([]:List Value).toArray }:=by rw[hs3]
 have sz3:s3.heap.objs.size=s2.heap.objs.size+1:=by rw[e3,Qac]
 have fpl3:∀b∈fp,b<s3.heap.objs.size:=fun b hb=>Qw (fpl b hb) (by rw[sz3];exact Qay _)
 have f3:∀b∈fp,Zej X pins (upd H2 s2.heap.objs.size (.lst [])) b:=fun b hb=>⟨by rw[Zc (QE (fpl b hb))];exact(f2 b hb).1,(f2 b hb).2⟩
 have st3:tn 0 s3.heap:=T.keep 0 _ _ st2 fun b _ ob e=>by rw[e3];exact Qc _ e
 rw[← hs3]at I3
 show codeAny (model X.prog X.w) X.A (.compStart _ 0 (.ref it) (.ref s2.heap.objs.size) (compEnvC c (Zaq X.env.cells c.names []) (s2.heap.push { cls:=.type "list",data:=.seq ([]:List Value).toArray }).objs.size X.env))
  (compPost (model X.prog X.w) X.A X.xe use QQ (.ref s2.heap.objs.size) (s2.heap.push { cls:=.type "list",data:=.seq ([]:List Value).toArray }).objs.size)
  { s2 with heap:=h₁,toks:=s2.toks+([]:List (Str×Value)).length }
 have hns:h₁.Ns s3.heap.objs.size (fun x=>([]:List (Str×Value)).reverse.lookup x):=by rw[e3];exact hns₁
 have hk1:∀b ob,s3.heap.get? b=some ob→h₁.get? b=some ob:=fun b ob e=>by
  rw[e3]at e
  exact hsb₁.extBut b ob (QE (Qq e)) (Qc _ e)
 rw[← e3]
 have es4:({ s2 with heap:=h₁,toks:=s2.toks+([]:List (Str×Value)).length }:Shared)={ s3 with heap:=h₁,toks:=s2.toks }:=by rw[hs3];rfl
 rw[es4]
 obtain⟨W,⟨m0,w0⟩,turn⟩:=hR s2.heap.objs.size hD
 have I4:=ZkM (tk:=s2.toks) S hN ho I3 f3 fpl3 hns hk1
 have st4:tn 0 h₁:=T.keep 0 _ _ st3 fun b _ ob e=>hk1 b ob e
 generalize hX:Zau X c N' s3.heap.objs.size s3 (upd H2 s2.heap.objs.size (.lst [])) fp=Y at I4
 have Yp:Y.prog=X.prog:=by rw[← hX];rfl
 have Yw:Y.w=X.w:=by rw[← hX];rfl
 have YK:Y.K=X.K:=by rw[← hX];rfl
 have Yc:Y.calm=true:=by rw[← hX];exact hc
 have YA:Y.A=X.A:=by rw[← hX];rfl
 have Yenv:Y.env=compEnvC c (Zaq X.env.cells c.names []) s3.heap.objs.size X.env:=by rw[← hX];rfl
 have Yl:Y.env.locals=s3.heap.objs.size:=by rw[Yenv];rfl
 have Yxe:Y.xe=fun _ _=>False:=by rw[← hX];rfl
 have hg':=hg s3.heap.objs.size s3 (upd H2 s2.heap.objs.size (.lst [])) fp
 have ht':=ht s3.heap.objs.size s3 (upd H2 s2.heap.objs.size (.lst [])) fp
 have he':=he s3.heap.objs.size s3 (upd H2 s2.heap.objs.size (.lst [])) fp
 rw[hX]at hg' ht' he'
 have stat:∀ {H':Hp},(∀b∈fp,H' b=none)→∀b∈fp,Zej Y [] H' b:=fun {H'} hn b hb=>by
  obtain⟨_,q1,q2,q3,q4,_⟩:=f3 b hb
  have z1:=I4.ok.exf b (by rw[← hX];exact hb)
  refine⟨hn b hb,z1.1,I4.ok.exfs b (by rw[← hX];exact hb),.inl (by rw[← hX];exact hb),z1.2,fun p hp=>?_⟩
  have hp':p∈([]:List (Addr×Obj)):=by
   have:Y.pn=[]:=by rw[← hX];rfl
   rw[this]at hp;exact hp
  cases hp'
 have fin:∀ (s5:Shared) (σ5:St) (H5:Hp),Inv Y [] σ5 H5 s5→Q (.ref s2.heap.objs.size) H5→compPost (model X.prog X.w) X.A X.xe use QQ (.ref s2.heap.objs.size) s3.heap.objs.size (.ok .next) s5:=fun s5 σ5 H5 I5 q=>by
  obtain⟨m,hn,_⟩:=id I5.loc
  rw[Yl]at hn
  have hCn:H5 s3.heap.objs.size=none:=by have:=I5.free;rw[Yl]at this;exact this
  have un:Un (frs X.stack) fp (upd H2 s2.heap.objs.size (.lst [])) H5 s3.heap s5.heap:=by
   have:=I5.base
   rw[← hX]at this
   exact this
  have os5:s5.os=s3.os:=by have:=I5.os;rw[← hX]at this;exact this
  have hok5:HOk X.prog X.w H5 s5.heap:=by
   have:=I5.hok
   rw[Yp,Yw]at this
   exact this
  refine post _ _ s5 H5 m (I3.call' (s':=s5) (ch:=fp) os5 un hok5 I5.bare fun b hb=>?_) hCn hn (Q9 I3.lt) I3.sz (fun x a e=>?_) (fun p hp=>?_) q
  ·obtain⟨_,q1,_,q3,q4,q5⟩:=f3 b hb
   exact⟨q3,q1,q4,q5⟩
  ·obtain⟨v,ob,e',_⟩:=I3.cell x a e
   exact QE (Qq e')
  ·exact QE (Qq (I3.pin p hp).1)
 have loop:codeAny (model X.prog X.w) X.A (.compLoop (.ListComp elt [⟨tg,iter,ifs,0⟩] c pos) 0 (.ref it) (.ref s2.heap.objs.size) (compEnvC c (Zaq X.env.cells c.names []) s3.heap.objs.size X.env))
   (compPost (model X.prog X.w) X.A X.xe use QQ (.ref s2.heap.objs.size) s3.heap.objs.size) { s3 with heap:=h₁,toks:=s2.toks }:=by
  rw[← Yenv,← YA]
  refine ZfT (E:=fun _ _=>False) (fun n s'=>∃i ys σ' H',Inv Y [] σ' H' s'∧tn i s'.heap∧(∀b∈fp,H' b=none)∧W i n ys σ' H') (fun _ _ z=>z) ?_ m0
   ⟨0,[],_,_,I4,st4,fun b hb=>(f3 b hb).1,?_⟩
  ·rintro n s5 ⟨i,ys,σ5,H5,I5,st5,fr5,w5⟩
   rcases turn i n ys σ5 H5 w5 with⟨stop,qn⟩|⟨go,Nn,hNn,step⟩
   ·refine thn (T.done Y Yp Yw YK Yc i [] s5 σ5 H5 _ I5 (stat fr5) st5 stop) ?_
    rintro r s6 ⟨hr,I6⟩
    subst hr
    have fq:=fin s6 σ5 H5 I6 qn
    rw[← YA]at fq
    exact fq
   ·refine thn (T.item Y Yp Yw YK Yc i [] s5 σ5 H5 _ I5 (stat fr5) st5 go) ?_
    rintro r s6 ⟨u,hr,h6⟩
    subst hr
    refine thn h6 ?_
    rintro _ s7 ⟨x,H7,I7,r7,y7,st7,fr7⟩
    have I7':=I7.pinned (stat fr7) (T.obj _ _ st7)
    have back:∀ {σ9:St} {H9:Hp} {s9:Shared},Inv Y ([]++ZeJ fp s7.heap) σ9 H9 s9→Inv Y [] σ9 H9 s9∧tn (i+1) s9.heap∧∀b∈fp,H9 b=none:=fun {σ9 H9 s9} I9=>by
     refine⟨I9.unpinned,T.keep _ _ _ st7 fun b hb ob e=>(I9.pin (b,ob) (Qh _ (Qh _ (Zcd hb e)))).1,fun b hb=>?_⟩
     obtain⟨ob,e,d⟩:=T.obj _ _ st7 b hb
     exact(I9.pin (b,ob) (Qh _ (Qh _ (Zcd hb e)))).2.1
    have P1:=hg' _ s7 σ5 H7 x u _ I7' r7 (step x H7 y7)
    rw[Yp,Yw,Yxe]at P1
    refine thn P1 ?_
    rintro _ s8 ⟨σ8,H8,I8,q8⟩
    have P2:=ht' _ s8 σ8 H8 _ I8 q8
    rw[Yp,Yw,Yxe]at P2
    refine thn P2 ?_
    rintro ok s9 ⟨H9,I9,q9⟩
    cases ok with
    | false =>
     rw[if_neg Qn]at q9
     rw[if_neg Qn]
     obtain⟨b1,b2,b3⟩:=back I9
     obtain⟨m',hm',w9⟩:=hNn _ _ _ q9
     exact⟨m',hm',i+1,ys,σ8,H9,b1,b2,b3,w9⟩
    | true =>
     rw[if_pos rfl]at q9
     rw[if_pos rfl]
     have P3:=he' _ s9 σ8 H9 _ I9 q9
     rw[Yp,Yw,Yxe]at P3
     refine thn P3 ?_
     rintro y s10 ⟨vy,H10,I10,r10,hDl,hsz,q10⟩
     have P4:=ZaR (X:=Y) _ s10 σ8 H10 (.ref s2.heap.objs.size) [vy] (.ref s2.heap.objs.size) [y] (fun _ H'=>Nn (ys++[vy]) σ8 H') I10 rfl (.cons r10 .nil) ⟨_,ys,vy,rfl,rfl,hDl,hsz,q10⟩
     rw[Yp,Yw,Yxe]at P4
     refine thn P4 ?_
     rintro _ s11 ⟨_,H11,I11,_,q11⟩
     obtain⟨b1,b2,b3⟩:=back I11
     obtain⟨m',hm',w11⟩:=hNn _ _ _ q11
     exact⟨m',hm',i+1,ys++[vy],σ8,H11,b1,b2,b3,w11⟩
  ·exact w0
 have lp:=T.self X.A 0 { s3 with heap:=h₁,toks:=s2.toks } (fun it' s'=>codeAny (model X.prog X.w) X.A (.compLoop (.ListComp elt [⟨tg,iter,ifs,0⟩] c pos) 0 it' (.ref s2.heap.objs.size) (compEnvC c (Zaq X.env.cells c.names []) s3.heap.objs.size X.env))
   (compPost (model X.prog X.w) X.A X.xe use QQ (.ref s2.heap.objs.size) s3.heap.objs.size) s') (fun _ _=>False) st4 loop
 exact codeAny_compStart_list loop (wpAny_mono lp (fun _ _ z=>z) fun _ _ z=>z.elim)
theorem Inv.let{pins:List (Addr×Obj)}{σ:St}{H:Hp}{s:Shared}{C:Addr}{h':Heap}(I:Inv X pins σ H s)(hn:H C=none)(hL:C≠X.env.locals)(h1:X.s₀.heap.objs.size≤C)
  (h2:∀x a,X.env.cells.lookup x=some a→a≠C) (h3:∀p∈X.pn++pins,p.1≠C) (hs:Heap.SameBut C s.heap h'):Inv X pins σ H { s with heap:=h' } :=
 I.turned (t':=s.toks) (fun b ob hb e=>hs.extBut b ob hb e) hn hL (.inr h1) h2 h3
theorem ZcL{elt tg iter:Expr}{ifs:List Expr}{pos:Pos}{wi:TI}{g:TG}{tc:TT}{te:TE}(S:Zaj N N' o c)(hN:X.N=N)(ho:X.env.scope=o)(hc:X.calm=true)
  (hi:PI X tg iter wi) (hg:∀C s H fp,PG (Zau X c N' C s H fp) tg g) (ht:∀C s H fp,PTs (Zau X c N' C s H fp) ifs tc) (he:∀C s H fp,PE (Zau X c N' C s H fp) elt te)
  (hs:∀x,foldedSetIterable iter X.env x=pure x:=by intro _;rfl) :
  PE X (.ListComp elt [⟨tg,iter,ifs,0⟩] c pos) (Zj3 (N'.length-N.length) wi g tc te):=by
 intro pins s σ H Q I h
 rw[eval_ListComp]
 refine ZgO (use:=none) S hN ho hc hi hg ht he hs I h fun D C s5 H5 m I5 hCn hn n1 n2 n3 n4 q=>⟨m,hn,fun h' hsb=>?_⟩
 exact⟨.ref D,H5,I5.let hCn n1 n2 n3 n4 hsb,rfl,q⟩
theorem ZhR{i:Nat}{x:Str}{elt tg iter:Expr}{ifs:List Expr}{pos pos' spos:Pos}{wi:TI}{g:TG}{tc:TT}{te:TE}(hnd:X.N.Nodup)(hx:X.N[i]? = some x)(hl:Loc X.env.scope x)(S:Zaj N N' o c)(hN:X.N=N)(ho:X.env.scope=o)(hc:X.calm=true)
  (hi:PI X tg iter wi) (hg:∀C s H fp,PG (Zau X c N' C s H fp) tg g) (ht:∀C s H fp,PTs (Zau X c N' C s H fp) ifs tc) (he:∀C s H fp,PE (Zau X c N' C s H fp) elt te)
  (hsw:swapsWith (.ListComp elt [⟨tg,iter,ifs,0⟩] c pos) (some (.Name x pos')) spos.line X.env=pure true)
  (hs:∀x,foldedSetIterable iter X.env x=pure x:=by intro _;rfl) (hf:X.fn x=true∨X.env.scope.names.lookup x=some .local:=by first|exact .inl rfl|exact .inr rfl|assumption) :
  PS X (.Assign [.Name x pos'] (.ListComp elt [⟨tg,iter,ifs,0⟩] c pos) spos) (ZmT (Zj3 (N'.length-N.length) wi g tc te) (ZiH i)):=by
 intro pins s σ H D I h
 rw[exec_Assign_Name_used _ _ _ _ hsw]
 refine wpAny_bind (wpAny_standAt (wpAny_bind ?_))
 show wpAny _ X.A (do let _ ← comprehension (.ListComp elt [⟨tg,iter,ifs,0⟩] c pos) c X.env _ (newList []) false (eval iter X.env) (some (assign (.Name x pos') X.env))) _ _ s
 refine wpAny_bind (thn (ZgO (QQ:=fun _ s'=>SP X pins D .next s') (use:=some (assign (.Name x pos') X.env)) S hN ho hc hi hg ht he hs I h ?_) fun _ s' hq=>wpAny_pure (wpAny_pure hq))
 intro L C s5 H5 m I5 hCn hn n1 n2 n3 n4 q
 show wpAny _ X.A (assign (.Name x pos') X.env (.ref L)) _ _ _
 refine wpAny_assign_Name (ZfH (v:=.ref L) I5 hnd hx hl rfl (?_) hf)
 rintro s6 I6 ⟨a,hsb,ha⟩
 have nCa:C≠a:=by
  rcases ha with z|z
  ·rw[z];exact n1
  ·exact(n3 x a z).symm
 exact⟨m,hn.sameBut hsb nCa,fun h' hsb'=>⟨_,H5,I6.let hCn n1 n2 n3 n4 hsb',q⟩⟩
end
theorem ZeL{ys:List Str}:∀ {us:List Value},Zy (ys.map V.str) us→StrsAre us ys:=by
 induction ys with
 | nil=>intro us r;rw[List.map_nil]at r;cases r;exact .nil
 | cons y ys ih =>
  intro us r
  rw[Qe]at r
  cases r with
  | cons r1 r2 =>
   obtain⟨t,e⟩:=r1
   subst e
   exact .cons _ _ (ih r2)
theorem ZfJ:∀ {vs:List Value} {ys:List Str},StrsAre vs ys→Zy (ys.map V.str) vs
 | _,_,.nil=>.nil
 | _,_,.cons _ t h=>.cons ⟨t,rfl⟩ (ZfJ h)
section
variable {X:Cx}
def Zn5(K:PySem.W.Frag):List V→Hp→VK→Prop:=fun xs H Q=>∃x c t b,xs=[x,.ty c]∧Zdy K H x t∧PySem.W.kitOne K t (.type c)=some b∧Q (.bl b) H
theorem ZkK:Zap X (.builtin "isinstance") (Zn5 X.K):=by
 intro pins s σ H xs us Q I r h
 obtain⟨x,c,t,b,rfl,ty,e,q⟩:=h
 obtain⟨u,w',rfl,rx,rc⟩:=ZiL r
 cases rc
 exact Zjp I rx ty e fun tk=>⟨.bl b,H,I.tok _,rfl,q⟩
def Zmz(K:PySem.W.Frag):List V→Hp→VK→Prop:=fun xs H Q=>∃ (x:V) (tp:Addr) (cs:List String) (t:Value) (b:Bool),xs=[x,.ref tp]∧H tp=some (.tup (cs.map V.ty))∧Zdy K H x t∧PySem.W.kitAny K t (cs.map Value.type)=some b∧Q (.bl b) H
theorem Zmc{cs:List String}:∀ {us:List Value},Zy (cs.map V.ty) us→us=cs.map Value.type:=by
 induction cs with
 | nil=>intro us r;rw[List.map_nil]at r;cases r;rfl
 | cons y ys ih =>
  intro us r
  rw[Qe]at r
  cases r with
  | cons r1 r2=>rw[show _=Value.type y from r1,ih r2];rfl
theorem Zjw:Zap X (.builtin "isinstance") (Zmz X.K):=by
 intro pins s σ H xs us Q I r h
 obtain⟨x,tp,cs,t,b,rfl,ht,ty,e,q⟩:=h
 obtain⟨u,w',rfl,rx,rc⟩:=ZiL r
 cases rc
 obtain⟨_,its,rv,⟨ot,e1,e2,n,e3⟩⟩:=I.hok tp _ ht
 have ei:=Zmc rv
 subst ei
 obtain⟨oc,od,dt,sl⟩:=ot
 have e2':oc=Value.type "tuple":=e2
 have e3':dt=Data.seq (cs.map Value.type).toArray n:=e3
 subst e2';subst e3'
 have fin:∀tk,EP X pins σ Q (.bool b) { s with toks:=tk }:=fun tk=>⟨.bl b,H,I.tok _,rfl,q⟩
 cases ty with
 | non=>cases (show u=Value.none from rx);exact Q4 PySem.W.kitx_none I.kIn True.intro e1 e (fun z=>nomatch z) fin
 | bl y=>cases (show u=Value.bool y from rx);exact Q4 PySem.W.kitx_bool I.kIn True.intro e1 e (fun z=>nomatch z) fin
 | int i=>obtain⟨t,q⟩:=(show ∃t,u=Value.int i t from rx);cases q;exact Q4 PySem.W.kitx_int I.kIn True.intro e1 e (fun z=>nomatch z) fin
 | str y=>obtain⟨t,q⟩:=(show ∃t,u=Value.str y t from rx);cases q;exact Q4 PySem.W.kitx_str I.kIn True.intro e1 e (fun z=>nomatch z) fin
 | flt y=>obtain⟨t,q⟩:=(show ∃t,u=Value.float y t from rx);cases q;exact Q4 PySem.W.kitx_float I.kIn True.intro e1 e (fun z=>nomatch z) fin
 | @lst a xs ea =>
  cases (show u=Value.ref a from rx)
  obtain⟨_,_,n,_,h1⟩:=(show Z3 X.prog X.w H s.heap a (.lst xs) from I.hok a _ ea)
  exact Q4 QaP I.kIn ⟨_,h1,rfl⟩ e1 e (fun z=>nomatch z) fin
 | @frz a ob xs ea =>
  cases (show u=Value.ref a from rx)
  obtain⟨_,_,_,n,_,h1⟩:=(show Z3 X.prog X.w H s.heap a (.frz ob (.lst xs)) from I.hok a _ ea)
  exact Q4 QaP I.kIn ⟨_,h1,rfl⟩ e1 e (fun z=>nomatch z) fin
 | @tup a xs ea =>
  cases (show u=Value.ref a from rx)
  obtain⟨_,_,_,p⟩:=(show Z3 X.prog X.w H s.heap a (.tup xs) from I.hok a _ ea)
  obtain⟨o,h1,h2,_⟩:=p
  exact Q4 PySem.W.kitx_tuple I.kIn ⟨o,h1,h2⟩ e1 e (fun z=>nomatch z) fin
 | @dK a kvs ea =>
  cases (show u=Value.ref a from rx)
  obtain⟨_,_,vs,_,p⟩:=(show Z3 X.prog X.w H s.heap a (.dK kvs) from I.hok a _ ea)
  obtain⟨o,es,ep,h1,h2,_⟩:=p
  exact Q4 QaQ I.kIn ⟨o,h1,h2.1⟩ e1 e (fun z=>nomatch z) fin
 | @dT a kvs ea =>
  cases (show u=Value.ref a from rx)
  obtain⟨_,_,xs,_,o,es,ep,h1,h2,_⟩:=(show Z3 X.prog X.w H s.heap a (.dT kvs) from I.hok a _ ea)
  exact Q4 QaQ I.kIn ⟨o,h1,h2.1⟩ e1 e (fun z=>nomatch z) fin
 | @ins a C dx fs ea cl ha hn htk hm =>
  cases (show u=Value.ref a from rx)
  obtain⟨mA,O,_⟩:=ZdB I.hok ea
  obtain⟨od,J,_⟩:=O.look
  exact Q4 (PySem.W.kitx_own (cl.get _) cl.hd ha hn htk hm) I.kIn J e1 e (fun z=>nomatch z) fin
theorem Zlg(hc:X.calm=true):Zap X (.builtin "all") (fun xs H Q=>∃ (p:Addr) (bs:List Bool),xs=[.ref p]∧SqL X.K H p (bs.map V.bl)∧Q (.bl (bs.all id)) H):=by
 intro pins s σ H xs us Q I r h
 obtain⟨p,bs,rfl,hq,q⟩:=h
 obtain⟨u,rfl,rx⟩:=Zcj r
 cases rx
 obtain⟨its,rv,pl,hz⟩:=I.list hq
 have hl:=pl.isList
 have hlt:p<s.heap.objs.size:=by obtain⟨_,e,_⟩:=hl;exact Qq e
 refine call_all_walk (wpAny_pyIter_list hl ?_)
 refine⟨s.heap.objs.size,[s.heap.objs.size,p],[s.heap.objs.size],its.toArray.size,_,_,fun i=>(bs[i]?).getD true,rfl,Walks.list (A:=X.A.in1) (I.ok.hd hc) _ p (QE hlt) its.toArray,
  ⟨⟨_,Qt _ rfl,rfl,rfl⟩,hl.push _⟩,fun i v s' Q' E' hP hQ=>?_,fun h' tk hk=>?_⟩
 ·have hP':its[i]? = some v:=by simpa using hP
  have hi:i<its.length:=(Qg.mp hP').1
  have hlen:=rv.length
  have hb:(bs.map V.bl)[i]? = some (V.bl (bs[i]'(by rw[Qb]at hlen;omega))):=by
   rw[Qu,Qa (by rw[Qb]at hlen;omega)];rfl
  obtain⟨u',hu',ru'⟩:=rv.get hb
  rw[hP']at hu';cases hu'
  obtain rfl:v=Value.bool _:=ru'
  have hQ2:Q' ((bs[i]?).getD true) s':=hQ
  rw[Qa (by rw[Qb]at hlen;omega)]at hQ2
  exact wpAny_truthy_bool hQ2
 ·have e:((List.range its.toArray.size).all fun i=>(bs[i]?).getD true)=bs.all id:=by
   have hlen:=rv.length
   rw[Qb]at hlen
   rw[Qs,← hlen,QaK,Qa3,Qa3]
   constructor
   ·intro z b hb
    obtain⟨i,hi,rfl⟩:=Qad.mp hb
    have:=z i (List.mem_range.mpr hi)
    rw[Qa hi]at this
    exact this
   ·intro z i hi
    have hi':=List.mem_range.mp hi
    rw[Qa hi']
    exact z _ (QS hi')
  refine⟨.bl (bs.all id),H,I.kept fun b ob e'=>hk b ob (fun hm=>?_) (Qc _ e'),by rw[e];rfl,q⟩
  rw[Ql.mp hm]at e'
  exact Qab _ (Qq e')
theorem Zgm:Zap X (.builtin "sorted") (fun xs H Q=>∃ (p:Addr) (ss:List Str),xs=[.ref p]∧SqL X.K H p (ss.map V.str)∧ss.length<64 ∧
  ∀ (l:Addr) (ss':List Str),H l=none→ss'.Perm ss→sortedS ss'=true→Q (.ref l) (upd H l (.lst (ss'.map V.str)))):=by
 intro pins s σ H xs us Q I r h
 obtain⟨p,ss,rfl,hq,h64,q⟩:=h
 obtain⟨u,rfl,rx⟩:=Zcj r
 cases rx
 obtain⟨its,rv,pl,hz⟩:=I.list hq
 have hlen:=rv.length
 rw[Qb]at hlen hz
 refine sorted_strs pl.isList (ZeL rv) (by omega) fun out ss' a1 a2 a3=>?_
 obtain⟨e,he⟩:=sortedAll_at s.heap its out
 have hp:=a2.length_eq
 refine⟨.ref (s.heap.objs.size+1),_,I.laid (t':=s.toks) (o:=.lst (ss'.map V.str)) (fun _ _=>sortedAll_old) (Qay _) ⟨by rw[Qb];omega,out.toList,e,ZfJ a1,by simpa using he⟩,rfl,q _ ss' (I.hok.fresh (Qay _)) a2 a3⟩
theorem Zly:MtR X "str.join" (fun x vs H Q=>∃ (sep:Str) (p:Addr) (ys:List Str),x=.str sep∧vs=[.ref p]∧SqL X.K H p (ys.map V.str)∧(ys.map (·.length)).sum+ys.length*sep.length≤16777216∧Q (.str (Txt.join sep ys)) H):=by
 intro pins s σ H x vs v us Q I rx rv h
 obtain⟨sep,p,ys,rfl,rfl,hq,hz,q⟩:=h
 obtain⟨t,rfl⟩:=rx
 obtain⟨u,rfl,ru⟩:=rv.one
 cases ru
 obtain⟨its,r',pl,_⟩:=I.list hq
 exact join_list pl.isList (ZeL r') hz fun t' k=>⟨.str _,H,I.tok _,⟨_,rfl⟩,q⟩
theorem ZlY:OpR X (binaryOp .Mult) (fun x y H Q=>∃a n,x=.str a∧y=.int n∧0≤n∧n≤1000000∧(a.length:Int)*n≤1000000∧Q (.str (Txt.mul a n)) H):=by
 intro pins s σ H x y v u Q I rx ry h
 obtain⟨a,n,rfl,rfl,h0,h1,h2,q⟩:=h
 obtain⟨t,rfl⟩:=rx
 obtain⟨t',rfl⟩:=ry
 have h2':a.length*n.toNat≤1000000:=by
  have e:((a.length*n.toNat:Nat):Int)=(a.length:Int)*n:=by rw[Int.natCast_mul,Int.toNat_of_nonneg h0]
  omega
 refine PySem.P.mul_str ?_ (fun c1 c2=>?_) (fun c1 c2=>?_) ?_
 ·have e1:decide (n < -(2 ^ 63:Int))=false:=decide_eq_false (by omega)
  have e2:decide (n≥2 ^ 63)=false:=decide_eq_false (by omega)
  rw[e1,e2];rfl
 ·have hn:(1:Int)≤n:=by omega
  have q1:(a.length:Int)*1≤(a.length:Int)*n:=Int.mul_le_mul_of_nonneg_left hn (Int.natCast_nonneg _)
  have q2:(1000000:Int)≤(2 ^ 63-1) / n:=by
   rw[Int.le_ediv_iff_mul_le (by omega)]
   have:(1000000:Int)*n≤1000000*1000000:=Int.mul_le_mul_of_nonneg_left h1 (by decide)
   omega
  omega
 ·unfold Builtin.Str.tooLong
  have hl:sizeLine=16777216:=sizeLine_eq
  exact decide_eq_false (by omega)
 ·have e:Txt.mul a n=if n<1 then Str.empty else if (n == 1||a.length == 0)=true then a else ⟨(List.replicate n.toNat a.cps).foldl (·++·) #[]⟩:=rfl
  rw[e]at q
  by_cases c1:n<1
  ·rw[if_pos c1]at q ⊢
   exact⟨by decide,.str _,H,I.tok _,⟨_,rfl⟩,q⟩
  ·rw[if_neg c1]at q ⊢
   by_cases c2:(n == 1||a.length == 0)=true
   ·rw[if_pos c2]at q ⊢
    exact⟨.str _,H,I,⟨_,rfl⟩,q⟩
   ·rw[if_neg c2]at q ⊢
    refine⟨?_,.str _,H,I.tok _,⟨_,rfl⟩,q⟩
    have hfold:∀ (k:Nat) (acc:Array Nat),((List.replicate k a.cps).foldl (·++·) acc).size=acc.size+k*a.cps.size:=by
     intro k
     induction k with
     | zero=>intro acc;simp
     | succ k ih=>intro acc;rw[List.replicate_succ,List.foldl_cons,ih,Array.size_append,Nat.succ_mul];omega
    show ((List.replicate n.toNat a.cps).foldl (·++·) #[]).size≤sizeLine
    rw[hfold]
    have e2:a.cps.size=a.length:=rfl
    have:n.toNat*a.cps.size≤1000000:=by rw[e2,Nat.mul_comm];exact h2'
    have hl:sizeLine=16777216:=sizeLine_eq
    simp only[List.size_toArray,List.length_nil]
    omega
def rSlS:V→Option Int→Option Int→Hp→VK→Prop:=fun x lo hi H Q=>∃z,x=.str z∧z.length≤sizeLine∧Q (.str (Txt.slice z lo hi)) H
end
inductive Src where
 | l (a:Addr)|t (a:Addr)|s (z:Str)
def Src.val:Src→V
 | .l a=>.ref a
 | .t a=>.ref a
 | .s z=>.str z
def Zme(c:Nat):V:=.str ⟨#[c]⟩
def Src.its(K:PySem.W.Frag)(H:Hp):Src→List V→Prop
 | .l a,xs=>SqL K H a xs
 | .t a,xs=>SqT K H a xs
 | .s z,xs=>xs=z.cps.toList.map Zme
def Src.at(h:Heap)(i:Addr):Src→Nat→Prop
 | .l a,k=>h.IsListIter i a k
 | .t a,k=>h.IsTupleIter i a k
 | .s z,k=>∃tk,h.IsStrIter i (strIterType z) z tk k
def Src.raw(h:Heap):Src→List Value→Prop
 | .l a,us=>h.IsList a us.toArray
 | .t a,us=>h.IsTuple a us.toArray
 | .s _,_=>True
def Src.fit:Src→List Value→Nat→Value→Prop
 | .l _,us,k,u=>us[k]? = some u
 | .t _,us,k,u=>us[k]? = some u
 | .s z,_,k,u=>∃c tk,z.cps[k]? = some c∧u=.str ⟨#[c]⟩ tk
def Src.many:Src→List Value→Nat
 | .l _,us=>us.length
 | .t _,us=>us.length
 | .s z,_=>z.cps.size
def Src.off:Src→Addr→Prop
 | .l a,b=>a≠b
 | .t a,b=>a≠b
 | .s _,_=>True
theorem Src.at_obj{h:Heap}{i:Addr}:∀ {S:Src} {k:Nat},S.at h i k→∃o vs,h.get? i=some o∧o.data=.fields vs
 | .l _,_,⟨o,e,_,d⟩=>⟨o,_,e,d⟩
 | .t _,_,⟨o,e,_,d⟩=>⟨o,_,e,d⟩
 | .s _,_,⟨_,o,e,_,d⟩=>⟨o,_,e,d⟩
theorem Src.at_keep{h h':Heap}{i:Addr}(k':∀o,h.get? i=some o→h'.get? i=some o):∀ {S:Src} {k:Nat},S.at h i k→S.at h' i k
 | .l _,_,⟨o,e,d⟩=>⟨o,k' o e,d⟩
 | .t _,_,⟨o,e,d⟩=>⟨o,k' o e,d⟩
 | .s _,_,⟨tk,o,e,d⟩=>⟨tk,o,k' o e,d⟩
theorem Src.raw_keep{h h':Heap}{b:Addr}(k':∀c o,c≠b→h.get? c=some o→h'.get? c=some o):∀ {S:Src} {us:List Value},S.off b→S.raw h us→S.raw h' us
 | .l _,_,f,⟨o,e,d⟩=>⟨o,k' _ o f e,d⟩
 | .t _,_,f,⟨o,e,d⟩=>⟨o,k' _ o f e,d⟩
 | .s _,_,_,_=>trivial
section
variable {prog:Program} {w:World} {A:Around} {E:Value→Shared→Prop} {s:Shared}
theorem Zgi{it t:Addr}{i:Nat}{items:Array Value}{x:Value}{Q:Value→Shared→Prop}(hit:s.heap.IsTupleIter it t i)(ht:s.heap.IsTuple t items)(hx:items[i]? = some x)
  (hQ:∀h',h'.IsTupleIter it t (i+1)→Heap.SameBut it s.heap h'→Q x { s with heap:=h' }):wpAny (model prog w) A (Builtin.SmallTypes.nextOf (.ref it)) Q E s:=by
 obtain⟨o,ho,hc,hd⟩:=id hit
 obtain⟨ol,hol,_,nl,hdl⟩:=ht
 unfold Builtin.SmallTypes.nextOf
 refine wpAny_bind (wpAny_callSpecial?_slot (name:=Str.ofString "__next__") hit.typeIs F.slot_tuple_iterator_next
  (wpAny_call_entry F.slot_tuple_iterator_next hit.typeIs F.entry_tuple_iterator_next ?_ (F.args_tuple_iterator_next_1 _)))
 show wpAny _ _ (field (.ref it) 0 >>= _) _ _ s
 refine wpAny_bind (wpAny_field ho hd (x:=.ref t) rfl ?_)
 show wpAny _ _ (if (Value.ref t == Value.none)=true then _ else _) _ _ s
 rw[if_neg (show ¬ ((Value.ref t == Value.none)=true) from Qn)]
 show wpAny _ _ (field (.ref it) 1 >>= _) _ _ s
 refine wpAny_bind (wpAny_field ho hd (x:=.int i 0) rfl ?_)
 show wpAny _ _ (seqItems? (.ref t) >>= _) _ _ s
 refine wpAny_bind (wpAny_seqItems hol hdl ?_)
 simp only[Int.toNat_natCast,hx]
 refine wpAny_bind (wpAny_setField ho hd (by simp) (wpAny_pure ⟨x,rfl,wpAny_pure (hQ _ ?_ (Heap.SameBut.update ..))⟩))
 exact⟨_,Heap.get?_update_self _ ho (Obj.isFreed_of_fields (Obj.data_mapFields hd _)),(Obj.cls_mapFields ..).trans hc,by
  rw[Obj.data_mapFields hd];simp[rawInt]⟩
theorem Zcu{i:Addr}{k:Nat}{us:List Value}{Q:Value→Shared→Prop}:∀ {S:Src},S.at s.heap i k→S.raw s.heap us→k<S.many us →
  (∀h' tk u,S.fit us k u→S.at h' i (k+1)→Heap.SameBut i s.heap h'→Q u { s with heap:=h',toks:=tk })→wpAny (model prog w) A (Builtin.SmallTypes.nextOf (.ref i)) Q E s
 | .l a,h1,h2,h3,hQ=>wpAny_nextOf_list_item h1 h2 (x:=us[k]'h3) (by rw[Qah];exact Qa h3) fun h' q1 q2=>hQ h' s.toks _ (Qa h3) q1 q2
 | .t a,h1,h2,h3,hQ=>Zgi h1 h2 (x:=us[k]'h3) (by rw[Qah];exact Qa h3) fun h' q1 q2=>hQ h' s.toks _ (Qa h3) q1 q2
 | .s z,⟨tk,h1⟩,h2,h3,hQ=>by
  have hx:z.cps[k]? = some z.cps[k]:=Array.getElem?_eq_getElem h3
  by_cases ha:z.cps.all (·<128)=true
  ·have e:strIterType z = "str_ascii_iterator":=by unfold strIterType;rw[if_pos ha]
   rw[e]at h1
   exact wpAny_nextOf_ascii_item h1 hx fun h' q1 q2=>hQ h' _ _ ⟨_,_,hx,rfl⟩ ⟨tk,by rw[e];exact q1⟩ q2
  ·have e:strIterType z = "str_iterator":=by unfold strIterType;rw[if_neg ha]
   rw[e]at h1
   exact wpAny_nextOf_wide_item h1 hx fun h' q1 q2=>hQ h' _ _ ⟨_,_,hx,rfl⟩ ⟨tk,by rw[e];exact q1⟩ q2
theorem ZdZ{it t:Addr}{i:Nat}{items:Array Value}{Q:Value→Shared→Prop}(hh:A.handled=none)(hit:s.heap.IsTupleIter it t i)(ht:s.heap.IsTuple t items)(hx:items[i]? = none)
  (hE:∀h' e,Heap.ExtBut it s.heap h'→(∃o,h'.get? e=some o∧o.cls=.type "StopIteration")→E (.ref e) { s with heap:=h' }):wpAny (model prog w) A (Builtin.SmallTypes.nextOf (.ref it)) Q E s:=by
 obtain⟨o,ho,hc,hd⟩:=id hit
 obtain⟨ol,hol,_,nl,hdl⟩:=ht
 unfold Builtin.SmallTypes.nextOf
 refine wpAny_bind (wpAny_callSpecial?_slot (name:=Str.ofString "__next__") hit.typeIs F.slot_tuple_iterator_next
  (wpAny_call_entry F.slot_tuple_iterator_next hit.typeIs F.entry_tuple_iterator_next ?_ (F.args_tuple_iterator_next_1 _)))
 show wpAny _ _ (field (.ref it) 0 >>= _) _ _ s
 refine wpAny_bind (wpAny_field ho hd (x:=.ref t) rfl ?_)
 show wpAny _ _ (if (Value.ref t == Value.none)=true then _ else _) _ _ s
 rw[if_neg (show ¬ ((Value.ref t == Value.none)=true) from Qn)]
 show wpAny _ _ (field (.ref it) 1 >>= _) _ _ s
 refine wpAny_bind (wpAny_field ho hd (x:=.int i 0) rfl ?_)
 show wpAny _ _ (seqItems? (.ref t) >>= _) _ _ s
 refine wpAny_bind (wpAny_seqItems hol hdl ?_)
 simp only[Int.toNat_natCast,hx]
 refine wpAny_bind (wpAny_rule (wpAny_bind (wpAny_setField ho hd (by simp) ?_)))
 show wpAny _ _ (newExc (.type "StopIteration") [] >>= _) _ _ _
 refine wpAny_bind ?_
 simp only[newExc,newTuple]
 refine wpAny_bind (wpAny_newObj_type ?_ (by size_fits))
 refine wpAny_bind (m:=firstArgMember _ _) (wpAny_of_eq (a:=Value.none) (by first|rfl|(simp only[firstArgMember];rfl)) ?_)
 refine wpAny_newObj_type ?_ (by size_fits)
 simp only[raiseNew]
 refine wpAny_bind (wpAny_handled ?_)
 first|rw[show A.in1.handled=none from hh]|rw[hh]
 refine wpAny_bind (wpAny_pure (wpAny_throw ?_))
 exact hE _ _ (((Heap.SameBut.update ..).extBut.push _).push _) ⟨_,Qt _ rfl,rfl⟩
theorem ZeX{i:Addr}{k:Nat}{us:List Value}{Q:Value→Shared→Prop}(hh:A.handled=none):∀ {S:Src},S.at s.heap i k→S.raw s.heap us→S.many us≤k →
  (∀h' e,Heap.ExtBut i s.heap h'→(∃o,h'.get? e=some o∧o.cls=.type "StopIteration")→E (.ref e) { s with heap:=h' })→wpAny (model prog w) A (Builtin.SmallTypes.nextOf (.ref i)) Q E s
 | .l a,h1,h2,h3,hE=>wpAny_nextOf_list_end hh h1 h2 (by rw[Qah];exact Qai h3) hE
 | .t a,h1,h2,h3,hE=>ZdZ hh h1 h2 (by rw[Qah];exact Qai h3) hE
 | .s z,⟨tk,h1⟩,h2,h3,hE=>by
  have hx:z.cps[k]? = none:=Array.getElem?_eq_none h3
  by_cases ha:z.cps.all (·<128)=true
  ·have e:strIterType z = "str_ascii_iterator":=by unfold strIterType;rw[if_pos ha]
   rw[e]at h1
   exact wpAny_nextOf_ascii_end hh h1 hx hE
  ·have e:strIterType z = "str_iterator":=by unfold strIterType;rw[if_neg ha]
   rw[e]at h1
   exact wpAny_nextOf_wide_end hh h1 hx hE
structure Zf7 (z TI TO i1 i2:Addr) (S1 S2:Src):Prop where
 TIz:TI≠z
 TOz:TO≠z
 i1z:i1≠z
 i2z:i2≠z
 TITO:TI≠TO
 TIi1:TI≠i1
 TIi2:TI≠i2
 TOi1:TO≠i1
 TOi2:TO≠i2
 i12:i1≠i2
 s1z:S1.off z
 s1TO:S1.off TO
 s1i1:S1.off i1
 s1i2:S1.off i2
 s2z:S2.off z
 s2TO:S2.off TO
 s2i1:S2.off i1
 s2i2:S2.off i2
theorem ZjQ{z TI TO i1 i2:Addr}{S1 S2:Src}{k:Nat}{us1 us2:List Value}{a b:Value}{Q:Option Value→Shared→Prop}(D:Zf7 z TI TO i1 i2 S1 S2)
  (hz:IsZip s.heap z TI TO .none) (hTI:IsPair s.heap TI (.ref i1) (.ref i2)) (hTO:IsPair s.heap TO a b)
  (h1:S1.at s.heap i1 k) (h2:S2.at s.heap i2 k) (r1:S1.raw s.heap us1) (r2:S2.raw s.heap us2) (m1:k<S1.many us1) (m2:k<S2.many us2)
  (hQ:∀h' tk x y,S1.fit us1 k x→S2.fit us2 k y→IsZip h' z TI TO (rawInt s.heap.objs.size)→IsPair h' TO x y→S1.at h' i1 (k+1)→S2.at h' i2 (k+1)→IsPair h' s.heap.objs.size x y→h'.objs.size=s.heap.objs.size+1 →
   (∀c o,c≠z→c≠TO→c≠i1→c≠i2→s.heap.get? c=some o→h'.get? c=some o)→Q (some (.ref s.heap.objs.size)) { s with heap:=h',toks:=tk }) :
  wpAny (model prog w) A (pyNext (.ref z)) Q E s:=by
 have hT:s.TypeIs (.ref z) "zip":=⟨_,hz,rfl⟩
 unfold pyNext
 refine wpAny_bind (wpAny_attempt (wpAny_callSpecial?_slot (name:=Str.ofString "__next__") hT F.slot_zip_next (wpAny_call_entry F.slot_zip_next hT F.entry_zip_next ?_ (F.args_zip_next_1 _))))
 show wpAny _ _ (field (.ref z) 2 >>= _) _ _ _
 refine wpAny_bind (wpAny_field hz rfl (x:=.bool false) rfl ?_)
 show wpAny _ _ (field (.ref z) 3 >>= _) _ _ _
 refine wpAny_bind (wpAny_field hz rfl (x:=.ref TI) rfl (wpAny_bind (wpAny_seqItems hTI rfl ?_)))
 show wpAny _ _ (Builtin.SmallTypes.ownedTupleIsFree (.ref z) >>= _) _ _ _
 unfold Builtin.SmallTypes.ownedTupleIsFree
 refine wpAny_bind (wpAny_bind (wpAny_field hz rfl (x:=.none) rfl (wpAny_pure ?_)))
 simp only[if_true]
 refine wpAny_bind (wpAny_rule (wpAny_bind (wpAny_field hz rfl (x:=.ref TO) rfl (wpAny_bind (wpAny_setField_rec hz (by simp) fun h₁ hz₁ hs₁=>?_)))))
 replace hz₁:IsZip h₁ z TI TO .ellipsis:=hz₁
 refine wpAny_bind ?_
 simp only[List.zipIdx_cons,List.zipIdx_nil,List.forIn_cons,List.forIn_nil]
 refine wpAny_bind (wpAny_bind (wpAny_onRaise ?_))
 show wpAny _ _ (Builtin.SmallTypes.nextOf (.ref i1) >>= _) _ _ _
 refine wpAny_bind (Zcu (S:=S1) (us:=us1) (k:=k) (S1.at_keep (fun o e=>hs₁.extBut _ o D.i1z e) h1) (S1.raw_keep (fun c o n e=>hs₁.extBut c o n e) D.s1z r1) m1 fun h₂ tk₂ x fx h1₂ hs₂=>wpAny_pure ?_)
 have hs₂':Heap.SameBut i1 h₁ h₂:=hs₂
 have hTO₂:IsPair h₂ TO a b:=hs₂'.extBut _ _ D.TOi1 (hs₁.extBut _ _ D.TOz hTO)
 refine wpAny_bind (wpAny_seqItems hTO₂ rfl (wpAny_bind (wpAny_updateSeq_pair hTO₂ fun h₃ hTO₃ hs₃=>wpAny_bind (wpAny_letGo (wpAny_pure ?_)))))
 replace hTO₃:IsPair h₃ TO x b:=hTO₃
 have hs₃':Heap.SameBut TO h₂ h₃:=hs₃
 refine wpAny_bind (wpAny_bind (wpAny_onRaise ?_))
 show wpAny _ _ (Builtin.SmallTypes.nextOf (.ref i2) >>= _) _ _ _
 refine wpAny_bind (Zcu (S:=S2) (us:=us2) (k:=k)
  (S2.at_keep (fun o e=>hs₃'.extBut _ o D.TOi2.symm (hs₂'.extBut _ o D.i12.symm (hs₁.extBut _ o D.i2z e))) h2)
  (S2.raw_keep (fun c o n e=>hs₃'.extBut c o n e) D.s2TO (S2.raw_keep (fun c o n e=>hs₂'.extBut c o n e) D.s2i1 (S2.raw_keep (fun c o n e=>hs₁.extBut c o n e) D.s2z r2))) m2 fun h₄ tk₄ y fy h2₄ hs₄=>wpAny_pure ?_)
 have hs₄':Heap.SameBut i2 h₃ h₄:=hs₄
 have hTO₄:IsPair h₄ TO x b:=hs₄'.extBut _ _ D.TOi2 hTO₃
 refine wpAny_bind (wpAny_seqItems hTO₄ rfl (wpAny_bind (wpAny_updateSeq_pair hTO₄ fun h₅ hTO₅ hs₅=>wpAny_bind (wpAny_letGo (wpAny_pure (wpAny_pure ?_))))))
 replace hTO₅:IsPair h₅ TO x y:=hTO₅
 have hs₅':Heap.SameBut TO h₄ h₅:=hs₅
 refine wpAny_bind (wpAny_seqItems hTO₅ rfl (wpAny_bind (wpAny_newTuple ?_)))
 have hsz:h₅.objs.size=s.heap.objs.size:=by rw[hs₅'.1,hs₄'.1,hs₃'.1,hs₂'.1,hs₁.1]
 have hz₅:IsZip h₅ z TI TO .ellipsis:=hs₅'.extBut _ _ D.TOz.symm (hs₄'.extBut _ _ D.i2z.symm (hs₃'.extBut _ _ D.TOz.symm (hs₂'.extBut _ _ D.i1z.symm hz₁)))
 have hk₅:∀c o,c≠z→c≠TO→c≠i1→c≠i2→s.heap.get? c=some o→h₅.get? c=some o:=fun c o c1 c2 c3 c4 e =>
  hs₅'.extBut _ _ c2 (hs₄'.extBut _ _ c4 (hs₃'.extBut _ _ c2 (hs₂'.extBut _ _ c3 (hs₁.extBut _ _ c1 e))))
 have h1₅:S1.at h₅ i1 (k+1):=S1.at_keep (fun o e=>hs₅'.extBut _ o D.TOi1.symm (hs₄'.extBut _ o D.i12 (hs₃'.extBut _ o D.TOi1.symm e))) h1₂
 have h2₅:S2.at h₅ i2 (k+1):=S2.at_keep (fun o e=>hs₅'.extBut _ o D.TOi2.symm e) h2₄
 have hzlt:z<h₅.objs.size:=Qq hz₅
 show wpAny _ _ (Builtin.SmallTypes.ownedTupleHandOut (.ref z) (.ref h₅.objs.size) >>= _) _ _ _
 refine wpAny_bind ?_
 unfold Builtin.SmallTypes.ownedTupleHandOut
 have hz₆:IsZip (h₅.push { cls:=.type "tuple",data:=.seq #[x,y] }) z TI TO .ellipsis:=Qc _ hz₅
 refine wpAny_bind (wpAny_setField_rec hz₆ (by simp) fun h₇ hz₇ hs₇=>?_)
 replace hz₇:IsZip h₇ z TI TO (rawInt h₅.objs.size):=hz₇
 refine wpAny_setField_rec hz₇ (by simp) fun h₈ hz₈ hs₈=>?_
 replace hz₈:IsZip h₈ z TI TO (rawInt h₅.objs.size):=hz₈
 have up:∀c o,c≠z→h₅.get? c=some o→h₈.get? c=some o:=fun c o c1 e=>hs₈.extBut _ _ c1 (hs₇.extBut _ _ c1 (Qc _ e))
 have hT₈:IsPair h₈ h₅.objs.size x y:=hs₈.extBut _ _ (Q9 hzlt) (hs₇.extBut _ _ (Q9 hzlt) (Qt _ rfl))
 have hz8:h₈.objs.size=h₅.objs.size+1:=by rw[hs₈.1,hs₇.1,Qac]
 rw[hsz]at hz₈ hT₈ hz8
 refine wpAny_pure ⟨_,rfl,wpAny_pure ?_⟩
 show Q (some (.ref h₅.objs.size)) _
 rw[hsz]
 exact hQ h₈ tk₄ x y fx fy hz₈ (up _ _ D.TOz hTO₅) (S1.at_keep (fun o e=>up _ o D.i1z e) h1₅) (S2.at_keep (fun o e=>up _ o D.i2z e) h2₅) hT₈ hz8 fun c o c1 c2 c3 c4 e=>up c o c1 (hk₅ c o c1 c2 c3 c4 e)
theorem ZkI{z TI TO i1 i2:Addr}{S1 S2:Src}{k:Nat}{us1 us2:List Value}{a b:Value}{Q:Option Value→Shared→Prop}(hh:A.handled=none)(D:Zf7 z TI TO i1 i2 S1 S2)
  (hz:IsZip s.heap z TI TO .none) (hTI:IsPair s.heap TI (.ref i1) (.ref i2)) (hTO:IsPair s.heap TO a b)
  (h1:S1.at s.heap i1 k) (h2:S2.at s.heap i2 k) (r1:S1.raw s.heap us1) (r2:S2.raw s.heap us2) (hend:S1.many us1≤k∨S2.many us2≤k)
  (hQ:∀h' tk,(∀c o,c≠z→c≠TO→c≠i1→c≠i2→s.heap.get? c=some o→h'.get? c=some o)→Q none { s with heap:=h',toks:=tk }) :
  wpAny (model prog w) A (pyNext (.ref z)) Q E s:=by
 have hT:s.TypeIs (.ref z) "zip":=⟨_,hz,rfl⟩
 unfold pyNext
 have done:∀ (h':Heap) (tk:Nat) (e:Addr),(∀c o,c≠z→c≠TO→c≠i1→c≠i2→s.heap.get? c=some o→h'.get? c=some o)→(∃o,h'.get? e=some o∧o.cls=.type "StopIteration") →
   wpAny (model prog w) A (do if (← isInstance (.ref e) (.type "StopIteration")) then pure none else throw (.ref e):Sem (Option Value)) Q E { s with heap:=h',toks:=tk }:=fun h' tk e hk ⟨o,ho,hc⟩=>
  wpAny_bind (wpAny_isInstance (T := "StopIteration") (b:=true) ⟨o,ho,hc⟩ isSubtype_stop (wpAny_pure (hQ h' tk hk)))
 refine wpAny_bind (wpAny_attempt (wpAny_callSpecial?_slot (name:=Str.ofString "__next__") hT F.slot_zip_next (wpAny_call_entry F.slot_zip_next hT F.entry_zip_next ?_ (F.args_zip_next_1 _))))
 show wpAny _ _ (field (.ref z) 2 >>= _) _ _ _
 refine wpAny_bind (wpAny_field hz rfl (x:=.bool false) rfl ?_)
 show wpAny _ _ (field (.ref z) 3 >>= _) _ _ _
 refine wpAny_bind (wpAny_field hz rfl (x:=.ref TI) rfl (wpAny_bind (wpAny_seqItems hTI rfl ?_)))
 show wpAny _ _ (Builtin.SmallTypes.ownedTupleIsFree (.ref z) >>= _) _ _ _
 unfold Builtin.SmallTypes.ownedTupleIsFree
 refine wpAny_bind (wpAny_bind (wpAny_field hz rfl (x:=.none) rfl (wpAny_pure ?_)))
 simp only[if_true]
 refine wpAny_bind (wpAny_rule (wpAny_bind (wpAny_field hz rfl (x:=.ref TO) rfl (wpAny_bind (wpAny_setField_rec hz (by simp) fun h₁ hz₁ hs₁=>?_)))))
 replace hz₁:IsZip h₁ z TI TO .ellipsis:=hz₁
 refine wpAny_bind ?_
 simp only[List.zipIdx_cons,List.zipIdx_nil,List.forIn_cons,List.forIn_nil]
 refine wpAny_bind (wpAny_bind (wpAny_onRaise ?_))
 show wpAny _ _ (Builtin.SmallTypes.nextOf (.ref i1) >>= _) _ _ _
 by_cases m1:k<S1.many us1
 ·have m2:S2.many us2≤k:=by rcases hend with z'|z';omega;exact z'
  refine wpAny_bind (Zcu (S:=S1) (us:=us1) (k:=k) (S1.at_keep (fun o e=>hs₁.extBut _ o D.i1z e) h1) (S1.raw_keep (fun c o n e=>hs₁.extBut c o n e) D.s1z r1) m1 fun h₂ tk₂ x fx h1₂ hs₂=>wpAny_pure ?_)
  have hs₂':Heap.SameBut i1 h₁ h₂:=hs₂
  have hTO₂:IsPair h₂ TO a b:=hs₂'.extBut _ _ D.TOi1 (hs₁.extBut _ _ D.TOz hTO)
  refine wpAny_bind (wpAny_seqItems hTO₂ rfl (wpAny_bind (wpAny_updateSeq_pair hTO₂ fun h₃ hTO₃ hs₃=>wpAny_bind (wpAny_letGo (wpAny_pure ?_)))))
  have hs₃':Heap.SameBut TO h₂ h₃:=hs₃
  refine wpAny_bind (wpAny_bind (wpAny_onRaise ?_))
  show wpAny _ _ (Builtin.SmallTypes.nextOf (.ref i2) >>= _) _ _ _
  refine wpAny_bind (ZeX (S:=S2) (us:=us2) (k:=k) hh
   (S2.at_keep (fun o e=>hs₃'.extBut _ o D.TOi2.symm (hs₂'.extBut _ o D.i12.symm (hs₁.extBut _ o D.i2z e))) h2)
   (S2.raw_keep (fun c o n e=>hs₃'.extBut c o n e) D.s2TO (S2.raw_keep (fun c o n e=>hs₂'.extBut c o n e) D.s2i1 (S2.raw_keep (fun c o n e=>hs₁.extBut c o n e) D.s2z r2))) m2 fun h₄ e hs₄ he=>?_)
  obtain⟨oe,hoe,hce⟩:=he
  have hz₄:IsZip h₄ z TI TO .ellipsis:=hs₄ _ _ D.i2z.symm (hs₃'.extBut _ _ D.TOz.symm (hs₂'.extBut _ _ D.i1z.symm hz₁))
  have hez:e≠z:=fun x=>by subst x;rw[hz₄]at hoe;cases hoe;simp at hce
  exact wpAny_setField_rec hz₄ (by simp) fun h₅ _ hs₅=>done h₅ _ e (fun c o c1 c2 c3 c4 x=>hs₅.extBut _ _ c1 (hs₄ _ _ c4 (hs₃'.extBut _ _ c2 (hs₂'.extBut _ _ c3 (hs₁.extBut _ _ c1 x))))) ⟨oe,hs₅.extBut _ _ hez hoe,hce⟩
 ·refine wpAny_bind (ZeX (S:=S1) (us:=us1) (k:=k) hh (S1.at_keep (fun o e=>hs₁.extBut _ o D.i1z e) h1) (S1.raw_keep (fun c o n e=>hs₁.extBut c o n e) D.s1z r1) (by omega) fun h₂ e hs₂ he=>?_)
  obtain⟨oe,hoe,hce⟩:=he
  have hz₂:IsZip h₂ z TI TO .ellipsis:=hs₂ _ _ D.i1z.symm hz₁
  have hez:e≠z:=fun x=>by subst x;rw[hz₂]at hoe;cases hoe;simp at hce
  exact wpAny_setField_rec hz₂ (by simp) fun h₃ _ hs₃=>done h₃ _ e (fun c o c1 _ c3 _ x=>hs₃.extBut _ _ c1 (hs₂ _ _ c3 (hs₁.extBut _ _ c1 x))) ⟨oe,hs₃.extBut _ _ hez hoe,hce⟩
end
def Src.iter(tk:Tok):Src→Obj
 | .l a=>{ cls:=.type "list_iterator",data:=.fields #[.ref a,.int 0 0] }
 | .t a=>{ cls:=.type "tuple_iterator",data:=.fields #[.ref a,.int 0 0] }
 | .s z=>{ cls:=.type (strIterType z),data:=.fields #[.str z tk,.int 0 0] }
def Src.value(tk:Tok):Src→Value
 | .l a=>.ref a
 | .t a=>.ref a
 | .s z=>.str z tk
theorem Src.iter_at{h:Heap}{i:Addr}{tk:Tok}:∀ {S:Src},h.get? i=some (S.iter tk)→S.at h i 0
 | .l _,e=>⟨_,e,rfl,rfl⟩
 | .t _,e=>⟨_,e,rfl,rfl⟩
 | .s _,e=>⟨tk,_,e,rfl,rfl⟩
theorem Src.pyIter{prog:Program}{w:World}{A:Around}{E:Value→Shared→Prop}{s:Shared}{tk:Tok}{us:List Value}{Q:Value→Shared→Prop}:∀ {S:Src},S.raw s.heap us →
  Q (.ref s.heap.objs.size) { s with heap:=s.heap.push (S.iter tk) }→wpAny (model prog w) A (pyIter (S.value tk)) Q E s
 | .l _,r,q=>wpAny_pyIter_list r q
 | .t _,r,q=>wpAny_pyIter_tuple r q
 | .s _,_,q=>wpAny_pyIter_strU q
theorem Src.raw_push{h:Heap}{ob:Obj}:∀ {S:Src} {us:List Value},S.raw h us→S.raw (h.push ob) us
 | .l _,_,⟨o,e,d⟩=>⟨o,Qc _ e,d⟩
 | .t _,_,⟨o,e,d⟩=>⟨o,Qc _ e,d⟩
 | .s _,_,_=>trivial
abbrev zH1(h:Heap)(S1:Src)(t1:Tok):Heap:=h.push (S1.iter t1)
abbrev zH2(h:Heap)(S1 S2:Src)(t1 t2:Tok):Heap:=(zH1 h S1 t1).push (S2.iter t2)
abbrev zH3(h:Heap)(S1 S2:Src)(t1 t2:Tok):Heap:=(zH2 h S1 S2 t1 t2).push { cls:=.type "tuple",data:=.seq #[.ref h.objs.size,.ref (zH1 h S1 t1).objs.size] }
abbrev zH4(h:Heap)(S1 S2:Src)(t1 t2:Tok):Heap:=(zH3 h S1 S2 t1 t2).push { cls:=.type "tuple",data:=.seq #[.none,.none] }
abbrev zH5(h:Heap)(S1 S2:Src)(t1 t2:Tok):Heap:=(zH4 h S1 S2 t1 t2).push { cls:=.type "zip",data:=.fields #[.none,.bool false,.bool false,.ref (zH2 h S1 S2 t1 t2).objs.size,.ref (zH3 h S1 S2 t1 t2).objs.size] }
theorem Zl0(S1 S2:Src)(t1 t2:Tok)(us1 us2:List Value) :
  Meets (Builtin.«zip.__new__» ⟨[.type "zip",S1.value t1,S2.value t2],[]⟩) (fun _ R s=>S1.raw s.heap us1∧S2.raw s.heap us2 ∧
   R (.ok (.ret (.ref (zH4 s.heap S1 S2 t1 t2).objs.size))) { s with heap:=zH5 s.heap S1 S2 t1 t2 }) :=
 .of_wp fun prog w A R s h=>by
  obtain⟨hp,g,d,tk,os⟩:=s;obtain⟨r1,r2,h⟩:=h
  have hsub:=sub_zip
  have q1:∀ {A:Around} {E:Value→Shared→Prop} {Q:Value→Shared→Prop},Q (.ref hp.objs.size) ⟨zH1 hp S1 t1,g,d,tk,os⟩→wpAny (model prog w) A (pyIter (S1.value t1)) Q E ⟨hp,g,d,tk,os⟩:=
   fun {A E Q} q=>Src.pyIter (s:=⟨hp,g,d,tk,os⟩) (us:=us1) r1 q
  have q2:∀ {A:Around} {E:Value→Shared→Prop} {Q:Value→Shared→Prop},Q (.ref (zH1 hp S1 t1).objs.size) ⟨zH2 hp S1 S2 t1 t2,g,d,tk,os⟩→wpAny (model prog w) A (pyIter (S2.value t2)) Q E ⟨zH1 hp S1 t1,g,d,tk,os⟩:=
   fun {A E Q} q=>Src.pyIter (s:=⟨zH1 hp S1 t1,g,d,tk,os⟩) (us:=us2) (S2.raw_push r2) q
  generalize S1.value t1=v1 at q1 ⊢
  generalize S2.value t2=v2 at q2 ⊢
  wp_walk using q1,q2
  exact⟨_,rfl,h⟩
section
variable {prog:Program} {w:World} {A:Around} {E:Value→Shared→Prop} {s:Shared}
theorem Zke{S1 S2:Src}{t1 t2:Tok}{us1 us2:List Value}{Q:Value→Shared→Prop}(r1:S1.raw s.heap us1)(r2:S2.raw s.heap us2)
  (h:∀h',IsZip h' (s.heap.objs.size+4) (s.heap.objs.size+2) (s.heap.objs.size+3) .none→IsPair h' (s.heap.objs.size+2) (.ref s.heap.objs.size) (.ref (s.heap.objs.size+1)) →
   IsPair h' (s.heap.objs.size+3) .none .none→S1.at h' s.heap.objs.size 0→S2.at h' (s.heap.objs.size+1) 0→h'.objs.size=s.heap.objs.size+5 →
   (∀c o,s.heap.get? c=some o→h'.get? c=some o)→Q (.ref (s.heap.objs.size+4)) { s with heap:=h' }) :
  wpAny (model prog w) A (call (.type "zip") [S1.value t1,S2.value t2]) Q E s:=by
 refine callType_new F.called_zip (by decide) (F.typeCall_zip_2 _ _) (F.newCall_zip_2 _ _) (fun obj=>F.args_object_init_3 obj _ _) F.entry_zip_new (Zl0 S1 S2 t1 t2 us1 us2) ⟨r1,r2,?_⟩
 have z1:(zH1 s.heap S1 t1).objs.size=s.heap.objs.size+1:=Qac ..
 have z2:(zH2 s.heap S1 S2 t1 t2).objs.size=s.heap.objs.size+2:=by rw[Qac,z1]
 have z3:(zH3 s.heap S1 S2 t1 t2).objs.size=s.heap.objs.size+3:=by rw[Qac,z2]
 have z4:(zH4 s.heap S1 S2 t1 t2).objs.size=s.heap.objs.size+4:=by rw[Qac,z3]
 have z5:(zH5 s.heap S1 S2 t1 t2).objs.size=s.heap.objs.size+5:=by rw[Qac,z4]
 have fr:∀ (tk:Tok) (S:Src),(S.iter tk).isFreed=false:=fun tk S=>by cases S<;>rfl
 have g5:(zH5 s.heap S1 S2 t1 t2).get? (zH4 s.heap S1 S2 t1 t2).objs.size=some _:=Qt _ rfl
 have g4:(zH5 s.heap S1 S2 t1 t2).get? (zH3 s.heap S1 S2 t1 t2).objs.size=some _:=Qc _ (Qt _ rfl)
 have g3:(zH5 s.heap S1 S2 t1 t2).get? (zH2 s.heap S1 S2 t1 t2).objs.size=some _:=Qc _ (Qc _ (Qt _ rfl))
 have g2:(zH5 s.heap S1 S2 t1 t2).get? (zH1 s.heap S1 t1).objs.size=some (S2.iter t2):=Qc _ (Qc _ (Qc _ (Qt _ (fr _ _))))
 have g1:(zH5 s.heap S1 S2 t1 t2).get? s.heap.objs.size=some (S1.iter t1):=Qc _ (Qc _ (Qc _ (Qc _ (Qt _ (fr _ _)))))
 show _∧_
 rw[z2,z3,z4]at g5
 rw[z1,z2]at g3
 rw[z3]at g4
 rw[z1]at g2
 rw[z4]
 exact⟨⟨_,g5,rfl⟩,h _ g5 g3 g4 (Src.iter_at g1) (Src.iter_at g2) z5 fun c o x =>
  Qc _ (Qc _ (Qc _ (Qc _ (Qc _ x))))⟩
end
def Itz(K:PySem.W.Frag)(S1 S2:Src):It :=
 ⟨fun i H=>∃xs ys,S1.its K H xs∧S2.its K H ys∧i<xs.length∧i<ys.length,
  fun i H v H'=>∃p,H p=none∧v=.ref p∧∀xs ys,S1.its K H xs→S2.its K H ys→∀x y,xs[i]? = some x→ys[i]? = some y→H'=upd H p (.tup [x,y]),
  fun i H=>∃xs ys,S1.its K H xs∧S2.its K H ys∧(xs.length≤i∨ys.length≤i)⟩
section
variable {X:Cx} {pins:List (Addr×Obj)} {σ:St} {H:Hp} {s:Shared}
theorem Inv.src(I:Inv X pins σ H s):∀ {S:Src} {xs:List V},S.its X.K H xs→∃us,S.raw s.heap us∧S.many us=xs.length∧∀k u x,S.fit us k u→xs[k]? = some x→Zw x u
 | .l a,xs,h=>by
  obtain⟨its,rv,pl,_⟩:=I.list h
  refine⟨its,pl.isList,rv.length.symm,fun k u x e1 e2=>?_⟩
  obtain⟨u',e3,r⟩:=rv.get e2
  rw[show its[k]? = some u from e1]at e3;cases e3
  exact r
 | .t a,xs,h=>by
  obtain⟨its,rv,pl,_⟩:=I.tuple h
  refine⟨its,pl,rv.length.symm,fun k u x e1 e2=>?_⟩
  obtain⟨u',e3,r⟩:=rv.get e2
  rw[show its[k]? = some u from e1]at e3;cases e3
  exact r
 | .s z,xs,h=>by
  refine⟨[],trivial,?_,fun k u x e1 e2=>?_⟩
  ·rw[show xs=_ from h,Qb];simp[Src.many]
  ·obtain⟨c,tk,e3,e4⟩:=e1
   subst e4
   rw[show xs=_ from h,Qu]at e2
   have e5:z.cps.toList[k]? = some c:=by simpa using e3
   rw[e5]at e2
   cases e2
   exact⟨tk,rfl⟩
theorem Inv.src_off(I:Inv X pins σ H s){b:Addr}(hb:Zej X pins H b):∀ {S:Src} {xs:List V},S.its X.K H xs→S.off b
 | .l a,xs,h=>by
  rcases h with(h|⟨ob,h⟩)|⟨o,its,n,hk,_⟩
  ·exact Zb h hb.1
  ·exact Zb h hb.1
  ·rintro rfl
   have e:=I.ok.mod.kin a o hk
   rcases hb.2.2.2.1 with z|z
   ·exact I.ok.noex a o e z
   ·exact absurd (Qw (Qq e) (QP I.ok.bsz z)) (Qab _)
 | .t a,xs,h=>by
  rcases h with(h|⟨ob,h⟩)|⟨o,its,n,hk,_⟩
  ·exact Zb h hb.1
  ·exact Zb h hb.1
  ·rintro rfl
   have e:=I.ok.mod.kin a o hk
   rcases hb.2.2.2.1 with z|z
   ·exact I.ok.noex a o e z
   ·exact absurd (Qw (Qq e) (QP I.ok.bsz z)) (Qab _)
 | .s z,xs,h=>trivial
theorem Inv.zipped{fp:List Addr}{h':Heap}{tk:Nat}{x y:V}{u v:Value}(I:Inv X pins σ H s)(hf:∀b∈fp,Zej X pins H b)(rx:Zw x u)(ry:Zw y v)
  (hp:IsPair h' s.heap.objs.size u v) (hfh:∀b∈fp,∃o,h'.get? b=some o) (hk:∀c o,c ∉ fp→s.heap.get? c=some o→h'.get? c=some o) :
  Inv X pins σ (upd H s.heap.objs.size (.tup [x,y])) { s with heap:=h',toks:=tk }:=by
 have hn:H s.heap.objs.size=none:=I.fresh
 have ne:∀b ob,s.heap.get? b=some ob→b≠s.heap.objs.size:=fun b ob e=>QE (Qq e)
 have nt:∀b u,H b=some u→b≠s.heap.objs.size:=fun b u e=>Zb e hn
 have nfp:∀b u,H b=some u→b ∉ fp:=fun b u e hb=>by rw[(hf b hb).1]at e;cases e
 refine I.step (g':=s.gens) (d':=s.drawn) (ch:=fp) (fun b hb=>⟨(hf b hb).2.2.2.1,(hf b hb).2.1,(hf b hb).2.2.2.2.1,(hf b hb).2.2.2.2.2⟩)
  (fun b ob _ _ hc e _=>hk b ob hc e) (fun b ob _ _ hc e _=>⟨ob.slots,hk b ob hc e⟩) (fun b ob _ e n=>by rw[Zc (ne b ob e)];exact n) (fun b ob hc e=>⟨ob,hk b ob hc e⟩)
  (fun b xs e=>by rw[Zc (nt b _ e)];exact e) (fun b ob u e=>by rw[Zc (nt b _ e)];exact e) (fun b ps e=>⟨#[],by rw[Zc (nt b _ e),e];simp⟩) (fun m hm=>?_) (fun b ub e=>?_) I.bare
 ·obtain⟨ob,es,ep,ho,r⟩:=hm
  exact⟨ob,es,ep,hk _ ob (fun z=>(hf _ z).2.1 rfl) ho,r⟩
 ·by_cases hb:b=s.heap.objs.size
  ·subst hb
   rw[Zd]at e;cases e
   exact⟨by show 2≤sizeLine;decide,[u,v],.cons rx (.cons ry .nil),⟨_,hp,rfl,_,rfl⟩⟩
  ·rw[Zc hb]at e
   refine(I.hok b ub e).stay (fun c w' hc q=>hk c w' ?_ q) (fun c q=>by rw[Zc (nt c _ q)];exact q) fun c xs q=>by rw[Zc (nt c _ q)];exact q
   rcases hc with z|z
   ·rw[z];exact nfp b ub e
   ·exact nfp c _ z
end
theorem Zk4{P:Program}{w:World}{K:PySem.W.Frag}{elts:List Expr}{x1:Nat}{tpos:Pos}{S1 S2:Src}{z TI TO i1 i2:Addr}
  (d1:TI≠z) (d2:TO≠z) (d3:i1≠z) (d4:i2≠z) (d5:TI≠TO) (d6:TI≠i1) (d7:TI≠i2) (d8:TO≠i1) (d9:TO≠i2) (d10:i1≠i2) :
  Zji P w K (.Tuple elts x1 tpos) (Itz K S1 S2) [z,TI,TO,i1,i2] z
   (fun i h=>IsZip h z TI TO .none∧IsPair h TI (.ref i1) (.ref i2)∧(∃a b,IsPair h TO a b)∧S1.at h i1 i∧S2.at h i2 i) where
 mem:=by simp
 obj:=fun i h st b hb=>by
  obtain⟨hz,hTI,⟨a,b',hTO⟩,h1,h2⟩:=st
  have nf:∀ {o:Obj} {vs:Array Value},o.data=.fields vs→∀v,o.data≠.cell v:=fun d v e=>by rw[d]at e;cases e
  simp only[List.mem_cons,List.not_mem_nil,or_false]at hb
  rcases hb with rfl|rfl|rfl|rfl|rfl
  ·exact⟨_,hz,nf rfl⟩
  ·exact⟨_,hTI,fun v e=>by cases e⟩
  ·exact⟨_,hTO,fun v e=>by cases e⟩
  ·obtain⟨o,vs,e,d⟩:=Src.at_obj h1;exact⟨o,e,nf d⟩
  ·obtain⟨o,vs,e,d⟩:=Src.at_obj h2;exact⟨o,e,nf d⟩
 keep:=fun i h h' st k=>by
  obtain⟨hz,hTI,⟨a,b',hTO⟩,h1,h2⟩:=st
  exact⟨k z (by simp) _ hz,k TI (by simp) _ hTI,⟨a,b',k TO (by simp) _ hTO⟩,Src.at_keep (fun o e=>k i1 (by simp) o e) h1,Src.at_keep (fun o e=>k i2 (by simp) o e) h2⟩
 item:=by
  intro X hP hw hK hc i pins s σ H E I hf st hg
  subst hP hw hK
  obtain⟨hz,hTI,⟨a,b',hTO⟩,h1,h2⟩:=st
  obtain⟨xs,ys,q1,q2,l1,l2⟩:=hg
  obtain⟨us1,r1,m1,f1⟩:=I.src q1
  obtain⟨us2,r2,m2,f2⟩:=I.src q2
  have hfz:=hf z (by simp)
  have D:Zf7 z TI TO i1 i2 S1 S2:=⟨d1,d2,d3,d4,d5,d6,d7,d8,d9,d10,I.src_off hfz q1,I.src_off (hf TO (by simp)) q1,I.src_off (hf i1 (by simp)) q1,I.src_off (hf i2 (by simp)) q1,
   I.src_off hfz q2,I.src_off (hf TO (by simp)) q2,I.src_off (hf i1 (by simp)) q2,I.src_off (hf i2 (by simp)) q2⟩
  refine ZjQ D hz hTI hTO h1 h2 r1 r2 (by omega) (by omega) fun h' tk x y fx fy a1 a2 a3 a4 a5 a6 a7=>?_
  have rx:=f1 i x _ fx (Qa l1)
  have ry:=f2 i y _ fy (Qa l2)
  refine⟨_,rfl,wpAny_letOwnedTupleGo_zip a1 fun h'' hz'' hs''=>?_⟩
  have hs':Heap.SameBut z h' h'':=hs''
  have hTI':IsPair h' TI (.ref i1) (.ref i2):=a7 _ _ d1 d5 d6 d7 hTI
  have lt:∀ {b:Addr} {o:Obj},s.heap.get? b=some o→s.heap.objs.size≠b:=fun e=>Q9 (Qq e)
  have hzs:s.heap.objs.size≠z:=lt hz
  have I2:Inv X pins σ (upd H s.heap.objs.size (.tup [xs[i],ys[i]])) { s with heap:=h'',toks:=tk }:=by
   refine I.zipped (fp:=[z,TI,TO,i1,i2]) hf rx ry (hs'.extBut _ _ hzs a5) (fun b hb=>?_) fun c o hc e=>?_
   ·simp only[List.mem_cons,List.not_mem_nil,or_false]at hb
    rcases hb with rfl|rfl|rfl|rfl|rfl
    ·exact⟨_,hz''⟩
    ·exact⟨_,hs'.extBut _ _ d1 hTI'⟩
    ·exact⟨_,hs'.extBut _ _ d2 a2⟩
    ·obtain⟨o,vs,e,_⟩:=Src.at_obj a3;exact⟨o,hs'.extBut _ _ d3 e⟩
    ·obtain⟨o,vs,e,_⟩:=Src.at_obj a4;exact⟨o,hs'.extBut _ _ d4 e⟩
   ·simp only[List.mem_cons,List.not_mem_nil,or_false,not_or]at hc
    exact hs'.extBut _ _ hc.1 (a7 c o hc.1 hc.2.2.1 hc.2.2.2.1 hc.2.2.2.2 e)
  refine⟨.ref s.heap.objs.size,_,I2,rfl,⟨s.heap.objs.size,I.fresh,rfl,fun xs' ys' w1 w2 x' y' e1 e2=>?_⟩,⟨hz'',hs'.extBut _ _ d1 hTI',⟨_,_,hs'.extBut _ _ d2 a2⟩,Src.at_keep (fun o e=>hs'.extBut _ o d3 e) a3,Src.at_keep (fun o e=>hs'.extBut _ o d4 e) a4⟩,fun b hb=>?_⟩
  ·have same:∀ {S:Src} {us vs:List V},S.its X.K H us→S.its X.K H vs→us=vs:=fun {S us vs} p q=>by
    cases S with
    | l a=>exact I.list_inj p q
    | t a=>exact I.tuple_inj p q
    | s z=>rw[show us=_ from p,show vs=_ from q]
   have e3:=same w1 q1
   have e4:=same w2 q2
   subst e3;subst e4
   rw[Qa l1]at e1
   rw[Qa l2]at e2
   cases e1;cases e2
   rfl
  ·rw[Zc (fun e=>by
    obtain⟨o,e1,_⟩:∃o,s.heap.get? b=some o∧True:=by
     simp only[List.mem_cons,List.not_mem_nil,or_false]at hb
     rcases hb with rfl|rfl|rfl|rfl|rfl
     ·exact⟨_,hz,trivial⟩
     ·exact⟨_,hTI,trivial⟩
     ·exact⟨_,hTO,trivial⟩
     ·obtain⟨o,vs,e,_⟩:=Src.at_obj h1;exact⟨o,e,trivial⟩
     ·obtain⟨o,vs,e,_⟩:=Src.at_obj h2;exact⟨o,e,trivial⟩
    exact lt e1 e.symm)]
   exact(hf b hb).1
 done:=by
  intro X hP hw hK hc i pins s σ H E I hf st hg
  subst hP hw hK
  obtain⟨hz,hTI,⟨a,b',hTO⟩,h1,h2⟩:=st
  obtain⟨xs,ys,q1,q2,l⟩:=hg
  obtain⟨us1,r1,m1,f1⟩:=I.src q1
  obtain⟨us2,r2,m2,f2⟩:=I.src q2
  have hfz:=hf z (by simp)
  have D:Zf7 z TI TO i1 i2 S1 S2:=⟨d1,d2,d3,d4,d5,d6,d7,d8,d9,d10,I.src_off hfz q1,I.src_off (hf TO (by simp)) q1,I.src_off (hf i1 (by simp)) q1,I.src_off (hf i2 (by simp)) q1,
   I.src_off hfz q2,I.src_off (hf TO (by simp)) q2,I.src_off (hf i1 (by simp)) q2,I.src_off (hf i2 (by simp)) q2⟩
  refine ZkI (I.ok.hd hc) D hz hTI hTO h1 h2 r1 r2 (by omega) fun h' tk hk=>⟨rfl,?_⟩
  have kf:∀c o,c ∉ [z,TI,TO,i1,i2]→s.heap.get? c=some o→h'.get? c=some o:=fun c o hc e=>by
   simp only[List.mem_cons,List.not_mem_nil,or_false,not_or]at hc
   exact hk c o hc.1 hc.2.2.1 hc.2.2.2.1 hc.2.2.2.2 e
  have nfp:∀b u,H b=some u→b ∉ [z,TI,TO,i1,i2]:=fun b u e hb=>by rw[(hf b hb).1]at e;cases e
  refine I.step (g':=s.gens) (d':=s.drawn) (ch:=[z,TI,TO,i1,i2]) (fun b hb=>⟨(hf b hb).2.2.2.1,(hf b hb).2.1,(hf b hb).2.2.2.2.1,(hf b hb).2.2.2.2.2⟩)
   (fun b ob _ _ hc e _=>kf b ob hc e) (fun b ob _ _ hc e _=>⟨ob.slots,kf b ob hc e⟩) (fun b ob _ e n=>n) (fun b ob hc e=>⟨ob,kf b ob hc e⟩)
   (fun b xs e=>e) (fun b ob u e=>e) (fun b ps e=>⟨#[],by rw[e];simp⟩) (fun m hm=>?_) (fun b ub e=>?_) I.bare
  ·obtain⟨ob,es,ep,ho,r⟩:=hm
   exact⟨ob,es,ep,kf _ ob (fun z=>(hf _ z).2.1 rfl) ho,r⟩
  ·refine(I.hok b ub e).stay (fun c w' hc q=>kf c w' ?_ q) (fun c q=>q) fun c xs q=>q
   rcases hc with z'|z'
   ·rw[z'];exact nfp b ub e
   ·exact nfp c _ z'
 self:=fun _ _ _ _ _ st h=>wpAny_pyIter_zip st.1 h
def Zn7(K:PySem.W.Frag)(ta:TA):TI:=fun σ H R=>ta σ H fun vs H1=>∃S1 S2 xs ys,vs=[Src.val S1,Src.val S2]∧S1.its K H1 xs∧S2.its K H1 ys∧R (Itz K S1 S2) H1
theorem Zno{X:Cx}{a b:Expr}{ta:TA}{p pos:Pos}{elts:List Expr}{x1:Nat}{tpos:Pos}(hg:Gl X "zip")(hm:X.mg "zip" = none)(ha:PA X [a,b] ta)
  (hs:starEach [a,b] X.env=[(false,eval a X.env),(false,eval b X.env)]:=by rfl) (hs2:starEach [b] X.env=[(false,eval b X.env)]:=by rfl) :
  PI X (.Tuple elts x1 tpos) (.Call (.Name "zip" p) [a,b] [] pos) (Zn7 X.K ta):=by
 intro pins s σ H R I h
 refine Call_ (Zc8 I hg hm boot_zip (Q8 (thn (ha pos pins s σ H _ I h) ?_) (by rw[hs,hs2]) (by rw[hs2];rfl)))
 rintro us s1 ⟨vs,H1,I1,r1,q1⟩
 obtain⟨S1,S2,xs,ys,e,y1,y2,q⟩:=q1
 subst e
 obtain⟨u1,u2,rfl,w1,w2⟩:=r1.two
 have vo:∀ {S:Src} {u:Value},Zw S.val u→∃tk,u=S.value tk:=fun {S u} r=>by
  cases S with
  | l a=>exact⟨0,r⟩
  | t a=>exact⟨0,r⟩
  | s z=>obtain⟨tk,e⟩:=r;exact⟨tk,e⟩
 obtain⟨t1,rfl⟩:=vo w1
 obtain⟨t2,rfl⟩:=vo w2
 obtain⟨us1,r1,m1,f1⟩:=I1.src y1
 obtain⟨us2,r2,m2,f2⟩:=I1.src y2
 refine Zke r1 r2 fun h' hz hTI hTO a1 a2 a3 hk=>wpAny_pyIter_zip hz ?_
 have I2:Inv X pins σ H1 { s1 with heap:=h' }:=I1.kept (t':=s1.toks) hk
 have n:=s1.heap.objs.size
 refine⟨_,_,_,_,H1,rfl,I2,Zk4 (S1:=S1) (S2:=S2) (z:=s1.heap.objs.size+4) (TI:=s1.heap.objs.size+2) (TO:=s1.heap.objs.size+3) (i1:=s1.heap.objs.size) (i2:=s1.heap.objs.size+1)
  (QE (Qag (by decide) _)) (QE (Qag (by decide) _)) (QE (Qan (by decide))) (QE (Qag (by decide) _))
  (QE (Qag (by decide) _)) (Q9 (Qan (by decide))) (Q9 (Qag (by decide) _)) (Q9 (Qan (by decide)))
  (Q9 (Qag (by decide) _)) (QE (Qan (by decide))),⟨hz,hTI,⟨_,_,hTO⟩,a1,a2⟩,fun b hb=>?_,q⟩
 have hb':s1.heap.objs.size≤b:=by
  simp only[List.mem_cons,List.not_mem_nil,or_false]at hb
  rcases hb with rfl|rfl|rfl|rfl|rfl
  ·exact QaC _ 4
  ·exact QaC _ 2
  ·exact QaC _ 3
  ·exact Qf _
  ·exact QaC _ 1
 exact I1.fpOk hb' (I1.hok.fresh hb')
section
variable {X:Cx} (K:PySem.W.Frag)
theorem ixL(h:X.K=K:=by rfl):IxR X (ZmN K):=by subst h;exact Zl7
theorem ixT(h:X.K=K:=by rfl):IxR X (ZnB K):=by subst h;exact Znr
theorem slL(h:X.K=K:=by rfl):SlR X (Zn3 K):=by subst h;exact Zma
def Zov:List V→Hp→VK→Prop:=fun xs H Q=>∃p ys,xs=[.ref p]∧(SqL K H p ys∨SqT K H p ys)∧Q (.int ys.length) H
theorem Zc7(h:X.K=K:=by rfl):Zap X (.builtin "len") (Zov K):=by subst h;exact Zf3
theorem Zez(h:X.K=K:=by rfl):Zap X (.builtin "isinstance") (Zn5 K):=by subst h;exact ZkK
theorem Zn9(h:X.K=K:=by rfl):Zap X (.builtin "isinstance") (Zmz K):=by subst h;exact Zjw
def ZnW:List V→Hp→VK→Prop:=fun xs H Q=>∃ (p:Addr) (bs:List Bool),xs=[.ref p]∧SqL K H p (bs.map V.bl)∧Q (.bl (bs.all id)) H
theorem Zo8(hc:X.calm=true:=by rfl)(h:X.K=K:=by rfl):Zap X (.builtin "all") (ZnW K):=by subst h;exact Zlg hc
def rSrtI:List V→Hp→VK→Prop:=fun xs H Q=>∃ (p:Addr) (ns:List Int),xs=[.ref p]∧SqL K H p (ns.map V.int)∧ns.length<64 ∧
  ∀ (l:Addr) (ns':List Int),H l=none→ns'.Perm ns→ns'.Pairwise (·≤·)→Q (.ref l) (upd H l (.lst (ns'.map V.int)))
def Zod:List V→Hp→VK→Prop:=fun xs H Q=>∃ (p:Addr) (ss:List Str),xs=[.ref p]∧SqL K H p (ss.map V.str)∧ss.length<64 ∧
  ∀ (l:Addr) (ss':List Str),H l=none→ss'.Perm ss→sortedS ss'=true→Q (.ref l) (upd H l (.lst (ss'.map V.str)))
theorem Zpc(h:X.K=K:=by rfl):Zap X (.builtin "sorted") (Zod K):=by subst h;exact Zgm
def Zoq:V→List V→Hp→VK→Prop:=fun x vs H Q=>∃ (sep:Str) (p:Addr) (ys:List Str),x=.str sep∧vs=[.ref p]∧SqL K H p (ys.map V.str)∧(ys.map (·.length)).sum+ys.length*sep.length≤16777216∧Q (.str (Txt.join sep ys)) H
theorem ZoE(h:X.K=K:=by rfl):MtR X "str.join" (Zoq K):=by subst h;exact Zly
theorem iL{tg l:Expr}{tl:TE}(hl:PE X l tl)(h:X.K=K:=by rfl):PI X tg l (ZmG K tl):=by subst h;exact Zmu hl
theorem gT{es:List Expr}{k:Nat}{t:TGs}{n:Nat}{pos:Pos}(h:PGs X es t)(hK:X.K=K:=by rfl)(hc:X.calm=true:=by rfl)
  (hn:(assignEach es X.env).length=n:=by rfl) (hst:(assignEach es X.env).findIdx? (·.1)=none:=by rfl):PG X (.Tuple es k pos) (ZoJ K n t):=by subst hK;exact Zm5 hc h hn hst
theorem iZ{a b:Expr}{ta:TA}{p pos:Pos}{elts:List Expr}{x1:Nat}{tpos:Pos}(hm:X.mg "zip" = none)(ha:PA X [a,b] ta)(hg:Gl X "zip":=by rfl)(hK:X.K=K:=by rfl)
  (hs:starEach [a,b] X.env=[(false,eval a X.env),(false,eval b X.env)]:=by rfl) (hs2:starEach [b] X.env=[(false,eval b X.env)]:=by rfl) :
  PI X (.Tuple elts x1 tpos) (.Call (.Name "zip" p) [a,b] [] pos) (Zn7 K ta):=by subst hK;exact Zno hg hm ha hs hs2
end
structure Df (P:Program) (w:World) (K:PySem.W.Frag) (mg:Str→Option Value) (base:Heap) (k:Nat) (x:Str) (ps:List Str) (sp:Sp):Prop where
 ex:∃f fd,ZcU P w K mg base CX0 k f fd ps sp∧mg x=some (.ref f)∧PySem.W.keepIn K (.ref f)=true∧Zbv K fd ps []
section
variable {P:Program} {w:World} {K:PySem.W.Frag} {mg:Str→Option Value} {base:Heap}
structure Top (K:PySem.W.Frag) (mg:Str→Option Value) (x:Str) (st:Stmt) (ps:List Str):Prop where
 ex:∃f fd,Fun K x x st f fd∧mg x=some (.ref f)∧Zbv K fd ps []
theorem Top.df{x:Str}{st:Stmt}{N ps:List Str}{k:Nat}{sp:Sp}(T:Top K mg x st ps)(S:Zq N ps (Zf st))(len:∀vs H Q E,sp vs H Q E→vs.length=ps.length)
  (hbody:∀ (cdv:Value) (f:Addr) (A:Around) (outer:List Env) (s:Shared) (H:Hp) (vs:List V) (Q:VK) (E:XK),ZaA k (A.deeper (envOfC x (Zf st) s.heap.objs.size f cdv))→sp vs H Q E →
   ∃t,PSs (Zf4 CX0 P w K mg base N x (Zf st) f cdv A outer s H E).nox (Zo st) t∧t { nx:=fun _ H'=>Q .non H',rt:=Q } (Zcq N vs) H):Df P w K mg base (k+1) x ps sp:=by
 obtain⟨f,fd,F,m,b⟩:=T.ex
 exact⟨f,fd,F.ok S len (fun cdv A outer s H vs Q E hr h=>hbody cdv f A outer s H vs Q E hr h),m,F.kp,b⟩
end
section
variable {X:Cx} {k j:Nat} {x:Str} {ps:List Str} {sp:Sp} {e:Expr} {es:List Expr} {t:TA} {p pos:Pos}
theorem ZM(F:Df X.prog X.w X.K X.mg X.base k x ps sp)(hr:ZaA j X.A)(ha:PA X (e::es) t)(hjk:k≤j:=by decide)(hg:Gl X x:=by rfl)(hdb:(x == ("__debug__" : Str))=false:=by decide)
  (he:starEach (e::es) X.env=(false,eval e X.env)::starEach es X.env:=by rfl) (hpl:(backTo pos (starEach es X.env)).any (·.1)=false:=by rfl) :
  PE X (.Call (.Name x p) (e::es) [] pos) (ZmJ sp [] E0 t):=by
 obtain⟨f,fd,F,m,kp,b⟩:=F.ex
 exact Zmi F (hr.mono hjk) hg m kp b .nil ZiO ha hdb he hpl
theorem ZbK{T:String}(hm:X.mg x=none)(hv:bootBuiltins x=some (.type T))(hg:Gl X x:=by rfl)(hn:x ≠ "__name__":=by decide)(hd:(x == ("__debug__" : Str))=false:=by decide):PE X (.Name x pos) (tC (.ty T)) :=
 Zl8 hg hm hv rfl hn hd
end
theorem Zdc{lo:Int}{n k:Nat}{D:Addr}{σ:St}{H1:Hp}{g:TG}{te:TE}{Q:VK}(Pv:Nat→List V→St→Hp→Prop)(h0:Pv 0 [] (σ++List.replicate k none) (upd H1 D (.lst [])))
  (hs:∀i ys σ H,i<n→Pv i ys σ H→g (.int (lo+i)) σ H fun σ4 H4=>te σ4 H4 fun y H6=>H6 D=some (.lst ys)∧ys.length<sizeLine∧Pv (i+1) (ys++[y]) σ4 (upd H6 D (.lst (ys++[y]))))
  (hd:∀ys σ H,Pv n ys σ H→Q (.ref D) H):ZdN (Itr lo n) D k σ H1 g Zh2 te Q:=by
 refine⟨fun i m ys σ H=>m=n-i∧i≤n∧Pv i ys σ H,⟨n,by simp,Qv _,h0⟩,?_⟩
 rintro i m ys σ H ⟨rfl,hi,p⟩
 by_cases hlt:i<n
 ·refine .inr ⟨hlt,Pv (i+1),fun ys' σ' H' p'=>⟨n-(i+1),by omega,rfl,hlt,p'⟩,fun x H' y=>?_⟩
  obtain⟨e,y⟩:=y
  subst e y
  simp only[Zh2,↓reduceIte]
  exact hs i ys σ _ hlt p
 ·have e:i=n:=by omega
  subst e
  exact .inl ⟨Qf _,hd ys σ H p⟩
theorem ZgJ{K:PySem.W.Frag}{S1 S2:Src}{xs ys:List V}{k:Nat}{D:Addr}{σ:St}{H1:Hp}{g:TG}{te:TE}{Q:VK}(Pv:Nat→List V→St→Hp→Prop)(h0:Pv 0 [] (σ++List.replicate k none) (upd H1 D (.lst [])))
  (hl:∀i zs σ H,Pv i zs σ H→S1.its K H xs∧S2.its K H ys)
  (hs:∀i zs σ H x y p,xs[i]? = some x→ys[i]? = some y→Pv i zs σ H→H p=none→g (.ref p) σ (upd H p (.tup [x,y])) fun σ4 H4=>te σ4 H4 fun z H6=>H6 D=some (.lst zs)∧zs.length<sizeLine∧Pv (i+1) (zs++[z]) σ4 (upd H6 D (.lst (zs++[z]))))
  (hd:∀zs σ H,Pv (min xs.length ys.length) zs σ H→Q (.ref D) H):ZdN (Itz K S1 S2) D k σ H1 g Zh2 te Q:=by
 refine⟨fun i m zs σ H=>m=min xs.length ys.length-i∧i≤min xs.length ys.length∧Pv i zs σ H,⟨min xs.length ys.length,by simp,Qv _,h0⟩,?_⟩
 rintro i m zs σ H ⟨rfl,hi,p⟩
 obtain⟨q1,q2⟩:=hl i zs σ H p
 by_cases hlt:i<min xs.length ys.length
 ·have l1:i<xs.length:=by omega
  have l2:i<ys.length:=by omega
  refine .inr ⟨⟨xs,ys,q1,q2,l1,l2⟩,Pv (i+1),fun ys' σ' H' p'=>⟨min xs.length ys.length-(i+1),by omega,rfl,hlt,p'⟩,fun x H' y=>?_⟩
  obtain⟨r,hr,rfl,e⟩:=y
  have e':=e xs ys q1 q2 _ _ (Qa l1) (Qa l2)
  subst e'
  simp only[Zh2,↓reduceIte]
  exact hs i zs σ H _ _ r (Qa l1) (Qa l2) p hr
 ·have e:i=min xs.length ys.length:=by omega
  refine .inl ⟨⟨xs,ys,q1,q2,by omega⟩,hd zs σ H (e ▸ p)⟩
section
variable {X:Cx} {N N':List Str} {o c:Scope} {x:Str} {pos:Pos} {C:Addr} {s:Shared} {H:Hp} {fp:List Addr}
theorem Zdb(S:Zaj N N' o c)(ho:X.env.scope=o)(hl:c.names.lookup x=some .local):(Zau X c N' C s H fp).env.scope.names.lookup x=some .local:=by
 have e:=ZbP (X:=X) S ho (Zaq X.env.cells c.names []) C x
 rw[hl]at e
 exact e
theorem ZcG(S:Zaj N N' o c)(ho:X.env.scope=o)(hl:c.names.lookup x=some .globalImplicit):Gl (Zau X c N' C s H fp) x:=by
 have e:=ZbP (X:=X) S ho (Zaq X.env.cells c.names []) C x
 rw[hl]at e
 exact e
theorem Zk9(S:Zaj N N' o c)(ho:X.env.scope=o)(hl:c.names.lookup x=some .free):Vis (Zau X c N' C s H fp).env.scope x:=by
 have e:=ZbP (X:=X) S ho (Zaq X.env.cells c.names []) C x
 rw[hl]at e
 have e':(Zau X c N' C s H fp).env.scope.names.lookup x=if X.env.kindOf x=some .cell then some NameKind.cell else some NameKind.free:=e
 by_cases z:X.env.kindOf x=some .cell
 ·rw[if_pos z]at e';exact .inr (.inl e')
 ·rw[if_neg z]at e';exact .inr (.inr e')
theorem cv(i:Nat)(S:Zaj N N' o c)(ho:X.env.scope=o)(hl:c.names.lookup x=some .free)(hN:N'[i]? = some x:=by rfl)(hd:(x == ("__debug__" : Str))=false:=by decide)(hcd:(x == ("__classdict__" : Str))=false:=by decide) :
  PE (Zau X c N' C s H fp) (.Name x pos) (Zmy i):=ZhH hN (Zk9 S ho hl) hd hcd
theorem cw(i:Nat)(S:Zaj N N' o c)(ho:X.env.scope=o)(hl:c.names.lookup x=some .local)(hN:N'[i]? = some x:=by rfl)(hd:(x == ("__debug__" : Str))=false:=by decide)(hcd:(x == ("__classdict__" : Str))=false:=by decide) :
  PE (Zau X c N' C s H fp) (.Name x pos) (Zmy i):=ZhH hN (.inl (Zdb S ho hl)) hd hcd
theorem cg(i:Nat)(S:Zaj N N' o c)(ho:X.env.scope=o)(hl:c.names.lookup x=some .local)(hi:N'[i]? = some x:=by rfl):PG (Zau X c N' C s H fp) (.Name x pos) (ZiH i) :=
 ZJ S.nd hi (.inl (Zdb S ho hl)) (.inr (Zdb S ho hl))
end
mutual
inductive DV (K:PySem.W.Frag) (H:Hp):V→PyData→Prop where
 | non:DV K H .non .none
 | bl (b:Bool):DV K H (.bl b) (.bool b)
 | int (i:Int):DV K H (.int i) (.int i)
 | str (s:Str):DV K H (.str s) (.str s)
 | lst {a:Addr} {xs:List V} {ds:List PyData}:SqL K H a xs→DVs K H xs ds→DV K H (.ref a) (.list ds)
 | tup {a:Addr} {xs:List V} {ds:List PyData}:SqT K H a xs→DVs K H xs ds→DV K H (.ref a) (.tuple ds)
inductive DVs (K:PySem.W.Frag) (H:Hp):List V→List PyData→Prop where
 | nil:DVs K H [] []
 | cons {x:V} {d:PyData} {xs:List V} {ds:List PyData}:DV K H x d→DVs K H xs ds→DVs K H (x::xs) (d::ds)
end
section
variable {X:Cx} {pins:List (Addr×Obj)} {σ:St} {H:Hp} {s:Shared}
mutual
theorem Inv.reads(I:Inv X pins σ H s):∀ {x:V} {d:PyData} {u:Value},DV X.K H x d→Zw x u→∃as,Reads s.heap u d as
 | _,_,_,.non,r=>by cases r;exact⟨_,.none⟩
 | _,_,_,.bl b,r=>by cases r;exact⟨_,.bool b⟩
 | _,_,_,.int i,r=>by obtain⟨t,rfl⟩:=r;exact⟨_,.int i t⟩
 | _,_,_,.str z,r=>by obtain⟨t,rfl⟩:=r;exact⟨_,.str z t⟩
 | _,_,_,.lst h hs,r=>by
  cases r
  obtain⟨its,rv,⟨o,n,e,hc,_,hd⟩,_⟩:=I.list h
  obtain⟨as,q⟩:=Inv.readsAll I hs rv
  exact⟨_,reads_list_at e hc hd (by simpa using q)⟩
 | _,_,_,.tup h hs,r=>by
  cases r
  obtain⟨its,rv,⟨o,e,hc,n,hd⟩,_⟩:=I.tuple h
  obtain⟨as,q⟩:=Inv.readsAll I hs rv
  exact⟨_,reads_tuple_at e hc hd (by simpa using q)⟩
theorem Inv.readsAll(I:Inv X pins σ H s):∀ {xs:List V} {ds:List PyData} {us:List Value},DVs X.K H xs ds→Zy xs us→∃as,ReadsAll s.heap us ds as
 | _,_,_,.nil,r=>by cases r;exact⟨_,.nil⟩
 | _,_,_,.cons h hs,r=>by
  cases r with
  | cons r1 r2 =>
   obtain⟨as,q1⟩:=Inv.reads I h r1
   obtain⟨bs,q2⟩:=Inv.readsAll I hs r2
   exact⟨_,.cons q1 q2⟩
end
def Zn2(K:PySem.W.Frag)(neg:Bool):R2:=fun x y H Q=>∃d e,DV K H x d∧DV K H y e∧SeqAt.shaped d=true∧SeqAt.shaped e=true∧Q (.bl (if neg then !PyData.eqv d e else PyData.eqv d e)) H
theorem ZnI(hu:X.A.units+64<cLine):OpR X (compareOp .NotEq) (Zn2 X.K true):=by
 intro pins s σ H x y v u Q I rx ry h
 obtain⟨d,e,h1,h2,s1,s2,q⟩:=h
 obtain⟨as,r1⟩:=I.reads h1 rx
 obtain⟨bs,r2⟩:=I.reads h2 ry
 exact ne_dataH r1 r2 s1 s2 hu ⟨.bl _,H,I,rfl,q⟩
end
theorem neD{X:Cx}(K:PySem.W.Frag){k:Nat}(hr:ZaA k X.A)(h:X.K=K:=by rfl):OpR X (compareOp .NotEq) (Zn2 K true):=by subst h;exact ZnI hr.units
mutual
theorem DV.mono{K:PySem.W.Frag}{H H':Hp}(s:ZD H H'):∀ {x:V} {d:PyData},DV K H x d→DV K H' x d
 | _,_,.non=>.non
 | _,_,.bl b=>.bl b
 | _,_,.int i=>.int i
 | _,_,.str z=>.str z
 | _,_,.lst h hs=>.lst (s.seq h) (DVs.mono s hs)
 | _,_,.tup h hs=>.tup (by
   rcases h with(h|⟨ob,h⟩)|h
   ·exact .inl (.inl (s _ _ h))
   ·exact .inl (.inr ⟨ob,s _ _ h⟩)
   ·exact .inr h) (DVs.mono s hs)
theorem DVs.mono{K:PySem.W.Frag}{H H':Hp}(s:ZD H H'):∀ {xs:List V} {ds:List PyData},DVs K H xs ds→DVs K H' xs ds
 | _,_,.nil=>.nil
 | _,_,.cons h hs=>.cons (DV.mono s h) (DVs.mono s hs)
end
def Ite(K:PySem.W.Frag)(a:Addr):It :=
 ⟨fun i H=>∃xs,SqL K H a xs∧i<xs.length,
  fun i H v H'=>∃p,H p=none∧v=.ref p∧∀xs,SqL K H a xs→∀x,xs[i]? = some x→H'=upd H p (.tup [.int i,x]),
  fun i H=>∃xs,SqL K H a xs∧xs.length≤i⟩
theorem ZiR{P:Program}{w:World}{K:PySem.W.Frag}{elts:List Expr}{x1:Nat}{tpos:Pos}{a e it:Addr}(hne:e≠it) :
  Zji P w K (.Tuple elts x1 tpos) (Ite K a) [e,it] e (fun i h=>(∃old,IsEnum h e it i old)∧h.IsListIter it a i) where
 mem:=by simp
 obj:=fun i h st b hb=>by
  obtain⟨⟨old,he⟩,o,hit,hc,hd⟩:=st
  simp only[List.mem_cons,List.not_mem_nil,or_false]at hb
  rcases hb with rfl|rfl
  ·exact⟨_,he,fun v z=>by cases z⟩
  ·exact⟨o,hit,fun v z=>by rw[hd]at z;cases z⟩
 keep:=fun i h h' st k=>by
  obtain⟨⟨old,he⟩,hit⟩:=st
  exact⟨⟨old,k e (by simp) _ he⟩,hit.at fun o q=>k it (by simp) o q⟩
 item:=by
  intro X hP hw hK hc i pins s σ H E I hf st hg
  subst hP hw hK
  obtain⟨⟨old,he⟩,hit⟩:=st
  obtain⟨xs,q1,l1⟩:=hg
  obtain⟨its,rv,pl,_⟩:=I.list q1
  obtain⟨u,hu,ru⟩:=rv.get (Qa l1)
  refine wpAny_pyNext_enum_item he hit pl.isList (x:=u) (by simpa using hu) hne fun h' a1 a2 a3 a4 a5=>?_
  have lt:∀ {b:Addr} {o:Obj},s.heap.get? b=some o→s.heap.objs.size≠b:=fun q=>Q9 (Qq q)
  have hes:s.heap.objs.size≠e:=lt he
  refine⟨_,rfl,wpAny_letOwnedTupleGo_enum a1 fun h'' he'' hs''=>?_⟩
  have hs':Heap.SameBut e h' h'':=hs''
  have hit'':h''.IsListIter it a (i+1):=a2.extBut hs'.extBut hne.symm
  have I2:Inv X pins σ (upd H s.heap.objs.size (.tup [.int i,xs[i]])) { s with heap:=h'',toks:=s.toks+1 }:=by
   refine I.zipped (fp:=[e,it]) (u:=.int i s.toks) (v:=u) hf ⟨_,rfl⟩ ru (hs'.extBut _ _ hes a3) (fun b hb=>?_) fun c o hc q=>?_
   ·simp only[List.mem_cons,List.not_mem_nil,or_false]at hb
    rcases hb with rfl|rfl
    ·exact⟨_,he''⟩
    ·obtain⟨o,q,_⟩:=hit'';exact⟨o,q⟩
   ·simp only[List.mem_cons,List.not_mem_nil,or_false,not_or]at hc
    exact hs'.extBut _ _ hc.1 (a5 c o hc.1 hc.2 q)
  refine⟨.ref s.heap.objs.size,_,I2,rfl,⟨s.heap.objs.size,I.fresh,rfl,fun xs' w1 x' e1=>?_⟩,⟨⟨_,he''⟩,hit''⟩,fun b hb=>?_⟩
  ·have e3:=I.list_inj w1 q1
   subst e3
   rw[Qa l1]at e1
   cases e1
   rfl
  ·rw[Zc (fun z=>by
    obtain⟨o,q⟩:∃o,s.heap.get? b=some o:=by
     simp only[List.mem_cons,List.not_mem_nil,or_false]at hb
     rcases hb with rfl|rfl
     ·exact⟨_,he⟩
     ·obtain⟨o,q,_⟩:=hit;exact⟨o,q⟩
    exact lt q z.symm)]
   exact(hf b hb).1
 done:=by
  intro X hP hw hK hc i pins s σ H E I hf st hg
  subst hP hw hK
  obtain⟨⟨old,he⟩,hit⟩:=st
  obtain⟨xs,q1,l1⟩:=hg
  obtain⟨its,rv,pl,_⟩:=I.list q1
  obtain⟨f0,f1,f2,f3,f4,f5⟩:=hf it (by simp)
  have hl:=rv.length
  exact wpAny_pyNext_enum_end (I.ok.hd hc) he hit pl.isList (by rw[Qah];exact Qai (by omega)) fun h' eb=>⟨rfl,I.turned (t':=s.toks) (fun b o hb q=>eb b o hb q) f0 f1 f3 f4 f5⟩
 self:=fun _ _ _ _ _ st h=>by obtain⟨⟨old,he⟩,_⟩:=st;exact wpAny_pyIter_enum he h
def ZmC(K:PySem.W.Frag)(ta:TA):TI:=fun σ H R=>ta σ H fun vs H1=>∃a xs,vs=[V.ref a]∧SqL K H1 a xs∧R (Ite K a) H1
theorem ZlR{X:Cx}{l:Expr}{ta:TA}{p pos:Pos}{elts:List Expr}{x1:Nat}{tpos:Pos}(hg:Gl X "enumerate")(hm:X.mg "enumerate" = none)(ha:PA X [l] ta)
  (hs:starEach [l] X.env=[(false,eval l X.env)]:=by rfl):PI X (.Tuple elts x1 tpos) (.Call (.Name "enumerate" p) [l] [] pos) (ZmC X.K ta):=by
 intro pins s σ H R I h
 refine Call_ (Zc8 I hg hm boot_enumerate (Q8 (thn (ha pos pins s σ H _ I h) ?_) hs rfl))
 rintro us s1 ⟨vs,H1,I1,r1,q1⟩
 obtain⟨a,xs,e,y1,q⟩:=q1
 subst e
 obtain⟨u,rfl,ru⟩:=r1.one
 cases ru
 obtain⟨its,rv,pl,_⟩:=I1.list y1
 refine call_enumerate_list pl.isList fun h' he hit hsz hk=>wpAny_pyIter_enum he ?_
 have I2:Inv X pins σ H1 { s1 with heap:=h' }:=I1.kept (t':=s1.toks) hk
 refine⟨_,_,_,_,H1,rfl,I2,ZiR (a:=a) (e:=s1.heap.objs.size+1) (it:=s1.heap.objs.size) (Q9 (Qa2 _)),⟨⟨_,he⟩,hit⟩,fun b hb=>?_,q⟩
 have hb':s1.heap.objs.size≤b:=by
  simp only[List.mem_cons,List.not_mem_nil,or_false]at hb
  rcases hb with rfl|rfl
  ·exact QaC _ 1
  ·exact Qf _
 exact I1.fpOk hb' (I1.hok.fresh hb')
theorem iE{X:Cx}(K:PySem.W.Frag){l:Expr}{ta:TA}{p pos:Pos}{elts:List Expr}{x1:Nat}{tpos:Pos}(hm:X.mg "enumerate" = none)(ha:PA X [l] ta)(hg:Gl X "enumerate":=by rfl)(hK:X.K=K:=by rfl)
  (hs:starEach [l] X.env=[(false,eval l X.env)]:=by rfl):PI X (.Tuple elts x1 tpos) (.Call (.Name "enumerate" p) [l] [] pos) (ZmC K ta):=by subst hK;exact ZlR hg hm ha hs
theorem Ze1{K:PySem.W.Frag}{a:Addr}{xs:List V}{g:TG}{tb:TS}{D:Zek}{σ:St}{H:Hp}(Pv:Nat→St→Hp→Prop)(h0:Pv 0 σ H)(hl:∀i σ H,Pv i σ H→SqL K H a xs)
  (hs:∀i x σ H p,xs[i]? = some x→Pv i σ H→H p=none→g (.ref p) σ (upd H p (.tup [.int i,x])) fun σ2 H2=>tb { D with nx:=Pv (i+1),ct:=Pv (i+1),bk:=D.nx } σ2 H2) (hd:∀σ H,Pv xs.length σ H→D.nx σ H) :
  ∃W:Nat→Nat→St→Hp→Prop,(∃m,W 0 m σ H)∧∀i m σ H,W i m σ H →
   ((Ite K a).stop i H∧D.nx σ H)∨((Ite K a).go i H∧∃N:St→Hp→Prop,(∀σ' H',N σ' H'→∃m',m'<m∧W (i+1) m' σ' H')∧∀x H',(Ite K a).yld i H x H'→g x σ H' fun σ2 H2=>tb { D with nx:=N,ct:=N,bk:=D.nx } σ2 H2):=by
 refine⟨fun i m σ H=>m=xs.length-i∧i≤xs.length∧Pv i σ H,⟨xs.length,by simp,Qv _,h0⟩,?_⟩
 rintro i m σ H ⟨rfl,hi,p⟩
 have q1:=hl i σ H p
 by_cases hlt:i<xs.length
 ·refine .inr ⟨⟨xs,q1,hlt⟩,Pv (i+1),fun σ' H' p'=>⟨xs.length-(i+1),by omega,rfl,hlt,p'⟩,fun x H' y=>?_⟩
  obtain⟨r,hr,rfl,e⟩:=y
  have e':=e xs q1 _ (Qa hlt)
  subst e'
  exact hs i _ σ H r (Qa hlt) p hr
 ·have e:i=xs.length:=by omega
  exact .inl ⟨⟨xs,q1,by omega⟩,hd σ H (e ▸ p)⟩
def rMinL(K:PySem.W.Frag):List V→Hp→VK→Prop:=fun vs H Q=>∃ (p:Addr) (ns:List Int),vs=[.ref p]∧SqL K H p (ns.map V.int)∧0<ns.length∧∀M,M∈ns→(∀a∈ns,M≤a)→Q (.int M) H
def ZnN(K:PySem.W.Frag):List V→Hp→VK→Prop:=fun xs H Q=>∃p ys,xs=[.ref p]∧(SqL K H p ys∨SqT K H p ys)∧∀l,H l=none→Q (.ref l) (upd H l (.lst ys))
theorem Zou{X:Cx}(K:PySem.W.Frag)(h:X.K=K:=by rfl):Zap X (.type "list") (ZnN K):=by subst h;exact Zgv
section
variable {prog:Program} {w:World} {A:Around} {E:Value→Shared→Prop} {s:Shared}
end
def gLst(K:PySem.W.Frag)(n:Nat)(t:TGs):TG:=fun v σ H Q=>∃a xs,v=.ref a∧SqL K H a xs∧xs.length=n∧t xs σ H Q
def ZnS(xs:List V)(lo hi:Option Int)(st:Int):List V :=
 (sliceRange (sliceBounds lo hi (some st) xs.length).1 (sliceBounds lo hi (some st) xs.length).2.1 (sliceBounds lo hi (some st) xs.length).2.2).filterMap fun i=>xs[i]?
def SlRS(X:Cx)(r:V→Option Int→Option Int→Int→Hp→VK→Prop):Prop :=
 ∀ (pins:List (Addr×Obj)) (s:Shared) (σ:St) (H:Hp) (x:V) (v vl vu vs:Value) (lo hi:Option Int) (st:Int) (sl:Addr) (Q:VK),Inv X pins σ H s→Zw x v→s.heap.IsSliceOf sl vl vu vs→IsPart vl lo→IsPart vu hi→IsPart vs (some st)→r x lo hi st H Q →
  ∃T id,typeLookup (.type T) "__getitem__" = pure (some (.builtin id))∧s.TypeIs v T∧wpAny (model X.prog X.w) X.A (getItem v (.ref sl)) (EP X pins σ Q) X.xe s
def tSlS(r:V→Option Int→Option Int→Int→Hp→VK→Prop)(te:TE)(tl th ts:TO):TE:=fun σ H Q=>te σ H fun x H1=>tl σ H1 fun l H2=>th σ H2 fun u H3=>ts σ H3 fun k H4=>∃i,k=some i∧r x l u i H4 Q
section
variable {X:Cx} {e st:Expr} {te:TE} {lo hi:Option Expr} {tl th ts:TO} {pos p2:Pos}
def rSlLS(K:PySem.W.Frag):V→Option Int→Option Int→Int→Hp→VK→Prop:=fun x lo hi st H Q=>∃a xs,x=.ref a∧SqL K H a xs∧st≠0∧∀p,H p=none→Q (.ref p) (upd H p (.lst (ZnS xs lo hi st)))
end
section
variable {X:Cx}
def rInsert:V→List V→Hp→VK→Prop:=fun x vs H Q=>∃l xs i y,x=.ref l∧vs=[.int i,y]∧H l=some (.lst xs)∧0≤i∧i≤xs.length∧xs.length<sizeLine∧Q .non (upd H l (.lst (xs.take i.toNat++y::xs.drop i.toNat)))
def rBits:V→List V→Hp→VK→Prop:=fun x vs H Q=>∃i,x=.int i∧vs=[]∧Q (.int (Builtin.Int.intBits i:Nat)) H
theorem inQ(K:PySem.W.Frag)(h:X.K=K:=by rfl):OpR X (compareOp .In) (rIn K false):=by subst h;exact Zju
def rTupQ(K:PySem.W.Frag):List V→Hp→VK→Prop:=fun xs H Q=>∃p ys,xs=[.ref p]∧((SqL K H p ys∧∀l,H l=none→Q (.ref l) (upd H l (.tup ys)))∨(SqT K H p ys∧Q (.ref p) H))
end
def Its(z:Str):It:=⟨fun i _=>i<z.cps.size,fun i H v H'=>H'=H∧∃c,z.cps[i]? = some c∧v=.str ⟨#[c]⟩,fun i _=>z.cps.size≤i⟩
section
variable {X:Cx} {tg:Expr}
def iStr(tl:TE):TI:=fun σ H R=>tl σ H fun x H1=>∃z,x=.str z∧R (Its z) H1
end
def ZoT:PyData→Str
 | .str z=>z
 | d=>d.shown
def rStrD(K:PySem.W.Frag):List V→Hp→VK→Prop:=fun xs H Q=>∃x d,xs=[x]∧DV K H x d∧PyData.layable0 d=true∧d.intsShort 13=true∧d.showable=true∧Q (.str (ZoT d)) H
def ZgC(kvs:List (List Key×V))(k:List Key):Option V:=(kvs.find? fun kv=>decide (kv.1=k)).map (·.2)
abbrev PairT(H:Hp):List (List Key×V)→List (List Key×Addr×Value)→Prop:=Paired fun (p:List Key×V) (q:List Key×Addr×Value)=>p.1=q.1∧H q.2.1=some (.tup (p.1.map kV))∧Zw p.2 q.2.2
section
variable {X:Cx} {pins:List (Addr×Obj)} {σ:St} {H:Hp} {s:Shared}
def Zn0:TE:=fun _ H Q=>∀p,H p=none→Q (.ref p) (upd H p (.dT []))
theorem ZiI{pos:Pos}:PE X (.Dict [] [] pos) Zn0:=by
 intro pins s σ H Q I h
 have hb:sysModules<s.heap.objs.size:=Nat.lt_trans (by decide) (show mainGlobals<s.heap.objs.size from(I.mod.glob.keeps I.bk).lt)
 refine wpAny_Dict_empty ⟨.ref s.heap.objs.size,upd H s.heap.objs.size (.dT []),?_,rfl,h _ (I.hok.fresh (Qf _))⟩
 refine I.laid (t':=s.toks) (fun _ _ q=>Qc _ q) (Qf _) ?_
 refine⟨Qv _,?_,[],.nil,_,#[],0,Qt _ rfl,⟨rfl,rfl,rfl⟩,rfl,rfl,List.nodup_nil⟩
 exact beq_eq_false_iff_ne.mpr fun z=>Qab _ (z ▸ hb)
end
def rSetDef:V→List V→Hp→VK→Prop:=fun x vs H Q=>∃d kvs b ks y,x=.ref d∧vs=[.ref b,y]∧H d=some (.dT kvs)∧H b=some (.tup (ks.map kV))∧kvs.length<sizeLine ∧
 (∀v,ZgC kvs ks=some v→Q v H)∧(ZgC kvs ks=none→Q y (upd H d (.dT (kvs++[(ks,y)]))))
def Zpw:List V→Hp→VK→Prop:=fun xs H Q=>∃j:Int,xs=[.int j]∧∀p,H p=none→Q (.ref p) (upd H p (.rng 0 j))
def Zpv:List V→Hp→VK→Prop:=fun xs H Q=>∃i j:Int,xs=[.int i,.int j]∧∀p,H p=none→Q (.ref p) (upd H p (.rng i j))
def Zcm(lo:Int)(n:Nat):List Int:=(List.range n).map fun (k:Nat)=>lo+k
theorem ZeD(lo:Int)(n:Nat):(Zcm lo n).length=n:=by simp[Zcm]
def rListR:List V→Hp→VK→Prop:=fun xs H Q=>∃ (p:Addr) (lo hi:Int),xs=[.ref p]∧H p=some (.rng lo hi) ∧ -(2 ^ 62)≤lo∧lo<2 ^ 62 ∧ -(2 ^ 62)≤hi∧hi<2 ^ 62∧(hi-lo).toNat≤1000 ∧
 ∀l,H l=none→Q (.ref l) (upd H l (.lst ((Zcm lo (hi-lo).toNat).map V.int)))
section
variable {prog:Program} {w:World} {A:Around} {E:Value→Shared→Prop} {s:Shared}
end
section
variable {X:Cx}
def rSlTS(K:PySem.W.Frag):V→Option Int→Option Int→Int→Hp→VK→Prop:=fun x lo hi st H Q=>∃a xs,x=.ref a∧SqT K H a xs∧lo=none∧hi=none∧st = -1∧∀p,H p=none→Q (.ref p) (upd H p (.tup xs.reverse))
def rExtendT(K:PySem.W.Frag):V→List V→Hp→VK→Prop:=fun x vs H Q=>∃l b xs zs,x=.ref l∧vs=[.ref b]∧H l=some (.lst xs)∧H b=some (.tup zs)∧xs.length+zs.length≤sizeLine∧Q .non (upd H l (.lst (xs++zs)))
theorem ZaW{prog:Program}{w:World}{A:Around}{E:Value→Shared→Prop}{s:Shared}{a:Addr}{o:Obj}{xs:Array Value}{n:Nat}{Q:Array Value→Shared→Prop}(ho:s.heap.get? a=some o)(hd:o.data=.seq xs n)(h:Q xs s):wpAny (model prog w) A (Builtin.List.listItems (.ref a)) Q E s:=by
 unfold Builtin.List.listItems
 exact wpAny_bind (wpAny_seqItems ho hd (wpAny_pure h))
def gSlice(to:TE)(tl th:TO):TG:=fun v σ H Q=>to σ H fun o H1=>tl σ H1 fun l H2=>th σ H2 fun u H3=>∃ (p b:Addr) (xs ys:List V) (a c:Int),o=.ref p∧v=.ref b∧l=some a∧u=some c∧H3 p=some (.lst xs)∧H3 b=some (.lst ys)∧p≠b∧0≤a∧a≤c∧c≤xs.length∧xs.length+ys.length≤sizeLine ∧
 Q σ (upd H3 p (.lst (xs.take a.toNat++ys++xs.drop c.toNat)))
def rSumB(K:PySem.W.Frag):List V→Hp→VK→Prop:=fun vs H Q=>∃ (p:Addr) (ns:List Int),vs=[.ref p]∧SqL K H p (ns.map V.int)∧ns.length≤1000∧(∀n∈ns,0≤n∧n≤10000000000)∧Q (.int ns.sum) H
theorem ZdG(ns:List Int):∀n,n≤ns.length→preSum (fun j=>ns.getD j 0) n=(ns.take n).sum
 | 0,_=>rfl
 | n+1,h=>by
  have ih:=ZdG ns n (by omega)
  have e:ns.take (n+1)=ns.take n++[ns.getD n 0]:=by
   rw[Qaa,Qa (by omega),QC,Qa (by omega)]
   rfl
  rw[e,List.sum_append,← ih]
  simp[preSum]
end
section
variable {prog:Program} {w:World} {A:Around} {E:Value→Shared→Prop} {s:Shared} {κ:PyProof.Rows.KeyKind} {k0:SortKind} {a₀:Array Keyed} {st:SortSt}
def ZdI(prog:Program)(w:World)(A:Around)(s:Shared)(k0:SortKind)(κ:PyProof.Rows.KeyKind):Prop :=
 ∀ (E:Value→Shared→Prop) (x y:Value) (a b:κ.α) (Q:Bool→Shared→Prop),κ.keyOf x=some a→κ.keyOf y=some b→Q (κ.blt a b) s→wpAny (model prog w) A (keyLt' k0 x y) Q E s
structure SB (k0:SortKind) (a₀:Array Keyed) (st:SortSt):Prop where
 perm:(arrOf st).Perm a₀
 kind:kindOf st=k0
 failed:failedOf st=none
 pend:pendingOf st = #[]
theorem SB.size(B:SB k0 a₀ st):(arrOf st).size=a₀.size:=B.perm.size_eq
theorem w_elem{arr:Array Keyed}{i:Nat}{p:Keyed}{Q:Keyed→SortSt→Prop}(h:arr[i]? = some p)(q:Q p st):wpS (model prog w) A E s (elem' arr i) Q st:=by
 rw[elem'_eq,h]
 exact wpS_pure q
theorem w_rev{i j:Nat}{Q:Unit→SortSt→Prop}(q:Q () (setArr st (mirror (arrOf st) i j ((j-i) / 2)))):wpS (model prog w) A E s (reverseSlice' i j) Q st:=wpS_reverse q
theorem ZoN(st:SortSt)(xs:Array Keyed):arrOf (setArr st xs)=xs:=rfl
end
section
variable {prog:Program} {w:World} {A:Around} {E:Value→Shared→Prop} {s:Shared} {κ:PyProof.Rows.KeyKind}
end
def kLt:Key→Key→Bool
 | .inl i,.inl j=>decide (i<j)
 | .inr x,.inr y=>decide (x.cps.toList<y.cps.toList)
 | .inl _,.inr _=>true
 | .inr _,.inl _=>false
theorem Zhu:∀a:Key,kLt a a=false
 | .inl i=>decide_eq_false (by omega)
 | .inr x=>decide_eq_false (List.lt_irrefl _)
theorem Zi5:∀a b c:Key,kLt a b=true→kLt b c=true→kLt a c=true
 | .inl i,.inl j,.inl k,h1,h2=>by have:=of_decide_eq_true h1;have:=of_decide_eq_true h2;exact decide_eq_true (by omega)
 | .inr x,.inr y,.inr z,h1,h2=>decide_eq_true (List.lt_trans (of_decide_eq_true h1) (of_decide_eq_true h2))
 | .inl _,.inl _,.inr _,_,_=>rfl
 | .inl _,.inr _,.inr _,_,_=>rfl
 | .inl _,.inr _,.inl _,_,h=>by cases h
 | .inr _,.inl _,_,h,_=>by cases h
 | .inr _,.inr _,.inl _,_,h=>by cases h
theorem Zjb:∀a b:Key,kLt a b=false→kLt b a=false→a=b
 | .inl i,.inl j,h1,h2=>by have:=of_decide_eq_false h1;have:=of_decide_eq_false h2;congr 1;omega
 | .inr x,.inr y,h1,h2=>by
  have a1:¬ x.cps.toList<y.cps.toList:=of_decide_eq_false h1
  have a2:¬ y.cps.toList<x.cps.toList:=of_decide_eq_false h2
  have e:x.cps.toList=y.cps.toList:=List.le_antisymm a2 a1
  obtain⟨xs⟩:=x
  obtain⟨ys⟩:=y
  congr 2
  exact Array.toList_inj.mp e
 | .inl _,.inr _,h,_=>by cases h
 | .inr _,.inl _,_,h=>by cases h
def ZaS:List Key→List Key→Bool
 | [],[]=>false
 | [],_::_=>true
 | _::_,[]=>false
 | x::xs,y::ys=>if x=y then ZaS xs ys else kLt x y
theorem ZbL(x y:Key)(xs ys:List Key):ZaS (x::xs) (y::ys)=if x=y then ZaS xs ys else kLt x y:=rfl
theorem Zeh:∀a:List Key,ZaS a a=false
 | []=>rfl
 | x::r=>by unfold ZaS;rw[if_pos rfl];exact Zeh r
theorem Zc9:∀a b c:List Key,ZaS a b=true→ZaS b c=true→ZaS a c=true
 | [],[],_,h,_=>by cases h
 | [],_::_,[],_,h=>by cases h
 | [],_::_,_::_,_,_=>rfl
 | _::_,[],_,h,_=>by cases h
 | _::_,_::_,[],_,h=>by cases h
 | x::r,y::s,z::t,h1,h2=>by
  have ih:=Zc9 r s t
  unfold ZaS at h1 h2 ⊢
  by_cases e1:x=y
  ·rw[if_pos e1]at h1
   by_cases e2:y=z
   ·rw[if_pos e2]at h2
    rw[if_pos (e1.trans e2)]
    exact ih h1 h2
   ·rw[if_neg e2]at h2
    rw[if_neg (fun e=>e2 (e1.symm.trans e)),e1]
    exact h2
  ·rw[if_neg e1]at h1
   by_cases e2:y=z
   ·rw[if_neg (fun e=>e1 (e.trans e2.symm)),← e2]
    exact h1
   ·rw[if_neg e2]at h2
    have h3:=Zi5 _ _ _ h1 h2
    rw[if_neg (fun e=>by rw[e,Zhu]at h3;cases h3)]
    exact h3
theorem Zc3:∀a b:List Key,ZaS a b=false→ZaS b a=false→a=b
 | [],[],_,_=>rfl
 | [],_::_,h,_=>by cases h
 | _::_,[],_,h=>by cases h
 | x::r,y::s,h1,h2=>by
  unfold ZaS at h1 h2
  by_cases e:x=y
  ·rw[if_pos e]at h1
   rw[if_pos e.symm]at h2
   rw[e,Zc3 r s h1 h2]
  ·rw[if_neg e]at h1
   rw[if_neg fun z=>e z.symm]at h2
   exact absurd (Zjb _ _ h1 h2) e
theorem Zk0(a b c:List Key)(h:ZaS a c=true):ZaS a b=true∨ZaS b c=true:=by
 by_cases h1:ZaS a b=true
 ·exact .inl h1
 ·by_cases h2:ZaS b a=true
  ·exact .inr (Zc9 _ _ _ h2 h)
  ·have e:=Zc3 a b (by simpa using h1) (by simpa using h2)
   rw[← e];exact .inr h
def unV:V→Option Key
 | .int i=>some (.inl i)
 | .str x=>some (.inr x)
 | _=>none
def Zei:List V→Option (List Key)
 | []=>some []
 | x::r=>(unV x).bind fun k=>(Zei r).map (k::·)
theorem Znb(k:Key):unV (kV k)=some k:=by cases k<;>rfl
theorem ZgB:∀ks:List Key,Zei (ks.map kV)=some ks
 | []=>rfl
 | k::r=>by show (unV (kV k)).bind _=_;rw[Znb,ZgB r];rfl
theorem Znj:∀ {x:V} {k:Key},unV x=some k→x=kV k
 | .int i,k,h=>by cases h;rfl
 | .str z,k,h=>by cases h;rfl
 | .non,_,h=>by cases h
 | .bl _,_,h=>by cases h
 | .byt _,_,h=>by cases h
 | .flt _,_,h=>by cases h
 | .ref _,_,h=>by cases h
 | .ty _,_,h=>by cases h
theorem ZgR:∀ {xs:List V} {ks:List Key},Zei xs=some ks→xs=ks.map kV
 | [],ks,h=>by cases h;rfl
 | x::r,ks,h=>by
  unfold Zei at h
  cases hu:unV x with
  | none=>rw[hu]at h;cases h
  | some k =>
   rw[hu]at h
   cases hr:Zei r with
   | none=>rw[hr]at h;cases h
   | some ms=>rw[hr]at h;cases h;rw[Znj hu,ZgR hr];rfl
def ZaX(ks:List Key):List Bool:=ks.map fun k=>k.isLeft
def ZfP(H:Hp)(sh:List Bool):Value→Option (List Key)
 | .ref a=>match H a with
  | some (.tup xs)=>(Zei xs).bind fun ks=>if ZaX ks=sh then some ks else none
  | _=>none
 | _=>none
theorem ZgZ{H:Hp}{a:Addr}{ks:List Key}(h:H a=some (.tup (ks.map kV))):ZfP H (ZaX ks) (.ref a)=some ks:=by
 unfold ZfP
 dsimp only
 rw[h]
 show (Zei (ks.map kV)).bind _=_
 rw[ZgB]
 show (if ZaX ks=ZaX ks then some ks else none)=_
 rw[if_pos rfl]
theorem Zhr{H:Hp}{sh:List Bool}{v:Value}{ks:List Key}(h:ZfP H sh v=some ks):∃a,v=.ref a∧H a=some (.tup (ks.map kV))∧ZaX ks=sh:=by
 unfold ZfP at h
 split at h
 ·rename_i a
  split at h
  ·rename_i xs hx
   cases hk:Zei xs with
   | none=>rw[hk]at h;cases h
   | some ms =>
    rw[hk]at h
    have h':(if ZaX ms=sh then some ms else none)=some ks:=h
    by_cases e:ZaX ms=sh
    ·rw[if_pos e]at h'
     cases h'
     exact⟨a,rfl,by rw[hx,ZgR hk],e⟩
    ·rw[if_neg e]at h';cases h'
  ·cases h
 ·cases h
def Zf0(H:Hp)(sh:List Bool):PyProof.Rows.KeyKind:=⟨⟨List Key,ZaS,Zeh,Zc9,fun a b c h=>Zk0 a b c h,Zc3⟩,ZfP H sh,[]⟩
section
variable {prog:Program} {w:World} {A:Around} {E:Value→Shared→Prop} {s:Shared}
theorem Znu{k m:Key}{p q:Value}(hp:Zw (kV k) p)(hq:Zw (kV m) q)(hs:k.isLeft=m.isLeft){Q:Bool→Shared→Prop}(h:Q (decide (k=m)) s):wpAny (model prog w) A (eqBool p q) Q E s:=by
 cases k with
 | inl i =>
  cases m with
  | inl j =>
   obtain⟨t,rfl⟩:=hp
   obtain⟨u,rfl⟩:=hq
   refine wpAny_eqBool_int ?_
   have e:(i == j)=decide ((Sum.inl i:Key)=Sum.inl j):=by
    by_cases z:i=j
    ·rw[z];simp
    ·rw[decide_eq_false (fun e=>z (Sum.inl.inj e))];simpa using z
   rw[e];exact h
  | inr y=>cases hs
 | inr x =>
  cases m with
  | inl j=>cases hs
  | inr y =>
   obtain⟨t,rfl⟩:=hp
   obtain⟨u,rfl⟩:=hq
   refine wpAny_eqBool_str ?_
   have e:decide (x=y)=decide ((Sum.inr x:Key)=Sum.inr y):=decide_eq_decide.mpr ⟨fun z=>by rw[z],fun z=>Sum.inr.inj z⟩
   rw[e];exact h
theorem ZnQ{c:Bool}{k m:Key}{p q:Value}(hp:Zw (kV k) p)(hq:Zw (kV m) q)(hs:k.isLeft=m.isLeft){Q:Bool→Shared→Prop}(h:Q (kLt k m) s):wpAny (model prog w) A (oneLt' c p q) Q E s:=by
 cases k with
 | inl i =>
  cases m with
  | inl j =>
   obtain⟨t,rfl⟩:=hp
   obtain⟨u,rfl⟩:=hq
   cases c with
   | true=>exact oneLt_int h
   | false =>
    rw[oneLt'_eq]
    show wpAny _ _ (richCompare .Lt (.int i t) (.int j u) >>= _) _ _ _
    refine wpAny_bind (show wpAny (model prog w) A (compareOp .Lt (.int i t) (.int j u)) _ _ _ from PyProof.Rows.lt_int ?_)
    exact wpAny_pure h
  | inr y=>cases hs
 | inr x =>
  cases m with
  | inl j=>cases hs
  | inr y =>
   obtain⟨t,rfl⟩:=hp
   obtain⟨u,rfl⟩:=hq
   cases c with
   | true=>exact oneLt_str h
   | false =>
    rw[oneLt'_eq]
    show wpAny _ _ (richCompare .Lt (.str x t) (.str y u) >>= _) _ _ _
    refine wpAny_bind (show wpAny (model prog w) A (compareOp .Lt (.str x t) (.str y u)) _ _ _ from PyProof.Rows.lt_str ?_)
    exact wpAny_pure h
theorem Znz{b:Bool}{x y:Addr}{ks ms:List Key}{its its2:List Value}(hx:IsTup s.heap x its.toArray)(hy:IsTup s.heap y its2.toArray)(rx:Zy (ks.map kV) its)(ry:Zy (ms.map kV) its2)(hs:ZaX ks=ZaX ms){Q:Bool→Shared→Prop}
  (h:Q (ZaS ks ms) s):wpAny (model prog w) A (keyLt' (tuples' b) (.ref x) (.ref y)) Q E s:=by
 obtain⟨o1,ho1,_,n1,hd1⟩:=hx
 obtain⟨o2,ho2,_,n2,hd2⟩:=hy
 show wpAny _ _ (Builtin.List.listItems (.ref x) >>= _) _ _ _
 refine wpAny_bind (ZaW ho1 hd1 (wpAny_bind (ZaW ho2 hd2 (wpAny_bind ?_))))
 have hl1:=rx.length
 have hl2:=ry.length
 have hl3:ks.length=ms.length:=by have:=congrArg List.length hs;simpa [ZaX] using this
 rw[Qb]at hl1 hl2
 refine wpAny_forIn_list _ (fun rest c s'=>c=(none,())∧s'=s∧∃ (vs ws:List Value) (k:Nat) (ks' ms':List Key),rest=(vs.zip ws).zipIdx k∧Zy (ks'.map kV) vs∧Zy (ms'.map kV) ws∧ZaX ks'=ZaX ms'∧ZaS ks ms=ZaS ks' ms') _ ?_ ?_ _ _ ⟨rfl,rfl,its,its2,0,ks,ms,by simp,rx,ry,hs,rfl⟩
 ·rintro⟨⟨p,q⟩,i⟩ rest c s' ⟨rfl,rfl,vs,ws,k,ks',ms',hz,rv,rw',hs',he⟩
  cases ks' with
  | nil=>cases rv;cases hz
  | cons k1 kr =>
   cases ms' with
   | nil=>cases hs'
   | cons m1 mr =>
    cases rv with
    | cons r1 rr =>
     cases rw' with
     | cons r1' rr' =>
      rw[Qao,List.zipIdx_cons]at hz
      injection hz with h1 h2
      injection h1 with h3 h4
      injection h3 with h5 h6
      subst h4 h5 h6
      unfold ZaX at hs'
      rw[Qe,Qe]at hs'
      injection hs' with s1 s2
      refine wpAny_bind (Znu r1 r1' s1 ?_)
      rw[ZbL]at he
      by_cases e:k1=m1
      ·rw[if_pos e]at he
       rw[decide_eq_true e]
       exact wpAny_pure ⟨rfl,rfl,_,_,_,kr,mr,h2,rr,rr',s2,he⟩
      ·rw[if_neg e]at he
       rw[decide_eq_false e]
       refine wpAny_bind (ZnQ r1 r1' s1 (wpAny_pure ?_))
       refine wpAny_pure ?_
       rw[← he];exact h
 ·rintro c s' ⟨rfl,rfl,vs,ws,k,ks',ms',hz,rv,rw',hs',he⟩
  refine wpAny_pure ?_
  have e:ZaS ks' ms'=false:=by
   cases ks' with
   | nil =>
    cases ms' with
    | nil=>rfl
    | cons _ _=>cases hs'
   | cons k1 kr =>
    cases ms' with
    | nil=>cases hs'
    | cons m1 mr =>
     cases rv with
     | cons r1 rr =>
      cases rw' with
      | cons r1' rr'=>rw[Qao,List.zipIdx_cons]at hz;cases hz
  rw[e]at he
  rw[he]at h
  have e2:decide (its.toArray.size<its2.toArray.size)=false:=decide_eq_false (by rw[Qs,Qs];omega)
  rw[e2];exact h
end
section
variable {prog:Program} {w:World} {A:Around} {E:Value→Shared→Prop} {s:Shared}
theorem w_mapM{M:Model}{α β:Type}{f:α→Sem β}(R:α→β→Prop):∀ (l:List α) {Q:List β→Shared→Prop},(∀v∈l,∃r,R v r∧∀ (Q':β→Shared→Prop),Q' r s→wpAny M A (f v) Q' E s)→(∀rs,rs.length=l.length→(∀r∈rs,∃v∈l,R v r)→Q rs s)→wpAny M A (List.mapM f l) Q E s
 | [],Q,_,q=>by rw[List.mapM_nil];exact wpAny_pure (q [] rfl (fun r h=>by cases h))
 | a::l,Q,h,q=>by
  rw[List.mapM_cons]
  obtain⟨r,hr,hw⟩:=h a (by simp)
  refine wpAny_bind (hw _ (wpAny_bind (w_mapM R l (fun v hv=>h v (Qi _ hv)) fun rs hl hrs=>wpAny_pure (q (r::rs) (by simp[hl]) fun z hz=>?_))))
  rcases Qz.mp hz with rfl|hz
  ·exact⟨a,by simp,hr⟩
  ·obtain⟨v,hv,hR⟩:=hrs z hz
   exact⟨v,Qi _ hv,hR⟩
theorem w_mapA{M:Model}{α β:Type}{f:α→Sem β}(R:α→β→Prop)(l:Array α){Q:Array β→Shared→Prop}(h:∀v∈l.toList,∃r,R v r∧∀ (Q':β→Shared→Prop),Q' r s→wpAny M A (f v) Q' E s)(q:∀rs:Array β,(∀r∈rs.toList,∃v∈l.toList,R v r)→Q rs s):wpAny M A (Array.mapM f l) Q E s:=by
 rw[Array.mapM_eq_mapM_toList,map_eq_pure_bind]
 exact wpAny_bind (w_mapM R l.toList h fun rs _ hr=>wpAny_pure (q rs.toArray (by simpa using hr)))
theorem ZjI{a:Addr}{its:List Value}(ht:IsTup s.heap a its.toArray){Q:Option Value→Shared→Prop}(q:Q its[0]? s):wpAny (model prog w) A (firstOfTuple' (.ref a)) Q E s:=by
 obtain⟨o,ho,hc,n,hd⟩:=id ht
 show wpAny _ _ (typeOf (.ref a) >>= _) _ _ _
 refine wpAny_bind (wpAny_typeOf ht.typeIs ?_)
 rw[if_neg (by decide)]
 refine wpAny_bind (ZaW ho hd (wpAny_pure ?_))
 simpa using q
theorem Zkx{k:Key}{v:Value}(h:Zw (kV k) v){Q:Value→Shared→Prop}(q:Q (.type (if k.isLeft then "int" else "str")) s):wpAny (model prog w) A (typeOf v) Q E s:=by
 cases k with
 | inl i=>obtain⟨t,rfl⟩:=h;exact wpAny_typeOf (T := "int") rfl q
 | inr x=>obtain⟨t,rfl⟩:=h;exact wpAny_typeOf (T := "str") rfl q
theorem ZkC{vs:List Value}(h:∀v∈vs,∃ (a:Addr) (its:List Value) (k:Key) (v0:Value),v=.ref a∧IsTup s.heap a its.toArray∧its[0]? = some v0∧Zw (kV k) v0){Q:SortKind→Shared→Prop}(q:∀b,Q (tuples' b) s):wpAny (model prog w) A (keyKind' vs.toArray) Q E s:=by
 rw[keyKind'_eq]
 refine wpAny_bind (w_mapA (fun _ r=>∃ (k:Key) (v0:Value),r=some v0∧Zw (kV k) v0) _ (fun v hv=>?_) fun firsts hf=>?_)
 ·obtain⟨a,its,k,v0,rfl,ht,h0,hr⟩:=h v (by simpa using hv)
  exact⟨its[0]?,⟨k,v0,h0,hr⟩,fun Q' q'=>ZjI ht q'⟩
 ·have hall:(firsts.all fun x=>x.isSome)=true:=by
   rw[Array.all_eq_true]
   intro i hi
   obtain⟨v,_,k,v0,e,_⟩:=hf firsts[i] (by simp)
   rw[e];rfl
  rw[if_pos hall]
  refine wpAny_bind (wpAny_rule (wpAny_bind ?_))
  rw[oneTypeOnly'_eq]
  refine wpAny_bind (w_mapA (fun _ _=>True) _ (fun v hv=>?_) fun ts _=>?_)
  ·have hv':v∈(Array.filterMap id firsts).toList:=hv
   rw[Array.toList_filterMap]at hv'
   obtain⟨o,ho,eo⟩:=List.mem_filterMap.mp hv'
   obtain⟨_,_,k,v0,e,hr⟩:=hf o ho
   have e2:v0=v:=by
    have:o=some v:=eo
    rw[e]at this;exact Qo this
   subst e2
   exact⟨_,trivial,fun Q' q'=>Zkx hr q'⟩
  ·split
   ·exact wpAny_pure (wpAny_pure (q _))
   ·exact wpAny_pure (wpAny_pure (q _))
theorem w_sort0{a:Addr}{vs:List Value}{n:Nat}{P:PySem.Fin→Shared→Prop}(ha:s.heap.get? a=some (seqObj "list" vs.toArray n))(h2:vs.length<2)
  (q:P (Fin.done (Flow.ret Value.none)) { s with heap:=sortedHeap s.heap a vs ((pairsOf vs).map fun x=>x.snd) }) :
  wpAny (model prog w) A (Builtin.«list.sort» { pos:=[.ref a] }) P E s:=by
 have hz:vs.toArray.size≤sizeLine:=by rw[Qs,sizeLine_eq];omega
 rw[list_sort_plain]
 refine wpAny_bind (ZaW ha rfl ?_)
 show wpAny _ _ (updateSeq a (fun x=>#[]) >>= _) _ _ _
 refine wpAny_bind (wpAny_updateSeq ha rfl ?_ hz (by show 0≤_;omega))
 have e1:=get?_update_seq ha (fun _=>#[])
 refine wpAny_bind (seqEpoch_at e1 rfl ?_)
 refine wpAny_bind (wpAny_newTuple ?_ (by simpa using hz))
 refine wpAny_bind (wpAny_newList ?_ (by show 0≤_;omega))
 refine wpAny_holding ?_
 have hn2:vs.toArray.size<2:=by rw[Qs];omega
 have hps:(pairsOf vs).size=vs.length:=by unfold pairsOf;simp
 rw[if_pos hn2,if_pos hn2]
 have e2:(((s.heap.update a (Obj.mapSeq fun _=>#[])).push { cls:=.type "tuple",data:=.seq vs.toArray.toList.toArray }).push { cls:=.type "list",data:=.seq ([]:List Value).toArray }).get? a=some (seqObj "list" #[] _):=Qc _ (Qc _ e1)
 refine wpAny_bind (wpAny_pure ?_)
 show wpAny _ _ (pure ((),SortSt.mk' general' (vs.toArray.zip vs.toArray) #[] 7 none) >>= _) _ _ _
 refine wpAny_bind (wpAny_pure ?_)
 refine wpAny_bind (seqEpoch_at e2 rfl ?_)
 have hsz:((pairsOf vs).map fun x=>x.snd).size=vs.length:=by rw[Array.size_map,hps]
 show wpAny _ _ (updateSeq a (fun x=>(pairsOf vs).map fun x=>x.snd) >>= _) _ _ _
 refine wpAny_bind (wpAny_updateSeq e2 rfl ?_ (by show 0≤_;omega) (by show ((pairsOf vs).map fun x=>x.snd).size≤_;rw[hsz];rw[Qs]at hz;omega))
 show wpAny _ _ (if _ then _ else _) _ _ _
 rw[if_neg (by simp)]
 exact wpAny_pure q
theorem w_sorted0{l:Addr}{vs:List Value}{Q:Value→Shared→Prop}(hl:s.heap.IsList l vs.toArray)(h2:vs.length<2)
  (q:Q (.ref (s.heap.objs.size+1)) { s with heap:=sortedAll s.heap vs ((pairsOf vs).map fun x=>x.snd) }) :
  wpAny (model prog w) A (call (.builtin "sorted") [.ref l]) Q E s:=by
 refine Calls.call_function_entry kind_sorted plain_sorted entry_sorted (args_sorted1 (.ref l)) ?_
 have hz:vs.length≤sizeLine:=by rw[sizeLine_eq];omega
 refine wpAny_bind (wpAny_pure (wpAny_bind (collect_list hl (wpAny_bind (wpAny_newList ?_ hz)) hz)))
 have hsz:((s.heap.push (seqObj "list" #[] 0)).update s.heap.objs.size (Obj.mapSeq fun x=>x++vs.toArray)).objs.size=s.heap.objs.size+1:=by rw[Heap.size_update,size_push']
 have hoL:((((s.heap.push (seqObj "list" #[] 0)).update s.heap.objs.size (Obj.mapSeq fun x=>x++vs.toArray)).push (seqObj "list" vs.toArray 0)).get? (s.heap.objs.size+1))=some (seqObj "list" vs.toArray 0):=by
  rw[← hsz];exact Qt _ rfl
 show wpAny _ _ (holding [.ref ((s.heap.push (seqObj "list" #[] 0)).update s.heap.objs.size (Obj.mapSeq fun x=>x++vs.toArray)).objs.size] (call (.builtin "list.sort") [.ref ((s.heap.push (seqObj "list" #[] 0)).update s.heap.objs.size (Obj.mapSeq fun x=>x++vs.toArray)).objs.size]) >>= fun _=>ret (.ref ((s.heap.push (seqObj "list" #[] 0)).update s.heap.objs.size (Obj.mapSeq fun x=>x++vs.toArray)).objs.size)) _ _ _
 rw[hsz]
 refine wpAny_bind (wpAny_holding (wpAny_call_entry slot_list_sort ⟨_,hoL,rfl⟩ entry_list_sort ?_ (args_list_sort _)))
 exact w_sort0 hoL h2 ⟨_,rfl,wpAny_pure ⟨_,rfl,q⟩⟩
end
theorem Zg3{α β:Type}(f:α→β){l m:List β}(h:l.Perm m):∀ts:List α,m=ts.map f→∃ts':List α,ts'.Perm ts∧l=ts'.map f:=by
 induction h with
 | nil =>
  intro ts e
  have:ts=[]:=by cases ts with
   | nil=>rfl
   | cons _ _=>cases e
  subst this
  exact⟨[],.nil,rfl⟩
 | cons x _ ih =>
  intro ts e
  cases ts with
  | nil=>cases e
  | cons a r =>
   rw[Qe]at e
   injection e with e1 e2
   obtain⟨ts',p,e3⟩:=ih r e2
   exact⟨a::ts',p.cons a,by rw[Qe,e1,e3]⟩
 | swap x y l =>
  intro ts e
  cases ts with
  | nil=>cases e
  | cons a r =>
   cases r with
   | nil=>cases e
   | cons b r =>
    rw[Qe,Qe]at e
    injection e with e1 e2
    injection e2 with e2 e3
    exact⟨b::a::r,.swap a b r,by rw[Qe,Qe,e1,e2,e3]⟩
 | trans _ _ ih1 ih2 =>
  intro ts e
  obtain⟨ts2,p2,e2⟩:=ih2 ts e
  obtain⟨ts1,p1,e1⟩:=ih1 ts2 e2
  exact⟨ts1,p1.trans p2,e1⟩
theorem Zg5{α:Type}:∀l:List α,l.zip l=l.map fun v=>(v,v)
 | []=>rfl
 | a::r=>by rw[Qao,Zg5 r];rfl
abbrev ZdP:=List (Addr×List Key)
def ZcC(ts:ZdP):List V:=ts.map fun t=>V.ref t.1
def AtT(H:Hp)(ts:ZdP):Prop:=∀t∈ts,H t.1=some (.tup (t.2.map kV))
theorem ZfK:∀ {ts:ZdP} {us:List Value},Zy (ZcC ts) us→us=ts.map fun t=>Value.ref t.1
 | [],_,h=>by cases h;rfl
 | t::r,_,h=>by
  cases h with
  | cons a b=>rw[ZfK b];cases a;rfl
theorem Zfm:∀ts:ZdP,Zy (ZcC ts) (ts.map fun t=>Value.ref t.1)
 | []=>.nil
 | t::r=>.cons rfl (Zfm r)
def rSrtT(K:PySem.W.Frag):List V→Hp→VK→Prop:=fun xs H Q=>∃ (p:Addr) (ts:ZdP) (sh:List Bool),xs=[.ref p]∧SqL K H p (ZcC ts)∧AtT H ts∧sh≠[]∧(∀t∈ts,ZaX t.2=sh)∧ts.length<64 ∧
 ∀ (l:Addr) (ts':ZdP),H l=none→ts'.Perm ts→ts'.Pairwise (fun a b=>ZaS b.2 a.2=false)→Q (.ref l) (upd H l (.lst (ZcC ts')))
section
open PySem.SeqAt
open PySem.AutoSeq1 (wpAny_loadPart')
open PySem.MeetsSeq PySem.MeetsSeq2 PySem.MeetsSeq3
end
section
variable {prog:Program} {w:World} {A:Around} {E:Value→Shared→Prop} {s:Shared}
end
section
variable {prog:Program} {w:World}
end
section
variable {X:Cx}
def rMinT(K:PySem.W.Frag):List V→Hp→VK→Prop:=fun vs H Q=>∃ (p:Addr) (ts:ZdP) (sh:List Bool),vs=[.ref p]∧SqL K H p (ZcC ts)∧AtT H ts∧ts≠[]∧(∀t∈ts,ZaX t.2=sh) ∧
 ∀t:Addr×List Key,t∈ts→(∀u∈ts,ZaS u.2 t.2=false)→Q (.ref t.1) H
def tMinD(K:PySem.W.Frag)(te:TA):TE:=fun σ H Q=>te σ H fun vs H1=>∃ (p:Addr) (ts:ZdP) (sh:List Bool),vs=[.ref p]∧SqL K H1 p (ZcC ts)∧AtT H1 ts∧(∀t∈ts,ZaX t.2=sh)∧(ts=[]→Q .non H1) ∧
 ∀t:Addr×List Key,t∈ts→(∀u∈ts,ZaS u.2 t.2=false)→Q (.ref t.1) H1
end
def EqS(s:Shared)(items:List Value)(v:Value)(e:Nat→Bool):Prop:=∀ (prog:Program) (w:World) (A:Around) (E:Value→Shared→Prop) (Q:Bool→Shared→Prop) (m:Nat) (x:Value),A.units+2<cLine→items[m]? = some x→Q (e m) s→wpAny (model prog w) A (eqBool x v) Q E s
section
variable {X:Cx}
def rRemI:V→List V→Hp→VK→Prop:=fun x vs H Q=>∃ (l:Addr) (ns:List Int) (n:Int),x=.ref l∧vs=[.int n]∧H l=some (.lst (ns.map V.int))∧n∈ns∧ns.length≤1000∧Q .non (upd H l (.lst ((ns.erase n).map V.int)))
def rRemT:V→List V→Hp→VK→Prop:=fun x vs H Q=>∃ (l:Addr) (ts:ZdP) (t:Addr×List Key),x=.ref l∧vs=[.ref t.1]∧H l=some (.lst (ZcC ts))∧AtT H ts∧t∈ts∧ts.length≤1000∧∀ (i:Nat) (hi:i<ts.length),ts[i].2=t.2→Q .non (upd H l (.lst (ZcC (ts.eraseIdx i))))
end
section
open PySem.SeqAt
open PySem.AutoSeq1 (wpAny_loadPart')
open PySem.MeetsSeq PySem.MeetsSeq2 PySem.MeetsSeq3
end
section
variable {prog:Program} {w:World} {A:Around} {E:Value→Shared→Prop} {s:Shared}
end
section
variable {X:Cx}
def rGeK(K:PySem.W.Frag):R2:=fun x y H Q=>∃ (a b:Addr) (ks ms:List Key),x=.ref a∧y=.ref b∧SqT K H a (ks.map kV)∧SqT K H b (ms.map kV)∧ZaX ks=ZaX ms∧Q (.bl (!ZaS ks ms)) H
end
def rMaxL(K:PySem.W.Frag):List V→Hp→VK→Prop:=fun vs H Q=>∃ (p:Addr) (ns:List Int),vs=[.ref p]∧SqL K H p (ns.map V.int)∧0<ns.length∧∀M,M∈ns→(∀a∈ns,a≤M)→Q (.int M) H
def isNum(n:Int):Value→Bool
 | .int a _=>a == n
 | _=>false
section
variable {X:Cx}
def rCountI:V→List V→Hp→VK→Prop:=fun x vs H Q=>∃ (l:Addr) (ns:List Int) (n:Int),x=.ref l∧vs=[.int n]∧H l=some (.lst (ns.map V.int))∧Q (.int ((ns.count n:Nat):Int)) H
end
section
variable {X:Cx} {T name id:String} {r:V→List V→Hp→VK→Prop} {o e:Expr} {es:List Expr} {to:TE} {t:TA} {apos cpos:Pos}
end
def Zpx(s:Shared)(items:List Value)(v:Value)(e:Nat→Bool):Prop:=∀ (prog:Program) (w:World) (A:Around) (E:Value→Shared→Prop) (Q:Bool→Shared→Prop) (m:Nat) (x:Value),A.units+60<cLine→items[m]? = some x→Q (e m) s→wpAny (model prog w) A (eqBool x v) Q E s
section
variable {X:Cx}
def rRemD(K:PySem.W.Frag):V→List V→Hp→VK→Prop:=fun x vs H Q=>∃ (l:Addr) (xs:List V) (ds:List PyData) (y:V) (d:PyData) (i:Nat),x=.ref l∧vs=[y]∧H l=some (.lst xs)∧DVs K H xs ds∧DV K H y d∧(∀e∈ds,e.canLay0=true)∧d.canLay0=true∧d.depth≤56∧xs.length≤1000 ∧
 i<ds.length∧(∀e,ds[i]? = some e→PyData.eqv e d=true)∧(∀m e,m<i→ds[m]? = some e→PyData.eqv e d=false)∧Q .non (upd H l (.lst (xs.eraseIdx i)))
def rInD(K:PySem.W.Frag):R2:=fun x y H Q=>∃ (l:Addr) (xs:List V) (ds:List PyData) (d:PyData),y=.ref l∧SqL K H l xs∧DVs K H xs ds∧DV K H x d∧PyData.canLayAll0 ds=true∧SeqAt.shaped d=true∧d.depth≤60∧Q (.bl (ds.any fun e=>PyData.eqv e d)) H
def ZmB(K:PySem.W.Frag):List V→Hp→VK→Prop:=fun vs H Q=>∃ (p:Addr) (ns:List Int),vs=[.ref p]∧SqL K H p (ns.map V.int)∧ns.length≤1000∧(∀n∈ns,0≤n∧n≤10000000000000)∧Q (.int ns.sum) H
theorem Zjt(hc:X.calm=true):Zap X (.builtin "sum") (ZmB X.K):=by
 intro pins s σ H vs us Q I r h
 obtain⟨p,ns,rfl,hq,hn,hb,q⟩:=h
 obtain⟨u,rfl,rx⟩:=Zcj r
 cases rx
 obtain⟨its,rv,pl,_⟩:=I.list hq
 have hi:=ZhU rv
 obtain⟨xs,e⟩:=hi.allInts.items
 have hns:ns=xs.toList.map (·.1):=by rw[← hi.numsOf,← nums_intItems,← e]
 have hsz:xs.size=ns.length:=by rw[hns,Qb,Qy]
 have hnum:numAt xs=fun j=>ns.getD j 0:=by funext j;rw[numAt_eq,hns]
 have hl:=pl.isList
 rw[e]at hl
 have bound:∀n,n≤ns.length→0≤(ns.take n).sum∧(ns.take n).sum≤10000000000000*n:=by
  intro n
  induction n with
  | zero=>intro _;exact⟨by simp,by simp⟩
  | succ n ih =>
   intro h
   have ih:=ih (by omega)
   have hm:=hb ns[n] (QS (by omega))
   have e2:ns.take (n+1)=ns.take n++[ns[n]]:=by rw[Qaa,Qa (by omega)];rfl
   rw[e2,List.sum_append]
   have e3:([ns[n]]:List Int).sum=ns[n]:=by simp
   rw[e3]
   omega
 refine sum_intList (I.ok.hd hc) hl (fun j hj=>?_) fun h' tk t' hk=>⟨.int _,H,I.kept hk,⟨t',rfl⟩,?_⟩
 ·rw[hnum]
  have hm:=hb ns[j] (QS (by omega))
  have hg:ns.getD j 0=ns[j]:=by rw[QC,Qa (by omega)];rfl
  have hp:=bound (j+1) (by omega)
  refine⟨⟨?_,?_⟩,⟨?_,?_⟩⟩
  ·show -(2 ^ 63)≤ns.getD j 0
   rw[hg];omega
  ·show ns.getD j 0<2 ^ 63
   rw[hg];omega
  ·rw[ZdG ns (j+1) (by omega)];omega
  ·rw[ZdG ns (j+1) (by omega)];omega
 ·rw[hnum,hsz,ZdG ns ns.length (Qf _),Qx (Qf _)]
  exact q
theorem Zpa(K:PySem.W.Frag)(hc:X.calm=true:=by rfl)(h:X.K=K:=by rfl):Zap X (.builtin "sum") (ZmB K):=by subst h;exact Zjt hc
end
section
variable {X:Cx}
def rIxD:R2:=fun x y H Q=>∃d kvs b ks v,x=.ref d∧y=.ref b∧H d=some (.dT kvs)∧H b=some (.tup (ks.map kV))∧ZgC kvs ks=some v∧Q v H
def rSetDT:ZjF:=fun o i v H Q=>∃d kvs b ks,o=.ref d∧i=.ref b∧H d=some (.dT kvs)∧H b=some (.tup (ks.map kV))∧ZgC kvs ks=none∧kvs.length<sizeLine∧Q (upd H d (.dT (kvs++[(ks,v)])))
end
abbrev IsZipG(h:Heap)(z TI TO:Addr)(f0:Value)(fl:Bool):Prop :=
 h.get? z=some { cls:=.type "zip",dict:=none,data:=.fields #[f0,.bool fl,.bool false,.ref TI,.ref TO],slots:=#[] }
section
variable {prog:Program} {w:World} {A:Around} {E:Value→Shared→Prop} {s:Shared}
end
section
variable {prog:Program} {w:World} {A:Around} {R:Result→Shared→Prop} {s:Shared}
end
def ZlB(J:It)(D:Addr)(ys:List V)(σ:St)(H:Hp)(g:TG)(te:TE)(N:List V→St→Hp→Prop):Prop :=
 ∃W:Nat→Nat→List V→St→Hp→Prop,(∃m,W 0 m ys σ H) ∧
  ∀i m ys σ2 H2,W i m ys σ2 H2→(J.stop i H2∧N ys σ2 H2) ∨
   (J.go i H2∧∃N2:List V→St→Hp→Prop,(∀ys' σ' H',N2 ys' σ' H'→∃m',m'<m∧W (i+1) m' ys' σ' H')∧∀x H3,J.yld i H2 x H3→g x σ2 H3 fun σ4 H4 =>
    te σ4 H4 fun y H6=>H6 D=some (.lst ys)∧ys.length<sizeLine∧N2 (ys++[y]) σ4 (upd H6 D (.lst (ys++[y]))))
def Zlw(J:It)(D:Addr)(k:Nat)(σ:St)(H1:Hp)(g:TG)(wi2:TI)(g2:TG)(te:TE)(Q:VK):Prop :=
 ∃W:Nat→Nat→List V→St→Hp→Prop,(∃m,W 0 m [] (σ++List.replicate k none) (upd H1 D (.lst []))) ∧
  ∀i m ys σ2 H2,W i m ys σ2 H2→(J.stop i H2∧Q (.ref D) H2) ∨
   (J.go i H2∧∃N:List V→St→Hp→Prop,(∀ys' σ' H',N ys' σ' H'→∃m',m'<m∧W (i+1) m' ys' σ' H')∧∀x H3,J.yld i H2 x H3→g x σ2 H3 fun σ4 H4=>wi2 σ4 H4 fun J2 H5=>ZlB J2 D ys σ4 H5 g2 te N)
def Zph(n:Nat)(wi:TI)(g:TG)(wi2:TI)(g2:TG)(te:TE):TE:=fun σ H Q=>wi σ H fun J H1=>∀D,H1 D=none→Zlw J D n σ H1 g wi2 g2 te Q
section
variable {X:Cx} {N N':List Str} {o c:Scope}
end
end L2
namespace Hf
open L2
abbrev PW:=List (Int×Nat)
def val(P:PW):Int:=(P.map fun p=>p.1*(p.2:Int)).sum
def ws(P:PW):List Int:=P.map (·.1)
def ds(P:PW):List Nat:=P.map (·.2)
def zs(z:Nat):List Int:=List.replicate z 0
def kr(w E:Nat)(D:List Nat):Nat:=(D.map fun d=>w ^ (E-d)).sum
def Kr(w:Nat)(D:List Nat):Prop:=∃E,(∀d∈D,d≤E)∧kr w E D=w ^ E
inductive Hu (w:Nat):List Int→Nat→Int→Prop
 | stop {e:Int} {m:Nat}:Hu w [e] m 0
 | step {E L:List Int} {m:Nat} {C:Int}:1<L.length→E.Perm L→L.Pairwise (·≤·)→Hu w (L.drop m++[(L.take m).sum]) w C→Hu w E m (C+(L.take m).sum)
def Fit(w n m:Nat):Prop:=n=1∨∃t,n=m+t*(w-1)
structure Fits (w n m:Nat):Prop where
 w2:2≤w
 m2:2≤m
 mw:m≤w
 ok:Fit w n m
end Hf
namespace L2
open PySem PySem.Spec PyProof.Rows
section
variable {prog:Program} {w:World} {A:Around} {R:Result→Shared→Prop} {s:Shared}
end
def Znc(J:It)(D:Addr)(k:Nat)(σ:St)(H1:Hp)(g:TG)(tc:TT)(tk te:TE)(Q:VK):Prop :=
 ∃W:Nat→Nat→List (List Key×V)→St→Hp→Prop,(∃m,W 0 m [] (σ++List.replicate k none) (upd H1 D (.dT []))) ∧
  ∀i m ys σ2 H2,W i m ys σ2 H2→(J.stop i H2∧Q (.ref D) H2) ∨
   (J.go i H2∧∃N:List (List Key×V)→St→Hp→Prop,(∀ys' σ' H',N ys' σ' H'→∃m',m'<m∧W (i+1) m' ys' σ' H')∧∀x H3,J.yld i H2 x H3→g x σ2 H3 fun σ4 H4=>tc σ4 H4 fun b H5 =>
    if b=true then tk σ4 H5 fun kv H6=>te σ4 H6 fun y H7=>∃ (b:Addr) (ks:List Key),kv=.ref b∧H7 D=some (.dT ys)∧H7 b=some (.tup (ks.map kV))∧ZgC ys ks=none∧ys.length<sizeLine∧N (ys++[(ks,y)]) σ4 (upd H7 D (.dT (ys++[(ks,y)]))) else N ys σ4 H5)
def tDComp(n:Nat)(wi:TI)(g:TG)(tc:TT)(tk te:TE):TE:=fun σ H Q=>wi σ H fun J H1=>∀D,H1 D=none→Znc J D n σ H1 g tc tk te Q
section
variable {X:Cx} {N N':List Str} {o c:Scope}
end
section
variable {κ:Type} [DecidableEq κ]
def Za0(kvs:List (κ×V))(k:κ):Option V:=(kvs.find? fun kv=>decide (kv.1=k)).map (·.2)
def Zce(kvs:List (κ×V))(k:κ)(v:V):List (κ×V) :=
 if (kvs.any fun kv=>decide (kv.1=k))=true then kvs.map (fun kv=>if kv.1=k then (kv.1,v) else kv) else kvs++[(k,v)]
def ZiB(kvs:List (κ×V))(k:κ):List (κ×V):=kvs.filter fun kv=>decide (kv.1≠k)
theorem Zop{k:κ}:Za0 ([]:List (κ×V)) k=none:=rfl
theorem ZcB{p:κ×V}{r:List (κ×V)}{k:κ}(e:p.1=k):Za0 (p::r) k=some p.2:=by simp[Za0,List.find?_cons,e]
theorem Zcy{p:κ×V}{r:List (κ×V)}{k:κ}(e:¬ p.1=k):Za0 (p::r) k=Za0 r k:=by simp[Za0,List.find?_cons,e]
theorem Ze0(k:κ):∀kvs:List (κ×V),(kvs.any fun kv=>decide (kv.1=k))=(Za0 kvs k).isSome
 | []=>rfl
 | p::r=>by
  rw[QaH]
  by_cases e:p.1=k
  ·simp only[ZcB e,decide_eq_true e,Bool.true_or,Option.isSome_some]
  ·rw[Zcy e,decide_eq_false e,Bool.false_or];exact Ze0 k r
theorem Zef(kvs:List (κ×V))(k:κ)(v:V):(Zce kvs k v).length≤kvs.length+1:=by
 unfold Zce
 split
 ·rw[Qb];omega
 ·rw[Qd,QH,List.length_nil];omega
theorem ZkU{kvs:List (κ×V)}{k:κ}(v:V)(h:Za0 kvs k=none):Zce kvs k v=kvs++[(k,v)]:=by
 unfold Zce
 rw[Ze0,h]
 exact if_neg (by decide)
theorem Zcl.isSome_eq{o:Option V}{u:Option Value}(r:Zcl o u):o.isSome=u.isSome:=by
 cases o with
 | none=>cases u with
  | none=>rfl
  | some _=>exact(show False from r).elim
 | some _=>cases u with
  | none=>exact(show False from r).elim
  | some _=>rfl
theorem Zcl.getD{o:Option V}{u:Option Value}{d:V}{d':Value}(r:Zcl o u)(rd:Zw d d'):Zw (o.getD d) (u.getD d'):=by
 cases o with
 | none=>cases u with
  | none=>exact rd
  | some _=>exact(show False from r).elim
 | some _=>cases u with
  | none=>exact(show False from r).elim
  | some _=>exact r
theorem KV.val{kvs:List (κ×V)}{vs:List (κ×Value)}(r:KV kvs vs)(k:κ):Zcl (Za0 kvs k) (valueAt vs k):=by
 unfold KV at r
 induction r with
 | nil=>exact True.intro
 | @cons p q ps qs h t ih =>
  obtain⟨h1,h2⟩:=h
  by_cases e:p.1=k
  ·have e':q.1=k:=h1.symm.trans e
   have b:valueAt (q::qs) k=some q.2:=by simp[valueAt,List.find?_cons,e']
   rw[ZcB e,b];exact h2
  ·have e':¬ q.1=k:=fun z=>e (h1.trans z)
   have b:valueAt (q::qs) k=valueAt qs k:=by simp[valueAt,List.find?_cons,e']
   rw[Zcy e,b];exact ih
theorem KV.any{kvs:List (κ×V)}{vs:List (κ×Value)}(r:KV kvs vs)(k:κ):(kvs.any fun kv=>decide (kv.1=k))=vs.any fun kv=>decide (kv.1=k):=by
 unfold KV at r
 induction r with
 | nil=>rfl
 | cons h t ih=>rw[QaH,QaH,ih,h.1]
theorem KV.repl{kvs:List (κ×V)}{vs:List (κ×Value)}(r:KV kvs vs)(k:κ){y:V}{u:Value}(ry:Zw y u) :
  KV (kvs.map fun kv=>if kv.1=k then (kv.1,y) else kv) (vs.map fun kv=>if kv.1=k then (kv.1,u) else kv):=by
 unfold KV at r ⊢
 induction r with
 | nil=>exact .nil
 | @cons p q ps qs h t ih =>
  rw[Qe,Qe]
  refine .cons ?_ ih
  obtain⟨h1,h2⟩:=h
  by_cases e:p.1=k
  ·rw[if_pos e,if_pos (h1.symm.trans e)];exact⟨h1,ry⟩
  ·rw[if_neg e,if_neg (fun z=>e (h1.trans z))];exact⟨h1,h2⟩
theorem KV.put{kvs:List (κ×V)}{vs:List (κ×Value)}(r:KV kvs vs)(k:κ){y:V}{u:Value}(ry:Zw y u):KV (Zce kvs k y) (stored vs k u):=by
 unfold Zce stored
 rw[r.any k]
 by_cases e:(vs.any fun kv=>decide (kv.1=k))=true
 ·rw[if_pos e,if_pos e];exact r.repl k ry
 ·rw[if_neg e,if_neg e];exact Paired.snoc r ⟨rfl,ry⟩
theorem KV.length{kvs:List (κ×V)}{vs:List (κ×Value)}(r:KV kvs vs):kvs.length=vs.length:=Paired.length r
end
theorem Zib{P:Program}{w:World}{k:Key}{u:Value}(r:Zw (kV k) u):(ZP P w).is k u=true:=by
 cases k with
 | inl i=>obtain⟨t,e⟩:=(show ∃t,u=Value.int i t from r);subst e;exact ZgX P w i t
 | inr x=>obtain⟨t,e⟩:=(show ∃t,u=Value.str x t from r);subst e;exact Zgy P w x t
theorem Zfp{P:Program}{w:World}:∀ {ks:List Key} {us:List Value},Zy (ks.map kV) us→ItemsAre (ZP P w) ks us
 | [],_,r=>by rw[List.map_nil]at r;cases r;exact .nil
 | k::ks,_,r=>by
  rw[Qe]at r
  cases r with
  | cons h t=>exact .cons (Zib h) (Zfp t)
abbrev KT(H:Hp):List (List Key×V)→List (List Key×Addr×Value)→Prop:=Paired fun p q=>p.1=q.1∧H q.2.1=some (.tup (p.1.map kV))∧Zw p.2 q.2.2
theorem KT.val{H:Hp}{kvs:List (List Key×V)}{xs:List (List Key×Addr×Value)}(r:KT H kvs xs)(k:List Key):Zcl (Za0 kvs k) ((atKey xs k).map (·.2)):=by
 induction r with
 | nil=>exact True.intro
 | @cons p q ps qs h t ih =>
  obtain⟨h1,_,h2⟩:=h
  by_cases e:p.1=k
  ·have e':q.1=k:=h1.symm.trans e
   have b:atKey (q::qs) k=some q.2:=by simp[atKey,List.find?_cons,e']
   rw[ZcB e,b];exact h2
  ·have e':¬ q.1=k:=fun z=>e (h1.trans z)
   have b:atKey (q::qs) k=atKey qs k:=by simp[atKey,List.find?_cons,e']
   rw[Zcy e,b];exact ih
theorem KT.repl{H:Hp}{kvs:List (List Key×V)}{xs:List (List Key×Addr×Value)}(r:KT H kvs xs)(k:List Key){y:V}{u:Value}(ry:Zw y u) :
  KT H (kvs.map fun kv=>if kv.1=k then (kv.1,y) else kv) (xs.map (putAt k u)):=by
 induction r with
 | nil=>exact .nil
 | @cons p q ps qs h t ih =>
  rw[Qe,Qe]
  refine .cons ?_ ih
  obtain⟨h1,h2,h3⟩:=h
  unfold putAt
  by_cases e:p.1=k
  ·rw[if_pos e,if_pos (h1.symm.trans e)];exact⟨h1,h2,ry⟩
  ·rw[if_neg e,if_neg (fun z=>e (h1.trans z))];exact⟨h1,h2,h3⟩
theorem KT.put{H:Hp}{kvs:List (List Key×V)}{xs:List (List Key×Addr×Value)}(r:KT H kvs xs)(k:List Key){b:Addr}{y:V}{u:Value}(hb:H b=some (.tup (k.map kV)))(ry:Zw y u) :
  KT H (Zce kvs k y) (storedH xs k b u):=by
 have e:(kvs.any fun kv=>decide (kv.1=k))=(atKey xs k).isSome:=by
  rw[Ze0,(r.val k).isSome_eq,Option.isSome_map]
 unfold Zce storedH
 rw[e]
 by_cases q:(atKey xs k).isSome=true
 ·rw[if_pos q,if_pos q];exact r.repl k ry
 ·rw[if_neg q,if_neg q];exact Paired.snoc r ⟨rfl,hb,ry⟩
theorem KT.keeps{H H':Hp}{kvs:List (List Key×V)}{xs:List (List Key×Addr×Value)}(r:KT H kvs xs)(ht:∀b ys,H b=some (.tup ys)→H' b=some (.tup ys)):KT H' kvs xs :=
 Paired.mapP r fun _ _ z=>⟨z.1,ht _ _ z.2.1,z.2.2⟩
section
variable {P:Program} {w:World} {H:Hp} {h:Heap} {a:Addr}
theorem ZmI{u:HO}(ok:HOk P w H h)(e:Rd H a u):Z3 P w H h a u:=e.ok ok
theorem Zft{kvs:List (Key×V)}(ok:HOk P w H h)(e:Rd H a (.dK kvs)):kvs.length≤sizeLine∧(a == sysModules)=false∧∃vs,KV kvs vs∧h.DictOf (ZP P w) a vs :=
 show Z3 P w H h a (.dK kvs) from ZmI ok e
theorem Zn6{kvs:List (Key×V)}(ok:HOk P w H h)(e:H a=some (.dK kvs)):kvs.length≤sizeLine∧(a == sysModules)=false∧∃vs,KV kvs vs∧h.DictOf (ZP P w) a vs:=Zft ok (.inl e)
theorem ZfV{ks:List Key}(ok:HOk P w H h)(e:H a=some (.tup (ks.map kV))):(tupleKind (ZP P w)).is h ks a:=by
 obtain⟨_,its,r,o,h1,h2,n,h3⟩:=(show Z3 P w H h a (.tup (ks.map kV)) from ok a _ e)
 exact⟨o,its.toArray,n,h1,h2,h3,by simpa using Zfp r⟩
theorem ZgY{kvs:List (List Key×V)}(ok:HOk P w H h)(e:Rd H a (.dT kvs)):kvs.length≤sizeLine∧(a == sysModules)=false ∧
  ∃xs,KT H kvs xs∧h.DictOfH (tupleKind (ZP P w)) a xs:=by
 obtain⟨z,y,xs,r,o,es,ep,h1,h2,h3,h4,h5⟩:=(show Z3 P w H h a (.dT kvs) from ZmI ok e)
 refine⟨z,y,xs,r,o,es,ep,h1,h2,h3,h4,fun x hx=>?_,h5⟩
 have all:∀ {l:List (List Key×V)} {m:List (List Key×Addr×Value)},KT H l m→∀x∈m,(tupleKind (ZP P w)).is h x.1 x.2.1:=by
  intro l m q
  induction q with
  | nil=>intro x hx;exact nomatch hx
  | @cons p q ps qs hq t ih =>
   intro x hx
   rcases Qz.mp hx with e|hx
   ·subst e
    exact ZfV ok (by rw[← hq.1];exact hq.2.1)
   ·exact ih x hx
 exact all r x hx
theorem Zoy{kvs:List (List Key×V)}(ok:HOk P w H h)(e:H a=some (.dT kvs)):kvs.length≤sizeLine∧(a == sysModules)=false ∧
  ∃xs,KT H kvs xs∧h.DictOfH (tupleKind (ZP P w)) a xs:=ZgY ok (.inl e)
end
def Zbe(H:Hp)(a:Addr)(y:V)(r:Option V):Prop :=
 (∃kvs k,Rd H a (.dK kvs)∧y=kV k∧r=Za0 kvs k)∨∃kvs k b,Rd H a (.dT kvs)∧y=.ref b∧H b=some (.tup (k.map kV))∧r=Za0 kvs k
def ZdV(H:Hp)(a:Addr)(y v:V)(H':Hp):Prop :=
 (∃kvs k,H a=some (.dK kvs)∧y=kV k∧kvs.length<sizeLine∧H'=upd H a (.dK (Zce kvs k v))) ∨
 ∃kvs k b,H a=some (.dT kvs)∧y=.ref b∧H b=some (.tup (k.map kV))∧kvs.length<sizeLine∧H'=upd H a (.dT (Zce kvs k v))
theorem Zbe.k{H:Hp}{a:Addr}{kvs:List (Key×V)}{k:Key}(e:H a=some (.dK kvs)):Zbe H a (kV k) (Za0 kvs k):=.inl ⟨kvs,k,.inl e,rfl,rfl⟩
theorem Zbe.t{H:Hp}{a b:Addr}{kvs:List (List Key×V)}{k:List Key}(e:H a=some (.dT kvs))(eb:H b=some (.tup (k.map kV))):Zbe H a (.ref b) (Za0 kvs k):=.inr ⟨kvs,k,b,.inl e,rfl,eb,rfl⟩
theorem ZdV.k{H:Hp}{a:Addr}{kvs:List (Key×V)}{k:Key}{v:V}(e:H a=some (.dK kvs))(hl:kvs.length<sizeLine):ZdV H a (kV k) v (upd H a (.dK (Zce kvs k v))):=.inl ⟨kvs,k,e,rfl,hl,rfl⟩
theorem ZdV.t{H:Hp}{a b:Addr}{kvs:List (List Key×V)}{k:List Key}{v:V}(e:H a=some (.dT kvs))(eb:H b=some (.tup (k.map kV)))(hl:kvs.length<sizeLine) :
  ZdV H a (.ref b) v (upd H a (.dT (Zce kvs k v))):=.inr ⟨kvs,k,b,e,rfl,eb,hl,rfl⟩
section
variable {X:Cx} {pins:List (Addr×Obj)} {σ:St} {H:Hp} {s:Shared} {a:Addr} {y v:V} {u r:Value} {o:Option V} {A:Around} {E:Value→Shared→Prop}
theorem Inv.big(I:Inv X pins σ H s):sysModules<s.heap.objs.size:=by
 have h:mainGlobals<s.heap.objs.size:=(I.mod.glob.keeps I.bk).lt
 exact Nat.lt_trans (by decide) h
theorem Zi6{Q:Value→Shared→Prop}(hu:A.units+1<cLine)(I:Inv X pins σ H s)(g:Zbe H a y (some v))(ry:Zw y u)(h:∀w' s',Inv X pins σ H s'→Zw v w'→Q w' s') :
  wpAny (model X.prog X.w) A (getItem (.ref a) u) Q E s:=by
 rcases g with⟨kvs,k,e,ey,l⟩|⟨kvs,k,b,e,ey,eb,l⟩
 ·subst ey
  obtain⟨z,hd,vs,rel,dd⟩:=Zft I.hok e
  obtain⟨w',hw,rw'⟩:=Zcl.some_of (v:=v) (o:=valueAt vs k) (by rw[l];exact rel.val k)
  exact wpAny_getItem_of (Zib ry) dd.mapOf hw (h w' _ (I.tok _) rw')
 ·subst ey
  cases (show u=Value.ref b from ry)
  obtain⟨z,hd,xs,rel,dd⟩:=ZgY I.hok e
  obtain⟨w',hw,rw'⟩:=Zcl.some_of (v:=v) (o:=(atKey xs k).map (·.2)) (by rw[l];exact rel.val k)
  obtain⟨p,hp,hp2⟩:=QaS.mp hw
  refine wpAny_getItem_heap (tupleKind_room_in1 hu) (ZfV I.hok eb) dd hp ?_
  rw[hp2]
  exact h w' _ (I.tok _) rw'
theorem Ziz{h':Heap}{t':Nat}{ob:HO}(I:Inv X pins σ H s)(mu:Mut (H a))(hs:Heap.SameBut a s.heap h')(he:∃q,h'.get? a=some q)(new:Z3 X.prog X.w (upd H a ob) h' a ob) :
  Inv X pins σ (upd H a ob) { s with heap:=h',toks:=t' } :=
 I.write (x:=a) (e:=a) mu (.inl rfl) (fun b q hb z=>(hs.2 b hb).trans z) he new
theorem ZnF{P:Program}{w:World}{H':Hp}{h':Heap}{kvs:List (Key×V)}{vs:List (Key×Value)}(z:kvs.length≤sizeLine)(hd:(a == sysModules)=false)(rel:KV kvs vs)(dd:h'.DictOf (ZP P w) a vs) :
  Z3 P w H' h' a (.dK kvs):=⟨z,hd,vs,rel,dd⟩
theorem ZjG{H':Hp}{Q:Unit→Shared→Prop}(hu:A.units+1<cLine)(I:Inv X pins σ H s)(g:ZdV H a y v H')(ry:Zw y u)(rv:Zw v r)(h:∀s',Inv X pins σ H' s'→Q () s') :
  wpAny (model X.prog X.w) A (setItem (.ref a) u r) Q E s:=by
 rcases g with⟨kvs,k,e,ey,l,eH⟩|⟨kvs,k,b,e,ey,eb,l,eH⟩
 ·subst ey eH
  obtain⟨z,hd,vs,rel,dd⟩:=Zn6 I.hok e
  have hz:vs.length≤sizeLine:=by rw[← rel.length];exact z
  have hl:(Zce kvs k v).length≤sizeLine:=by have:=Zef kvs k v;omega
  refine wpAny_setItem_pairs (hsz:=hz) (Zib ry) dd fun h' dd' hs=>h _ ?_
  have he:∃q,h'.get? a=some q:=let ⟨q,_,_,hq,_⟩:=dd';⟨q,hq⟩
  exact Ziz I (by rw[e];exact True.intro) hs he (ZnF hl hd (rel.put k rv) dd')
 ·subst ey eH
  cases (show u=Value.ref b from ry)
  obtain⟨z,hd,xs,rel,dd⟩:=Zoy I.hok e
  have hz:xs.length≤sizeLine:=by rw[← Paired.length rel];exact z
  have hl:(Zce kvs k v).length≤sizeLine:=by have:=Zef kvs k v;omega
  refine wpAny_setItem_heap (hsz:=hz) (tupleKind_room_in1 hu) (ZfV I.hok eb) dd fun h' dd' hs=>h _ ?_
  obtain⟨q,es,ep,hq,h2,h3,h4,_,h5⟩:=dd'
  refine Ziz I (by rw[e];exact True.intro) hs ⟨q,hq⟩ ⟨hl,hd,_,(rel.put k eb rv).keeps fun c ys ec=>?_,q,es,ep,hq,h2,h3,h4,h5⟩
  rw[Zc (Zk3 ec e (fun z=>nomatch z))]
  exact ec
end
section
variable {X:Cx} {pins:List (Addr×Obj)} {σ:St} {H:Hp} {s:Shared} {a:Addr} {kvs:List (Key×V)} {k:Key} {u:Value} {A:Around} {E:Value→Shared→Prop}
theorem Zos{Q:Value→Shared→Prop}(I:Inv X pins σ H s)(e:Rd H a (.dK kvs))(h:∀t s',Inv X pins σ H s'→Q (.int kvs.length t) s'):wpAny (model X.prog X.w) A (call (.builtin "len") [.ref a]) Q E s:=by
 obtain⟨z,hd,vs,rel,dd⟩:=Zft I.hok e
 refine call_len_dict hd dd (by rw[← rel.length];rw[sizeLine_eq]at z;omega) ?_
 rw[← rel.length]
 exact h _ _ (I.tok _)
end
def NoSl(i:Expr):Prop:=∀ov iv,subscripted i false ov iv=operate [ov,iv] (getItem ov iv)
theorem Zgw{X:Cx}{pins:List (Addr×Obj)}{σ:St}{H:Hp}{s:Shared}{a:Addr}{y:V}{o:Option V}(I:Inv X pins σ H s)(g:Zbe H a y o):s.TypeIs (.ref a) "dict":=by
 rcases g with⟨kvs,k,e,_,_⟩|⟨kvs,k,b,e,_,_,_⟩
 ·obtain⟨_,_,vs,_,dd⟩:=Zft I.hok e
  exact dd.typeIs
 ·obtain⟨_,_,xs,_,dd⟩:=ZgY I.hok e
  exact dd.typeIs
def tDGet(td ty:TE):TE:=fun σ H Q=>td σ H fun x H1=>ty σ H1 fun y H2=>∃a v,x=.ref a∧Zbe H2 a y (some v)∧Q v H2
def tDIn(ty td:TE):TE:=fun σ H Q=>ty σ H fun y H1=>td σ H1 fun x H2=>∃a o,x=.ref a∧Zbe H2 a y o∧Q (.bl o.isSome) H2
def tDNotIn(ty td:TE):TE:=fun σ H Q=>ty σ H fun y H1=>td σ H1 fun x H2=>∃a o,x=.ref a∧Zbe H2 a y o∧Q (.bl (!o.isSome)) H2
def sDPut(td ty tv:TE):TS:=fun D σ H=>tv σ H fun v H1=>td σ H1 fun x H2=>ty σ H2 fun y H3=>∃a H4,x=.ref a∧ZdV H3 a y v H4∧D.nx σ H4
def sDAug(td ty tv:TE)(rd:V→V→Hp→VK→Prop):TS:=fun D σ H=>td σ H fun x H1=>ty σ H1 fun y H2=>∃a v,x=.ref a∧Zbe H2 a y (some v) ∧
 tv σ H2 fun y2 H3=>rd v y2 H3 fun z H4=>∃H5,ZdV H4 a y z H5∧D.nx σ H5
def sDDel(td ty:TE):TS:=fun D σ H=>td σ H fun x H1=>ty σ H1 fun y H2=>∃a kvs k,x=.ref a∧H2 a=some (.dK kvs)∧y=kV k∧(Za0 kvs k).isSome=true∧D.nx σ (upd H2 a (.dK (ZiB kvs k)))
section
variable {X:Cx} {o i e value:Expr} {pos pos' tpos:Pos} {td ty tv:TE}
end
theorem Zk5{P:Program}{w:World}{H:Hp}(h:Heap)(hb:sysModules<h.objs.size):Z3 P w H (h.push { cls:=.type "dict",data:=.dict #[] }) h.objs.size (.dK []) :=
 ⟨Qv _,beq_eq_false_iff_ne.mpr (Ne.symm (QE hb)),[],.nil,Heap.DictOf.new h⟩
def ZmX:TE:=fun _ H Q=>∀p,H p=none→Q (.ref p) (upd H p (.dK []))
def tDNewT:TE:=fun _ H Q=>∀p,H p=none→Q (.ref p) (upd H p (.dT []))
section
variable {X:Cx} {pos:Pos}
theorem ZjV:PE X (.Dict [] [] pos) ZmX:=fun pins s σ H Q I h =>
 wpAny_Dict_empty ⟨.ref s.heap.objs.size,_,I.laid (a:=s.heap.objs.size) (o:=.dK []) (t':=s.toks) (fun _ _ q=>Qc _ q) (Qf _) (Zk5 s.heap I.big),rfl,h _ (I.hok.fresh (Qf _))⟩
end
def ZhP:List (TE×TE)→St→Hp→(List (V×V)→Hp→Prop)→Prop
 | [],_,H,Q=>Q [] H
 | (tk,tv)::r,σ,H,Q=>tk σ H fun x H1=>tv σ H1 fun y H2=>ZhP r σ H2 fun ps H3=>Q ((x,y)::ps) H3
abbrev VV:List (V×V)→List (Value×Value)→Prop:=Paired fun p q=>Zw p.1 q.1∧Zw p.2 q.2
def PPs(X:Cx)(pos:Pos)(keys:List (Option Expr))(values:List Expr)(trs:List (TE×TE)):Prop :=
 ∀ (pins:List (Addr×Obj)) (s:Shared) (σ:St) (H:Hp) (Q:List (V×V)→Hp→Prop),Inv X pins σ H s→ZhP trs σ H Q →
  wpAny (model X.prog X.w) X.A (evalPairs (pairTrees keys values X.env pos)) (fun vs s'=>∃ps H',Inv X pins σ H' s'∧VV ps vs∧Q ps H') X.xe s
def ZhT(kvs more:List (Key×V)):List (Key×V):=more.foldl (fun acc kv=>Zce acc kv.1 kv.2) kvs
def tDisp(trs:List (TE×TE)):TE:=fun σ H Q=>∀p,H p=none→ZhP trs σ (upd H p (.dK [])) fun ps H2=>H2 p=some (.dK [])∧∃kvs:List (Key×V),ps=kvs.map (fun kv=>(kV kv.1,kv.2))∧kvs.length≤15∧Q (.ref p) (upd H2 p (.dK (ZhT [] kvs)))
structure M1 (X:Cx) (o:Expr) (m:Str) (apos:Pos) (e:Expr) (cpos:Pos):Prop where
 base:attributeBase o m X.env (eval o X.env)=eval o X.env
 few:((backTo cpos (starEach [e] X.env)).all (fun x=>!x.1)&&(backToKw cpos (keywordEach [] X.env)).all (fun x=>x.1.isSome)
  && decide (([e]:List Expr).length+([]:List Keyword).length+(if ([]:List Keyword).isEmpty then 0 else 1)<30))=true
 line:(apos.endLine == cpos.line)=true
 trees:backTo cpos (starEach [e] X.env)=[(false,eval e X.env)]
structure M2 (X:Cx) (o:Expr) (m:Str) (apos:Pos) (e f:Expr) (cpos:Pos):Prop where
 base:attributeBase o m X.env (eval o X.env)=eval o X.env
 few:((backTo cpos (starEach [e,f] X.env)).all (fun x=>!x.1)&&(backToKw cpos (keywordEach [] X.env)).all (fun x=>x.1.isSome)
  && decide (([e,f]:List Expr).length+([]:List Keyword).length+(if ([]:List Keyword).isEmpty then 0 else 1)<30))=true
 line:(apos.endLine == cpos.line)=true
 trees:backTo cpos (starEach [e,f] X.env)=[(false,eval e X.env),(false,eval f X.env)]
def IsD(H:Hp)(a:Addr):Prop:=(∃kvs,Rd H a (.dK kvs))∨∃kvs,Rd H a (.dT kvs)
theorem Zny{X:Cx}{pins:List (Addr×Obj)}{σ:St}{H:Hp}{s:Shared}{a:Addr}(I:Inv X pins σ H s)(d:IsD H a) :
  s.TypeIs (.ref a) "dict"∧(∀b,Value.ref a=.ref b→∃ob,s.heap.get? b=some ob∧ob.dict=none)∧(a == sysModules)=false:=by
 rcases d with⟨kvs,e⟩|⟨kvs,e⟩
 ·obtain⟨_,hd,vs,_,dd⟩:=Zft I.hok e
  refine⟨dd.typeIs,fun b q=>?_,hd⟩
  cases q
  obtain⟨ob,_,_,h1,h2,_⟩:=dd
  exact⟨ob,h1,h2.2.1⟩
 ·obtain⟨_,hd,xs,_,dd⟩:=ZgY I.hok e
  refine⟨dd.typeIs,fun b q=>?_,hd⟩
  cases q
  obtain⟨ob,_,_,h1,h2,_⟩:=dd
  exact⟨ob,h1,h2.2.1⟩
section
variable {X:Cx} {pins:List (Addr×Obj)} {σ:St} {H:Hp} {s:Shared} {a:Addr} {y d:V} {u r:Value} {o:Option V} {A:Around} {E:Value→Shared→Prop}
theorem ZnM{Q:Value→Shared→Prop}(hu:A.units+1<cLine)(I:Inv X pins σ H s)(g:Zbe H a y o)(ry:Zw y u)(h:∀w' s',Inv X pins σ H s'→Zw (o.getD .non) w'→Q w' s') :
  wpAny (model X.prog X.w) A (call (.builtin "dict.get") [.ref a,u]) Q E s:=by
 rcases g with⟨kvs,k,e,ey,l⟩|⟨kvs,k,b,e,ey,eb,l⟩
 ·subst ey
  obtain⟨z,hd,vs,rel,dd⟩:=Zft I.hok e
  refine call_meetsIn PySem.F.slot_dict_get dd.typeIs PySem.F.entry_dict_get (PySem.F.args_dict_get_2 _ _) (meets_dict_get (ZP X.prog X.w) a (Zib ry) hd) ⟨_,dd.mapOf,h _ _ (I.tok _) ?_⟩
  rw[l]
  exact(rel.val k).getD rfl
 ·subst ey
  cases (show u=Value.ref b from ry)
  obtain⟨z,hd,xs,rel,dd⟩:=ZgY I.hok e
  refine call_meetsIn PySem.F.slot_dict_get dd.typeIs PySem.F.entry_dict_get (PySem.F.args_dict_get_2 _ _) (meetsH_dict_get (tupleKind (ZP X.prog X.w)) a b hd) ⟨tupleKind_room_in1 hu,k,xs,ZfV I.hok eb,dd,h _ _ (I.tok _) ?_⟩
  rw[l]
  exact(rel.val k).getD rfl
end
def Zj6(td ty:TE):TE:=fun σ H Q=>td σ H fun x H1=>∃a,x=.ref a∧IsD H1 a∧ty σ H1 fun y H2=>∃o,Zbe H2 a y o∧Q (o.getD .non) H2
def Zpe(td ty tx:TE):TE:=fun σ H Q=>td σ H fun x H1=>∃a,x=.ref a∧IsD H1 a∧ty σ H1 fun y H2=>tx σ H2 fun z H3=>∃o,Zbe H3 a y o∧Q (o.getD z) H3
def Zps(td ty:TE):TE:=fun σ H Q=>td σ H fun x H1=>∃a,x=.ref a∧IsD H1 a∧ty σ H1 fun y H2=>∃kvs k v,H2 a=some (.dK kvs)∧y=kV k∧Za0 kvs k=some v∧Q v (upd H2 a (.dK (ZiB kvs k)))
def Zpo(td ty tx:TE):TE:=fun σ H Q=>td σ H fun x H1=>∃a,x=.ref a∧IsD H1 a∧ty σ H1 fun y H2=>tx σ H2 fun z H3=>∃kvs k,H3 a=some (.dK kvs)∧y=kV k ∧
 (∀v,Za0 kvs k=some v→Q v (upd H3 a (.dK (ZiB kvs k))))∧(Za0 kvs k=none→Q z H3)
section
variable {X:Cx} {o e f:Expr} {apos cpos:Pos} {td ty tx:TE}
theorem Zld(hu:X.A.units+1<cLine)(ho:PE X o td)(he:PE X e ty)(m:M1 X o "get" apos e cpos):PE X (.Call (.Attribute o "get" apos) [e] [] cpos) (Zj6 td ty):=by
 intro pins s σ H Q I h
 refine wpAny_Call_method m.base m.few m.line PySem.F.plainAttrs_dict PySem.F.slot_dict_get PySem.F.type_dict_get (thn (ho pins s σ H _ I h) ?_)
 rintro u s1 ⟨x,H1,I1,rx,a,ex,d,q1⟩
 subst ex
 obtain rfl:u=Value.ref a:=rx
 obtain⟨t1,t2,_⟩:=Zny I1 d
 refine⟨t1,t2,?_⟩
 rw[m.trees]
 refine Calls.callWith_builtin rfl (Calls.evalArgs_plain (Calls.spliced_cons (thn (he pins s1 σ H1 _ I1 q1) fun iv s2 ⟨y,H2,I2,ry,ov,g,q2⟩=>Calls.spliced_nil ?_)))
 exact ZnM hu I2 g ry fun w' s3 I3 rw'=>⟨_,H2,I3,rw',q2⟩
end
section
variable {X:Cx} {pins:List (Addr×Obj)} {σ:St} {H:Hp} {s:Shared} {a:Addr} {kvs:List (Key×V)} {A:Around} {E:Value→Shared→Prop}
end
section
variable {X:Cx} {pins:List (Addr×Obj)} {σ:St} {H:Hp} {s:Shared} {a:Addr} {y:V} {u:Value} {A:Around} {E:Value→Shared→Prop}
end
section
variable {X:Cx}
theorem Zjy:Zap X (.builtin "len") (fun xs H Q=>∃a kvs,xs=[V.ref a]∧H a=some (.dK kvs)∧Q (.int kvs.length) H):=by
 intro pins s σ H xs us Q I r h
 obtain⟨a,kvs,rfl,ha,q⟩:=h
 obtain⟨u,rfl,ru⟩:=Zcj r
 cases ru
 exact Zos I (.inl ha) fun t s' I'=>⟨.int kvs.length,H,I',⟨t,rfl⟩,q⟩
end
section
variable {κ:Type} [DecidableEq κ]
end
structure Mf (P:Program) (w:World) (K:PySem.W.Frag) (mg:Str→Option Value) (base:Heap) (k:Nat) (C:Addr) (m:Str) (ps:List Str) (sp:Sp):Prop where
 ex:∃f fd,ZcU P w K mg base CX0 k f fd ps sp∧Zkg K C m f∧Zbv K fd ps []
structure Cf (P:Program) (w:World) (K:PySem.W.Frag) (mg:Str→Option Value) (base:Heap) (k:Nat) (C:Addr) (x:Str) (ps:List Str) (sp:Sp):Prop where
 ex:∃f fd,ZcU P w K mg base CX0 k f fd ps sp∧Mk K C f∧Zbv K fd ps []∧mg x=some (.ref C)
structure Zdw (K:PySem.W.Frag) (C:Addr) (m qual:Str) (st:Stmt) (ps:List Str):Prop where
 ex:∃f fd,Fun K m qual st f fd∧Zkg K C m f∧Zbv K fd ps []
structure Zms (K:PySem.W.Frag) (mg:Str→Option Value) (C:Addr) (x qual:Str) (st:Stmt) (ps:List Str):Prop where
 ex:∃f fd,Fun K "__init__" qual st f fd∧Mk K C f∧Zbv K fd ps []∧mg x=some (.ref C)
section
variable {P:Program} {w:World} {K:PySem.W.Frag} {mg:Str→Option Value} {base:Heap}
theorem Zdw.mf{C:Addr}{m qual:Str}{st:Stmt}{N ps:List Str}{k:Nat}{sp:Sp}(T:Zdw K C m qual st ps)(S:Zq N ps (Zf st))(len:∀vs H Q E,sp vs H Q E→vs.length=ps.length)
  (hbody:∀ (cdv:Value) (f:Addr) (A:Around) (outer:List Env) (s:Shared) (H:Hp) (vs:List V) (Q:VK) (E:XK),ZaA k (A.deeper (envOfC qual (Zf st) s.heap.objs.size f cdv))→sp vs H Q E →
   ∃t,PSs (Zf4 CX0 P w K mg base N qual (Zf st) f cdv A outer s H E).nox (Zo st) t∧t { nx:=fun _ H'=>Q .non H',rt:=Q } (Zcq N vs) H):Mf P w K mg base (k+1) C m ps sp:=by
 obtain⟨f,fd,F,m,b⟩:=T.ex
 exact⟨f,fd,F.ok S len (fun cdv A outer s H vs Q E hr h=>hbody cdv f A outer s H vs Q E hr h),m,b⟩
theorem Zms.cf{C:Addr}{x qual:Str}{st:Stmt}{N ps:List Str}{k:Nat}{sp:Sp}(T:Zms K mg C x qual st ps)(S:Zq N ps (Zf st))(len:∀vs H Q E,sp vs H Q E→vs.length=ps.length)
  (hbody:∀ (cdv:Value) (f:Addr) (A:Around) (outer:List Env) (s:Shared) (H:Hp) (vs:List V) (Q:VK) (E:XK),ZaA k (A.deeper (envOfC qual (Zf st) s.heap.objs.size f cdv))→sp vs H Q E →
   ∃t,PSs (Zf4 CX0 P w K mg base N qual (Zf st) f cdv A outer s H E).nox (Zo st) t∧t { nx:=fun _ H'=>Q .non H',rt:=Q } (Zcq N vs) H):Cf P w K mg base (k+1) C x ps sp:=by
 obtain⟨f,fd,F,m,b,g⟩:=T.ex
 exact⟨f,fd,F.ok S len (fun cdv A outer s H vs Q E hr h=>hbody cdv f A outer s H vs Q E hr h),m,b,g⟩
end
section
variable {X:Cx} {k j:Nat} {C:Addr} {m x:Str} {ps:List Str} {sp:Sp} {o e:Expr} {es:List Expr} {ta:TE} {t:TA} {p apos pos:Pos} {pl:Sem Bool}
theorem ZcZ(F:Mf X.prog X.w X.K X.mg X.base k C m ps sp)(c:Cls X.K C)(hr:ZaA j X.A)(he:PE X o ta)(ha:PA X (e::es) t)(hjk:k≤j:=by decide)
  (hst:starEach (e::es) X.env=(false,eval e X.env)::starEach es X.env:=by rfl) (hpl:(backTo pos (starEach es X.env)).any (·.1)=false:=by rfl)
  (ht:eval (.Call (.Attribute o m apos) (e::es) [] pos) X.env=(do
   let ov ← eval o X.env
   standAt apos.atName
   let (f,first) ← holding [ov] (getMethod ov m pl)
   callWith pos f first (backTo pos (starEach (e::es) X.env)) (backToKw pos (keywordEach [] X.env))):=by rfl) :
  PE X (.Call (.Attribute o m apos) (e::es) [] pos) (ZiK C m sp [] E0 ta t):=by
 obtain⟨f,fd,F,g,b⟩:=F.ex
 exact Zmb he c g F (hr.mono hjk) b .nil ZiO ha hst hpl ht
theorem Zbo(F:Mf X.prog X.w X.K X.mg X.base k C m ps sp)(c:Cls X.K C)(hr:ZaA j X.A)(he:PE X o ta)(hjk:k≤j:=by decide)
  (ht:eval (.Call (.Attribute o m apos) [] [] pos) X.env=(do
   let ov ← eval o X.env
   standAt apos.atName
   let (f,first) ← holding [ov] (getMethod ov m pl)
   callWith pos f first (backTo pos (starEach [] X.env)) (backToKw pos (keywordEach [] X.env))):=by rfl) :
  PE X (.Call (.Attribute o m apos) [] [] pos) (ZiK C m sp [] E0 ta ZmS):=by
 obtain⟨f,fd,F,g,b⟩:=F.ex
 exact Zkw he c g F (hr.mono hjk) b .nil ZiO ht
theorem ZmL(F:Cf X.prog X.w X.K X.mg X.base k C x ps sp)(hr:ZaA j X.A)(ha:PA X (e::es) t)(hjk:k+1≤j:=by decide)(hg:Gl X x:=by rfl)(hdb:(x == ("__debug__" : Str))=false:=by decide)
  (he:starEach (e::es) X.env=(false,eval e X.env)::starEach es X.env:=by rfl) (hpl:(backTo pos (starEach es X.env)).any (·.1)=false:=by rfl) :
  PE X (.Call (.Name x p) (e::es) [] pos) (ZmE C sp [] E0 t):=by
 obtain⟨f,fd,F,g,b,gm⟩:=F.ex
 exact ZlP g F (hr.mono hjk) hg gm b .nil ZiO ha hdb he hpl
end
section
variable {X:Cx} {pins:List (Addr×Obj)} {σ:St} {H:Hp} {s:Shared} {d:Addr} {o:Obj} {u:HO}
theorem Inv.freeze(I:Inv X pins σ H s)(e:H d=some u)(mu:Mut (some u))(ho:s.heap.get? d=some o):Inv X pins σ (upd H d (.frz o u)) s:=by
 have h:=I.write (x:=d) (e:=d) (o:=.frz o u) (t':=s.toks) (h':=s.heap) (by rw[e];exact mu) (.inl rfl) (fun b v _ q=>q) ⟨o,ho⟩ ?_
 ·exact h
 ·refine⟨ho,(I.hok d u e).stay (fun b v _ q=>q) (fun b q=>?_) (fun b xs q=>?_)⟩
  ·rw[Zc (fun z=>by rw[z,e]at q;cases q;exact mu)];exact q
  ·rw[Zc (fun z=>by rw[z,e]at q;cases q;exact mu)];exact q
theorem Inv.nofrz(I:Inv X pins σ H s)(e:H d=some u)(mu:Mut (some u)):∀o' u',X.H₀ d≠some (.frz o' u'):=fun o' u' z=>by
 have:=I.base.frzs d o' u' z
 rw[e]at this
 cases this
 exact mu
theorem Inv.thaw(I:Inv X pins σ H s)(e:H d=some (.frz o u))(mu:Mut (some u))(n:∀o' u',X.H₀ d≠some (.frz o' u')):Inv X pins σ (upd H d u) s:=by
 have hne:∀b,H b=none→b≠d:=fun b z=>Zb (H:=H) e z |>.symm
 refine⟨I.ok,I.os,I.bare,⟨I.base.keep,I.base.slot,fun b v a1 a2 a3=>?_,I.base.there,fun b xs q=>?_,fun b o' u' q=>?_,fun b ps q=>?_⟩,I.loc,I.cell,?_,fun x c q=>?_,fun p hp=>?_,?_,I.len⟩
 ·have:=I.base.free b v a1 a2 a3
  rw[Zc (hne b this)];exact this
 ·have:=I.base.tups b xs q
  rw[Zc (fun z=>by rw[z,e]at this;cases this)];exact this
 ·have:=I.base.frzs b o' u' q
  rw[Zc (fun z=>by rw[z]at q;exact n o' u' q)];exact this
 ·obtain⟨more,this⟩:=I.base.tbls b ps q
  refine⟨more,?_⟩
  rw[Zc (fun z=>by rw[z,e]at this;cases this)];exact this
 ·rw[Zc (hne _ I.free)];exact I.free
 ·rw[Zc (hne _ (I.freeC x c q))];exact I.freeC x c q
 ·obtain⟨a1,a2,a3⟩:=I.pin p hp
  exact⟨a1,by rw[Zc (hne _ a2)];exact a2,a3⟩
 ·intro b v q
  have own:∀c a,H c=some (.own a)→(upd H d u) c=some (.own a):=fun c a q=>by rw[Zc (fun z=>by rw[z,e]at q;cases q)];exact q
  have tup:∀c xs,H c=some (.tup xs)→(upd H d u) c=some (.tup xs):=fun c xs q=>by rw[Zc (fun z=>by rw[z,e]at q;cases q)];exact q
  by_cases hb:b=d
  ·subst hb
   rw[Zd]at q
   cases q
   obtain⟨_,h2⟩:=(show Z3 X.prog X.w H s.heap b (.frz o u) from I.hok b _ e)
   exact h2.stay (fun c v _ q=>q) (fun c q=>own c b q) tup
  ·rw[Zc hb]at q
   exact(I.hok b v q).stay (fun c v _ q=>q) (fun c q=>own c b q) tup
end
def ZoA(t:TE):TE:=fun σ H Q=>∃d u,H d=some u∧Mut (some u)∧t σ H fun v H'=>∃o,H' d=some (.frz o u)∧Q v (upd H' d u)
theorem Zl3{X:Cx}{e:Expr}{t:TE}(h:PE X e t):PE X e (ZoA t):=by
 intro pins s σ H Q I q
 obtain⟨d,u,e1,mu,q⟩:=q
 have n:=I.nofrz e1 mu
 refine thn (h pins s σ H _ I q) ?_
 rintro v s1 ⟨x,H1,I1,r1,o,e2,q1⟩
 exact⟨x,_,I1.thaw e2 mu n,r1,q1⟩
theorem Zlv{P:Program}{w:World}{k:Key}{v:Value}(h:(ZP P w).is k v=true):Zw (kV k) v:=by
 rw[ZhK]at h
 rcases Zaa h with⟨i,t,rfl,rfl⟩|⟨x,t,rfl,rfl⟩
 ·exact⟨t,rfl⟩
 ·exact⟨t,rfl⟩
def Zla:List V→Hp→VK→Prop:=fun xs H Q=>∃d kvs,xs=[.ref d]∧H d=some (.dK kvs)∧∀l,H l=none→Q (.ref l) (upd H l (.lst (kvs.map fun kv=>kV kv.1)))
theorem Zja{P:Program}{w:World}:∀ (kvs:List (Key×V)) (vs:List (Key×Value)) (us:List Value),KV kvs vs→us.length=vs.length→(∀ (j:Nat) (v:Value),us[j]? = some v→∃k x,vs[j]? = some (k,x)∧(ZP P w).is k v=true)→Zy (kvs.map fun kv=>kV kv.1) us:=by
 intro kvs vs us r
 unfold KV at r
 induction r generalizing us with
 | nil =>
  intro hl _
  cases us with
  | nil=>exact .nil
  | cons a b=>simp at hl
 | @cons p q ps qs h t ih =>
  intro hl hp
  cases us with
  | nil=>simp at hl
  | cons a b =>
   obtain⟨k,x,e,hk⟩:=hp 0 a rfl
   have e':q=(k,x):=by simpa using e
   rw[Qe]
   refine .cons ?_ (ih b (by simpa using hl) fun j v hv=>?_)
   ·rw[h.1,e'];exact Zlv hk
   ·simpa using hp (j+1) v (by simpa using hv)
theorem ZhM{X:Cx}(hc:X.calm=true):Zap X (.type "list") Zla:=by
 intro pins s σ H xs us Q I r h
 obtain⟨d,kvs,rfl,hd,q⟩:=h
 obtain⟨u,rfl,ru⟩:=Zcj r
 cases ru
 obtain⟨z,lo,vs,rel,dd⟩:=(show Z3 X.prog X.w H s.heap d (.dK kvs) from I.hok d _ hd)
 obtain⟨ep,da⟩:=dd.dictAt
 have hl:kvs.length=vs.length:=rel.length
 refine PySem.W.kdl_call (PySem.W.kdl_dict lo) (I.ok.hd hc) da (by omega) fun h' tk acc c hk hD hacc=>?_
 have hv:Zy (kvs.map fun kv=>kV kv.1) acc.toList:=Zja (P:=X.prog) (w:=X.w) kvs vs acc.toList rel (by rw[Qy];exact hacc.1) fun j v e=>hacc.2 j v (by rw[← QR];exact e)
 refine⟨.ref s.heap.objs.size,_,I.laid (a:=s.heap.objs.size) (o:=.lst (kvs.map fun kv=>kV kv.1)) (t':=tk) hk (Qf _) ?_,rfl,q _ (I.hok.fresh (Qf _))⟩
 exact⟨by rw[Qb];exact z,acc.toList,c,hv,by simpa using hD⟩
theorem Inv.dictF{X:Cx}{pins:List (Addr×Obj)}{σ:St}{H:Hp}{s:Shared}{d:Addr}{o:Obj}{kvs:List (Key×V)}{es:Array DictEntry}{ep:Nat}(I:Inv X pins σ H s)(e:H d=some (.frz o (.dK kvs)))(hd:o.data=.dict es ep) :
  ∃vs,KV kvs vs∧s.heap.DictAt (ZP X.prog X.w) d vs ep:=by
 obtain⟨ho,_,_,vs,rel,o',es',ep',h1,h2,h3,h4⟩:=(show Z3 X.prog X.w H s.heap d (.frz o (.dK kvs)) from I.hok d _ e)
 rw[ho]at h1
 cases h1
 rw[hd]at h3
 cases h3
 exact⟨vs,rel,o,es,ho,h2,hd,h4⟩
theorem Znn{kvs:List (Key×V)}{vs:List (Key×Value)}(r:KV kvs vs):∀ (i:Nat) (k:Key) (x:V),kvs[i]? = some (k,x)→∃u,vs[i]? = some (k,u)∧Zw x u:=by
 unfold KV at r
 induction r with
 | nil=>intro i k x h;simp at h
 | @cons p q ps qs h t ih =>
  intro i k x hx
  cases i with
  | zero =>
   have e:p=(k,x):=by simpa using hx
   refine⟨q.2,?_,?_⟩
   ·have:q=(k,q.2):=by rw[show k=q.1 by rw[← h.1,e]]
    simpa using this
   ·have:=h.2;rw[e]at this;exact this
  | succ i=>simpa using ih i k x (by simpa using hx)
def Itv(d:Addr)(o:Obj)(kvs:List (Key×V)):It :=
 ⟨fun i H=>H d=some (.frz o (.dK kvs))∧i<kvs.length,fun i H v H'=>H'=H∧∃k,kvs[i]? = some (k,v),fun i H=>H d=some (.frz o (.dK kvs))∧kvs.length≤i⟩
def Itk(d:Addr)(o:Obj)(kvs:List (Key×V)):It :=
 ⟨fun i H=>H d=some (.frz o (.dK kvs))∧i<kvs.length,fun i H v H'=>H'=H∧∃k x,kvs[i]? = some (k,x)∧v=kV k,fun i H=>H d=some (.frz o (.dK kvs))∧kvs.length≤i⟩
theorem Zjm{P:Program}{w:World}{K:PySem.W.Frag}{tg:Expr}{d it:Addr}{o:Obj}{kvs:List (Key×V)}{es:Array DictEntry}{ep:Nat}(hd:o.data=.dict es ep):Zji P w K tg (Itv d o kvs) [it] it (fun i h=>h.IsValIter it d i kvs.length ep) where
 mem:=by simp
 obj:=fun i h st b hb=>by
  have e:b=it:=by simpa using hb
  subst e
  obtain⟨o,e,c,d⟩:=st
  exact⟨o,e,fun v z=>by rw[d]at z;cases z⟩
 keep:=fun i h h' st k=>by
  obtain⟨o,e,r⟩:=st
  exact⟨o,k it (by simp) o e,r⟩
 item:=by
  intro X hP hw hK hc i pins s σ H E I hf st hg
  subst hP hw hK
  obtain⟨f0,f1,f2,f3,f4,f5⟩:=hf it (by simp)
  obtain⟨hfz,hi⟩:=hg
  obtain⟨vs,rel,da⟩:=I.dictF hfz hd
  have hl:kvs.length=vs.length:=rel.length
  obtain⟨u,hu,ru⟩:=Znn rel i kvs[i].1 kvs[i].2 (Qa hi)
  refine wpAny_pyNext_values_item (by rw[← hl];exact st) da hu fun h' st' sb=>?_
  rw[← hl]at st'
  have I1:Inv X pins σ H { s with heap:=h' }:=I.turned (t':=s.toks) (fun b o hb e=>(sb.2 b hb).trans e) f0 f1 f3 f4 f5
  obtain⟨o1,e1,c1,d1⟩:=id st'
  exact⟨_,rfl,ZkQ (s:={ s with heap:=h' }) e1 c1 d1 (by decide) ⟨kvs[i].2,H,I1,ru,⟨rfl,kvs[i].1,Qa hi⟩,st',fun b hb=>(hf b hb).1⟩⟩
 done:=by
  intro X hP hw hK hc i pins s σ H E I hf st hg
  subst hP hw hK
  obtain⟨f0,f1,f2,f3,f4,f5⟩:=hf it (by simp)
  obtain⟨hfz,hi⟩:=hg
  obtain⟨vs,rel,da⟩:=I.dictF hfz hd
  have hl:kvs.length=vs.length:=rel.length
  exact wpAny_pyNext_values_end (I.ok.hd hc) (by rw[← hl];exact st) da (Qai (by omega)) fun h' eb=>⟨rfl,I.turned (t':=s.toks) (fun b o hb e=>eb b o hb e) f0 f1 f3 f4 f5⟩
 self:=fun _ _ _ _ _ st h=>wpAny_pyIter_valiter st h
def iKeys(tl:TE):TI:=fun σ H R=>tl σ H fun x H1=>∃d kvs,x=.ref d∧H1 d=some (.dK kvs)∧∀o,R (Itk d o kvs) (upd H1 d (.frz o (.dK kvs)))
def rSortedD:List V→Hp→VK→Prop:=fun xs H Q=>∃d kvs ns,xs=[.ref d]∧H d=some (.dK kvs)∧kvs.map (·.1)=ns.map Sum.inl∧ns.length<64 ∧
 ∀ (l:Addr) (ns':List Int),H l=none→ns'.Perm ns→ns'.Pairwise (·≤·)→Q (.ref l) (upd H l (.lst (ns'.map V.int)))
def rSumL(K:PySem.W.Frag):List V→Hp→VK→Prop:=fun vs H Q=>∃ (p:Addr) (ns:List Int),vs=[.ref p]∧SqL K H p (ns.map V.int)∧ns.length≤1000∧(∀n∈ns,0≤n∧n≤1000000)∧Q (.int ns.sum) H
def ZoC(tl:TE):TI:=fun σ H R=>tl σ H fun x H1=>∃d kvs,x=.ref d∧H1 d=some (.dK kvs)∧∀o,R (Itv d o kvs) (upd H1 d (.frz o (.dK kvs)))
theorem Zl6{X:Cx}{tg o:Expr}{to:TE}{apos cpos:Pos}(ho:PE X o to)(hbase:attributeBase o "values" X.env (eval o X.env)=eval o X.env:=by rfl)(hline:(apos.endLine == cpos.line)=true:=by rfl) :
  PI X tg (.Call (.Attribute o "values" apos) [] [] cpos) (ZoC to):=by
 intro pins s σ H R I h
 refine wpAny_Call_method0_late hbase hline (thn (ho pins s σ H _ I h) ?_)
 rintro v s1 ⟨x,H1,I1,r1,q1⟩
 obtain⟨d,kvs,e,hd,q⟩:=q1
 subst e
 cases r1
 obtain⟨z,lo,vs,rel,ob,es,ep,h1,h2,h3,h4⟩:=(show Z3 X.prog X.w H1 s1.heap d (.dK kvs) from I1.hok d _ hd)
 have hlen:kvs.length=vs.length:=rel.length
 have I2:=I1.freeze hd True.intro h1
 have dd:s1.heap.DictOf (ZP X.prog X.w) d vs:=⟨ob,es,ep,h1,h2,h3,h4⟩
 refine⟨"dict", "dict.values",PySem.F.plainAttrs_dict,PySem.F.slot_dict_values,PySem.F.type_dict_values,dd.typeIs,fun a e=>?_,?_⟩
 ·cases e;exact⟨ob,h1,h2.2.1⟩
 refine Calls.callWith_builtin rfl (PySem.evalArgs_none ?_)
 refine call_meetsIn PySem.F.slot_dict_values dd.typeIs PySem.F.entry_dict_values (PySem.F.args_dict_values_1 _) (meets_dict_values (ZP X.prog X.w) d lo) ⟨⟨vs,dd⟩,?_⟩
 have hv:(s1.heap.push { cls:=.type "dict_values",data:=.fields #[.ref d] }).IsValuesView s1.heap.objs.size d:=⟨_,Qt _ rfl,rfl,rfl⟩
 have da:(s1.heap.push { cls:=.type "dict_values",data:=.fields #[.ref d] }).DictAt (ZP X.prog X.w) d vs ep:=⟨ob,es,Qc _ h1,h2,h3,h4⟩
 refine wpAny_pyIter_values (s:={ s1 with heap:=s1.heap.push { cls:=.type "dict_values",data:=.fields #[.ref d] } }) hv da ?_
 rw[← hlen]
 have I3:Inv X pins σ (upd H1 d (.frz ob (.dK kvs))) { s1 with heap:=s1.heap.push { cls:=.type "dict_values",data:=.fields #[.ref d] } }:=I2.kept (t':=s1.toks) fun b o e=>Qc _ e
 refine⟨_,[_],_,Itv d ob kvs,upd H1 d (.frz ob (.dK kvs)),rfl,I3.kept (t':=s1.toks) fun b o e=>Qc _ e,Zjm h3,⟨_,Qt _ rfl,rfl,rfl⟩,fun b hb=>?_,q ob⟩
 have e:=Ql.mp hb
 rw[e]
 exact I3.fpOk (Qf _) (I3.hok.fresh (Qf _))
def Iti(d:Addr)(o:Obj)(kvs:List (Key×V)):It :=
 ⟨fun i H=>H d=some (.frz o (.dK kvs))∧i<kvs.length,
  fun i H v H'=>∃p k x,H p=none∧v=.ref p∧kvs[i]? = some (k,x)∧H'=upd H p (.tup [kV k,x]),
  fun i H=>H d=some (.frz o (.dK kvs))∧kvs.length≤i⟩
def iItems(tl:TE):TI:=fun σ H R=>tl σ H fun x H1=>∃d kvs,x=.ref d∧H1 d=some (.dK kvs)∧∀o,R (Iti d o kvs) (upd H1 d (.frz o (.dK kvs)))
def Zmr(J:It)(D:Addr)(k:Nat)(σ:St)(H1:Hp)(g:TG)(tc:TT)(tk te:TE)(Q:VK):Prop :=
 ∃W:Nat→Nat→List (Key×V)→St→Hp→Prop,(∃m,W 0 m [] (σ++List.replicate k none) (upd H1 D (.dK []))) ∧
  ∀i m ys σ2 H2,W i m ys σ2 H2→(J.stop i H2∧Q (.ref D) H2) ∨
   (J.go i H2∧∃N:List (Key×V)→St→Hp→Prop,(∀ys' σ' H',N ys' σ' H'→∃m',m'<m∧W (i+1) m' ys' σ' H')∧∀x H3,J.yld i H2 x H3→g x σ2 H3 fun σ4 H4=>tc σ4 H4 fun b H5 =>
    if b=true then tk σ4 H5 fun kv H6=>te σ4 H6 fun y H7=>∃k:Key,kv=kV k∧H7 D=some (.dK ys)∧ys.length<sizeLine∧N (Zce ys k y) σ4 (upd H7 D (.dK (Zce ys k y))) else N ys σ4 H5)
def tKComp(n:Nat)(wi:TI)(g:TG)(tc:TT)(tk te:TE):TE:=fun σ H Q=>wi σ H fun J H1=>∀D,H1 D=none→Zmr J D n σ H1 g tc tk te Q
section
variable {X:Cx} {N N':List Str} {o c:Scope}
end
section
variable {X:Cx}
def rIxK:R2:=fun x y H Q=>∃d kvs k v,x=.ref d∧y=kV k∧H d=some (.dK kvs)∧Za0 kvs k=some v∧Q v H
end
section
variable {prog:Program} {w:World} {A:Around} {R:Result→Shared→Prop} {I:Addr} {fp wr:List Addr} {G:Array GenState→Array GenState→Prop} {n:Nat} {P:Nat→Value→Prop} {St:Nat→Shared→Prop} {K:Type} [DecidableEq K] {knd:KeyKind prog w K}
end
section
variable {prog:Program} {w:World} {A:Around} {E:Value→Shared→Prop} {s:Shared} {K:Type} [DecidableEq K] {knd:KeyKind prog w K}
end
def rDictP(K:PySem.W.Frag):List V→Hp→VK→Prop:=fun xs H Q=>∃ (a:Addr) (ts:List (Addr×Key×V)),xs=[.ref a]∧SqL K H a (ts.map fun t=>V.ref t.1)∧(∀t∈ts,H t.1=some (.tup [kV t.2.1,t.2.2]))∧ts.length≤1000 ∧
 ∀D,H D=none→Q (.ref D) (upd H D (.dK (ZhT [] (ts.map (·.2)))))
def rInG:R2:=fun y x H Q=>∃a o,x=.ref a∧Zbe H a y o∧Q (.bl o.isSome) H
def rNotInG:R2:=fun y x H Q=>∃a o,x=.ref a∧Zbe H a y o∧Q (.bl (!o.isSome)) H
def Zo9:R2:=fun x y H Q=>∃a v,x=.ref a∧Zbe H a y (some v)∧Q v H
section
variable {X:Cx} {k:Nat}
def ZoH:ZjF:=fun o i v H Q=>∃a H',o=.ref a∧ZdV H a i v H'∧Q H'
theorem ZkF(hr:ZaA k X.A):Znw X ZoH:=by
 intro pins s σ H o i v ov iv u Q I ro ri rv h
 obtain⟨a,H',rfl,g,q⟩:=h
 cases ro
 exact ZjG (Zln hr) I g ri rv fun s4 I4=>⟨H',I4,q⟩
theorem Zh0{prog:Program}{w:World}{A:Around}{E:Value→Shared→Prop}{s:Shared}{value slice:Expr}{o i:Value}{T id:String}{Q:Value→Shared→Prop}(hT:s.TypeIs o T)
  (hl:typeLookup (.type T) "__getitem__" = pure (some (.builtin id))) (hs:subscripted slice false o i=operate [o,i] (getItem o i)) (h:wpAny (model prog w) A (getItem o i) Q E s) :
  wpAny (model prog w) A (subscriptTail value slice o i) Q E s:=by
 unfold subscriptTail
 refine wpAny_bind ?_
 rw[getitemInPython_of_ne hT.not_modules]
 refine wpAny_bind (wpAny_specialOf hT hl ?_)
 have fin:wpAny (model prog w) A (subscripted slice false o i) (fun r s₃=>wpAny (model prog w) A (letTemporaryGo value o r >>= fun _=>pure r) Q E s₃) E s:=by
  rw[hs]
  exact wpAny_operating (wpAny_mono h (fun r s₃ h₃=>wpAny_bind (wpAny_letTemporaryGo (wpAny_pure h₃))) fun _ _ x=>x)
 first
  | exact wpAny_pure (wpAny_bind fin)
  | exact wpAny_bind (wpAny_pure (wpAny_bind fin))
  | exact wpAny_bind fin
theorem ixG(hr:ZaA k X.A):IxR X Zo9:=by
 intro value slice pins s σ H x y v u Q I rx ry h hs
 obtain⟨a,z,rfl,g,q⟩:=h
 cases rx
 exact Zh0 (Zgw I g) PySem.F.slot_dict_getitem.lookup hs (Zi6 (Zln hr) I g ry fun w' s' I' rw'=>⟨z,H,I',rw',q⟩)
def rEqE(neg:Bool):R2:=fun x y H Q=>∃a b kvs,x=.ref a∧y=.ref b∧H a=some (.dK kvs)∧H b=some (.dK [])∧Q (.bl (if neg then !kvs.isEmpty else kvs.isEmpty)) H
theorem Zpi:Zap X (.builtin "len") (fun xs H Q=>∃a kvs,xs=[V.ref a]∧H a=some (.dK kvs)∧Q (.int kvs.length) H):=Zjy
theorem ZoI(hc:X.calm=true:=by rfl):Zap X (.type "list") Zla:=ZhM hc
end
mutual
inductive DH (H:Hp):V→PyData→Prop where
 | non:DH H .non .none
 | bl (b:Bool):DH H (.bl b) (.bool b)
 | int (i:Int):DH H (.int i) (.int i)
 | str (s:Str):DH H (.str s) (.str s)
 | lst {a:Addr} {xs:List V} {ds:List PyData}:H a=some (.lst xs)→DHs H xs ds→DH H (.ref a) (.list ds)
 | tup {a:Addr} {xs:List V} {ds:List PyData}:H a=some (.tup xs)→DHs H xs ds→DH H (.ref a) (.tuple ds)
inductive DHs (H:Hp):List V→List PyData→Prop where
 | nil:DHs H [] []
 | cons {x:V} {d:PyData} {xs:List V} {ds:List PyData}:DH H x d→DHs H xs ds→DHs H (x::xs) (d::ds)
end
mutual
theorem DH.mono{H H':Hp}(s:ZD H H'):∀ {x:V} {d:PyData},DH H x d→DH H' x d
 | _,_,.non=>.non
 | _,_,.bl b=>.bl b
 | _,_,.int i=>.int i
 | _,_,.str z=>.str z
 | _,_,.lst h hs=>.lst (s _ _ h) (DHs.mono s hs)
 | _,_,.tup h hs=>.tup (s _ _ h) (DHs.mono s hs)
theorem DHs.mono{H H':Hp}(s:ZD H H'):∀ {xs:List V} {ds:List PyData},DHs H xs ds→DHs H' xs ds
 | _,_,.nil=>.nil
 | _,_,.cons h hs=>.cons (DH.mono s h) (DHs.mono s hs)
end
mutual
theorem DH.dv{K:PySem.W.Frag}{H:Hp}:∀ {x:V} {d:PyData},DH H x d→DV K H x d
 | _,_,.non=>.non
 | _,_,.bl b=>.bl b
 | _,_,.int i=>.int i
 | _,_,.str z=>.str z
 | _,_,.lst h hs=>.lst (SqL.of h) (DHs.dv hs)
 | _,_,.tup h hs=>.tup (SqT.of h) (DHs.dv hs)
theorem DHs.dv{K:PySem.W.Frag}{H:Hp}:∀ {xs:List V} {ds:List PyData},DHs H xs ds→DVs K H xs ds
 | _,_,.nil=>.nil
 | _,_,.cons h hs=>.cons (DH.dv h) (DHs.dv hs)
end
def tyD:PyData→String
 | .none => "NoneType"
 | .bool _ => "bool"
 | .int _ => "int"
 | .str _ => "str"
 | .tuple _ => "tuple"
 | _ => "list"
def isIntD:PyData→Bool
 | .int _=>true
 | _=>false
def isBoolD:PyData→Bool
 | .bool _=>true
 | _=>false
def isLstD:PyData→Bool
 | .list _=>true
 | _=>false
def isTupD:PyData→Bool
 | .tuple _=>true
 | _=>false
def isStrD:PyData→Bool
 | .str _=>true
 | _=>false
section
open PySem.W
end
theorem Zlh{kvs:List (Key×V)}{k:Key}{v:V}(h:Za0 kvs k=some v):(k,v)∈kvs:=by
 unfold Za0 at h
 obtain⟨p,hp,rfl⟩:=QaS.mp h
 have h1:=List.find?_some hp
 have h2:=List.mem_of_find?_eq_some hp
 have:p.1=k:=by simpa using h1
 rw[← this];exact h2
theorem Zhh{kvs:List (Key×V)}(hn:(kvs.map (·.1)).Nodup){k:Key}{v:V}(h:(k,v)∈kvs):Za0 kvs k=some v:=by
 induction kvs with
 | nil=>cases h
 | cons p r ih =>
  obtain⟨n1,n2⟩:=Q3.mp (by simpa using hn:(p.1::r.map (·.1)).Nodup)
  rcases Qz.mp h with rfl|h
  ·exact ZcB rfl
  ·rw[Zcy fun e=>n1 (e ▸ Qm (f:=(·.1)) h)]
   exact ih n2 h
def tOrK(K:PySem.W.Frag)(ta tb:TE):TE:=fun σ H Q=>ta σ H fun x H1=>∃k,Zo3 K x H1 k∧if k=true then Q x H1 else tb σ H1 Q
theorem ZlO{d:Addr}{o:Obj}{kvs:List (Key×V)}{k:Nat}{D:Addr}{σ:L2.St}{H1:Hp}{g:TG}{tc:TT}{te:TE}{Q:VK}(Pv:Nat→List V→L2.St→Hp→Prop)(h0:Pv 0 [] (σ++List.replicate k none) (upd H1 D (.lst [])))
  (hl:∀i ys σ H,Pv i ys σ H→H d=some (.frz o (.dK kvs)))
  (hs:∀i k x ys σ H,kvs[i]? = some (k,x)→Pv i ys σ H→g x σ H fun σ4 H4=>tc σ4 H4 fun b H5=>if b=true then te σ4 H5 fun y H6=>H6 D=some (.lst ys)∧ys.length<sizeLine∧Pv (i+1) (ys++[y]) σ4 (upd H6 D (.lst (ys++[y]))) else Pv (i+1) ys σ4 H5)
  (hd:∀ys σ H,Pv kvs.length ys σ H→Q (.ref D) H):ZdN (Itv d o kvs) D k σ H1 g tc te Q:=by
 refine⟨fun i m ys σ H=>m=kvs.length-i∧i≤kvs.length∧Pv i ys σ H,⟨kvs.length,by simp,Qv _,h0⟩,?_⟩
 rintro i m ys σ H ⟨rfl,hi,p⟩
 have q1:=hl i ys σ H p
 by_cases hlt:i<kvs.length
 ·refine .inr ⟨⟨q1,hlt⟩,Pv (i+1),fun ys' σ' H' p'=>⟨kvs.length-(i+1),by omega,rfl,hlt,p'⟩,fun x H' y=>?_⟩
  obtain⟨rfl,k',e⟩:=y
  exact hs i k' x ys σ _ e p
 ·have e:i=kvs.length:=by omega
  exact .inl ⟨⟨q1,by omega⟩,hd ys σ H (e ▸ p)⟩
def off(p:Addr)(H:Hp):Hp:=fun b=>if b=p then none else H b
section
variable {prog:Program} {w:World} {A:Around} {R:Result→Shared→Prop} {I:Addr} {fp wr:List Addr} {G:Array GenState→Array GenState→Prop} {n:Nat} {P:Nat→Value→Prop} {St:Nat→Shared→Prop} {K:Type} [DecidableEq K] {knd:KeyKind prog w K}
end
def rDPop:V→List V→Hp→VK→Prop:=fun x vs H Q=>∃a kvs k v,x=.ref a∧vs=[kV k]∧H a=some (.dK kvs)∧Za0 kvs k=some v∧Q v (upd H a (.dK (ZiB kvs k)))
def rDUpd(K:PySem.W.Frag):V→List V→Hp→VK→Prop:=fun x vs H Q=>∃ (D a:Addr) (kvs:List (Key×V)) (ts:List (Addr×Key×V)),x=.ref D∧vs=[.ref a]∧H D=some (.dK kvs)∧H a=some (.lst (ts.map fun t=>V.ref t.1))∧(∀t∈ts,H t.1=some (.tup [kV t.2.1,t.2.2]))∧ts.length≤1000∧kvs.length≤100000 ∧
 Q .non (upd H D (.dK (ZhT kvs (ts.map (·.2)))))
theorem Zmm{X:Cx}{s:Stmt}:PS X s (fun _ _ _=>False):=fun pins s' σ H D I h=>h.elim
def pairsAt(ts:List (Addr×Key×V))(l:Addr)(H:Hp):Hp:=fun b=>if b=l then some (.lst (ts.map fun t=>V.ref t.1)) else
 match ts.find? fun t=>decide (t.1=b) with
 | some t=>some (.tup [kV t.2.1,t.2.2])
 | none=>H b
def tLstItems(to:TE):TE:=fun σ H Q=>to σ H fun x H1=>∃d kvs,x=.ref d∧H1 d=some (.dK kvs) ∧
 ∀ (l:Addr) (ts:List (Addr×Key×V)) (H2:Hp),H1 l=none→ts.map (·.2)=kvs→(∀t∈ts,H1 t.1=none∧H2 t.1=some (.tup [kV t.2.1,t.2.2]))→(∀b o,H1 b=some o→H2 b=some o)→H2 l=some (.lst (ts.map fun t=>V.ref t.1))→Q (.ref l) H2
theorem ZmU{X:Cx}{k:Nat}{o e:Expr}{td ty:TE}{apos cpos:Pos}(hr:ZaA k X.A)(ho:PE X o td)(he:PE X e ty)(hb:attributeBase o "get" X.env (eval o X.env)=eval o X.env:=by rfl)
  (hl:(apos.endLine == cpos.line)=true:=by rfl) (ht:backTo cpos (starEach [e] X.env)=[(false,eval e X.env)]:=by rfl):PE X (.Call (.Attribute o "get" apos) [e] [] cpos) (Zj6 td ty):=by
 refine Zld (Zln hr) ho he ⟨hb,?_,hl,ht⟩
 rw[ht];rfl
section
variable {prog:Program} {w:World} {A:Around} {E:Value→Shared→Prop} {s:Shared} {l:Addr} {xs:Array (Int×Tok)}
end
def rMinQ(K:PySem.W.Frag):List V→Hp→VK→Prop:=fun vs H Q=>∃ (p:Addr) (ns:List Int),vs=[.ref p]∧SqT K H p (ns.map V.int)∧0<ns.length∧∀M,M∈ns→(∀a∈ns,M≤a)→Q (.int M) H
section
variable {X:Cx}
end
section
variable {X:Cx}
end
def tThawS(t:TS):TS:=fun D σ H=>∃d u,H d=some u∧Mut (some u)∧t ⟨fun σ' H'=>∃o,H' d=some (.frz o u)∧D.nx σ' (upd H' d u),fun _ _=>False,fun _ _=>False,fun _ _=>False⟩ σ H
def tCut(t u:TS):TS:=fun D σ H=>∃M:St→Hp→Prop,t { D with nx:=M } σ H∧∀σ' H',M σ' H'→u D σ' H'
section
variable {prog:Program} {w:World} {A:Around} {E:Value→Shared→Prop} {s:Shared} {K:Type} [DecidableEq K] {knd:KeyKind prog w K}
end
def rDictC:List V→Hp→VK→Prop:=fun xs H Q=>∃ (a:Addr) (kvs:List (Key×V)),xs=[.ref a]∧H a=some (.dK kvs)∧∀D,H D=none→Q (.ref D) (upd H D (.dK kvs))
section
variable {prog:Program} {w:World} {A:Around} {E:Value→Shared→Prop} {s:Shared} {K:Type} [DecidableEq K] {knd:HeapKind prog w K}
end
def rDictT:List V→Hp→VK→Prop:=fun xs H Q=>∃ (a:Addr) (kvs:List (List Key×V)),xs=[.ref a]∧H a=some (.dT kvs)∧(∀ (P:Program) (w:World),∀x∈kvs.map (·.1),∀y∈kvs.map (·.1),(tupleKind (ZP P w)).hash x=(tupleKind (ZP P w)).hash y→x=y)∧∀D,H D=none→Q (.ref D) (upd H D (.dT kvs))
def pairH(a b:Nat):Int:=reduceHash (Builtin.Tuple.tupleHashOf [hashInt (a:Int),hashInt (b:Int)])
def ZoO:List (Nat×Nat):=(List.range 36).flatMap fun b=>(List.range b).map fun a=>(a,b)
def apart:List Int→Bool
 | []=>true
 | x::r=>r.all (fun y=>x != y)&&apart r
structure CompScC (N N':List Str) (o c:Scope):Prop where
 kind:c.kind=.function
 okind:o.kind=.function
 cel:∀y∈c.names,y.2=.cell→c.names.lookup y.1=some .cell
 loc:∀y∈c.names,y.2=.local→c.names.lookup y.1=some .local
 free:∀y∈c.names,y.2=.free→c.names.lookup y.1=some .free∧(o.names.lookup y.1=some .cell∨o.names.lookup y.1=some .free)
 len:N.length≤N'.length
 same:∀i∈List.range N.length,∀x∈N'[i]?,c.names.lookup x=some .local∨c.names.lookup x=some .free∨c.names.lookup x=some .cell→c.names.lookup x=some .free∧N[i]? = some x
 nd:N'.Nodup
def Zo0(X:Cx)(c:Scope)(C:Addr):List (Str×Addr):=cellsFrom (C+1) c.names (Zaq X.env.cells c.names [])
def compCxC(X:Cx)(c:Scope)(N':List Str)(C:Addr)(s:Shared)(H:Hp)(fp:List Addr):Cx :=
 { X with N:=N',s₀:=s,H₀:=H,env:=compEnvC c (Zo0 X c C) C X.env,outer:=X.stack,stack:=X.stack,ex:=fp,fn:=fun x=>c.names.lookup x == some .cell,pn:=[],xe:=fun _ _=>False }
section
variable {X:Cx} {N N':List Str} {o c:Scope}
variable {x:Str} {pos:Pos} {C:Addr} {s:Shared} {H:Hp} {fp:List Addr}
end
section
variable {prog:Program} {w:World} {A:Around} {E:Value→Shared→Prop} {s:Shared}
end
def rTupR:List V→Hp→VK→Prop:=fun xs H Q=>∃ (p:Addr) (lo hi:Int),xs=[.ref p]∧H p=some (.rng lo hi) ∧ -(2 ^ 62)≤lo∧lo<2 ^ 62 ∧ -(2 ^ 62)≤hi∧hi<2 ^ 62∧(hi-lo).toNat≤1000 ∧
 ∀l,H l=none→Q (.ref l) (upd H l (.tup ((Zcm lo (hi-lo).toNat).map V.int)))
section
variable {prog:Program} {w:World} {A:Around} {R:Result→Shared→Prop} {I:Addr} {fp wr:List Addr} {G:Array GenState→Array GenState→Prop} {n:Nat} {P:Nat→Value→Prop} {St:Nat→Shared→Prop}
variable {K:Type} [DecidableEq K] {knd:KeyKind prog w K}
end
section
variable {prog:Program} {w:World} {A:Around} {E:Value→Shared→Prop} {s:Shared} {K:Type} [DecidableEq K] {knd:KeyKind prog w K}
end
def rDictU(K:PySem.W.Frag):List V→Hp→VK→Prop:=fun xs H Q=>∃ (a:Addr) (ts:List (Addr×Addr×List Key×V)),xs=[.ref a]∧SqL K H a (ts.map fun t=>V.ref t.1)∧(∀t∈ts,H t.1=some (.tup [.ref t.2.1,t.2.2.2])∧H t.2.1=some (.tup (t.2.2.1.map kV)))∧ts.length≤1000∧(ts.map (·.2.2.1)).Nodup ∧
 ∀D,H D=none→Q (.ref D) (upd H D (.dT (ts.map (·.2.2))))
def gallop':Bool→Keyed→Array Keyed→Nat→Nat→Nat→StateT SortSt Sem (Option Nat):=sortPriv% PySem.Builtin.gallop
def Has(κ:PyProof.Rows.KeyKind)(p:Keyed):Prop:=∃a,κ.keyOf p.1=some a
def kyd(κ:PyProof.Rows.KeyKind)(p:Keyed):κ.α:=(κ.keyOf p.1).getD κ.dflt
theorem Zj7{κ:PyProof.Rows.KeyKind}{xs:Array Keyed}{i:Nat}{p:Keyed}(h:xs[i]? = some p):KK κ xs i=kyd κ p:=by unfold KK kyd;rw[h]
def ZlE(left:Bool)(key:Keyed)(arr:Array Keyed)(base i:Nat):StateT SortSt Sem (Option Bool) :=
 elem' arr (base+i) >>= fun x=>if left=true then lt' x key else lt' key x >>= fun r=>pure (r.map (!·))
def gB(κ:PyProof.Rows.KeyKind)(left:Bool)(key p:Keyed):Bool:=if left then κ.blt (kyd κ p) (kyd κ key) else !κ.blt (kyd κ key) (kyd κ p)
section
variable {prog:Program} {w:World} {A:Around} {E:Value→Shared→Prop} {s:Shared} {κ:PyProof.Rows.KeyKind} {k0:SortKind} {a₀:Array Keyed} {st:SortSt}
theorem w_ltp(hL:ZdI prog w A s k0 κ)(hK:kindOf st=k0){p q:Keyed}(hp:Has κ p)(hq:Has κ q){Q:Option Bool→SortSt→Prop}(h:Q (some (κ.blt (kyd κ p) (kyd κ q))) st):wpS (model prog w) A E s (lt' p q) Q st:=by
 obtain⟨a,ha⟩:=hp
 obtain⟨b,hb⟩:=hq
 rw[lt'_eq]
 refine wpS_bind (wpS_get (wpS_bind (wpS_lift (wpAny_attempt ?_))))
 rw[hK]
 unfold kyd at h
 rw[ha,hb]at h
 exact hL _ p.1 q.1 _ _ _ ha hb ⟨rfl,wpS_pure h⟩
theorem w_ask(hL:ZdI prog w A s k0 κ)(hK:kindOf st=k0){left:Bool}{key p:Keyed}{arr:Array Keyed}{base i:Nat}(hkey:Has κ key)(hp:arr[base+i]? = some p)(hq:Has κ p){Q:Option Bool→SortSt→Prop}(q:Q (some (gB κ left key p)) st) :
  wpS (model prog w) A E s (ZlE left key arr base i) Q st:=by
 unfold ZlE
 refine wpS_bind (w_elem hp ?_)
 cases left with
 | true=>rw[if_pos rfl];exact w_ltp hL hK hq hkey q
 | false=>rw[if_neg (by decide)];exact wpS_bind (w_ltp hL hK hkey hq (wpS_pure q))
theorem w_gallop(hL:ZdI prog w A s k0 κ)(hK:kindOf st=k0){left:Bool}{key:Keyed}{arr:Array Keyed}{base n hint:Nat}(hh:hint<n)(hkey:Has κ key){B:Nat→Bool}
  (hB:∀i,i<n→∃p,arr[base+i]? = some p∧Has κ p∧B i=gB κ left key p) (mono:∀i j,i≤j→j<n→B j=true→B i=true)
  {Q:Option Nat→SortSt→Prop} (q:∀h,h≤n→(∀i,i<h→B i=true)→(∀i,h≤i→i<n→B i=false)→Q (some h) st):wpS (model prog w) A E s (gallop' left key arr base n hint) Q st:=by
 have ask:∀ (i:Nat) (Q:Option Bool→SortSt→Prop),i<n→Q (some (B i)) st→wpS (model prog w) A E s (ZlE left key arr base i) Q st:=fun i Q hi h=>by
  obtain⟨p,a,b,c⟩:=hB i hi
  rw[c]at h
  exact w_ask hL hK hkey a b h
 have no:∀i j,i≤j→j<n→B i=false→B j=false:=fun i j h1 h2 h=>by
  cases hb:B j with
  | true=>rw[mono i j h1 h2 hb]at h;cases h
  | false=>rfl
 show wpS _ _ _ _ (ZlE left key arr base hint >>= _) _ _
 refine wpS_bind (ask hint _ hh ?_)
 cases hb:B hint with
 | true =>
  show wpS _ _ _ _ (forIn [:n] (none,0,1) _ >>= _) _ _
  refine wpS_bind (wpS_mono (wpS_forRange (fun i c st'=>∃l o,c=(none,l,o)∧st'=st∧l<o∧l<n-hint∧i+1≤o∧B (hint+l)=true) (Q:=fun c st'=>∃l o,c=(none,l,o)∧st'=st∧l<o∧l<n-hint∧B (hint+l)=true∧(n-hint≤o∨B (hint+o)=false)) ?_ ?_ ⟨0,1,rfl,rfl,by omega,by omega,by omega,hb⟩) ?_)
  ·rintro i c st' _ hi ⟨l,o,rfl,rfl,b1,b2,b3,b4⟩
   show wpS _ _ _ _ (if o≥n-hint then _ else _) _ _
   by_cases e:o≥n-hint
   ·rw[if_pos e]
    exact wpS_pure ⟨l,o,rfl,rfl,b1,b2,b4,.inl e⟩
   ·rw[if_neg e]
    refine wpS_bind (ask _ _ (show hint+o<n by omega) ?_)
    cases hb2:B (hint+o) with
    | true=>exact wpS_pure ⟨o,2*o+1,rfl,rfl,by omega,by omega,by omega,hb2⟩
    | false=>exact wpS_pure ⟨l,o,rfl,rfl,b1,b2,b4,.inr hb2⟩
  ·rintro c st' ⟨l,o,rfl,rfl,b1,b2,b3,b4⟩
   exact⟨l,o,rfl,rfl,b1,b2,b4,.inl (by omega)⟩
  ·rintro c s1 ⟨l,o,rfl,rfl,a1,a2,a3,a4⟩
   have c3:∀i,i<(hint+l+1)→B i=true:=fun i hi=>mono i (hint+l) (by omega) (by omega) a3
   have c4:∀i,(hint+min o (n-hint))≤i→i<n→B i=false:=fun i h1 h2=>a4.elim (fun a4=>by omega) fun a4=>no (hint+o) i (by omega) h2 a4
   show wpS _ _ _ _ (forIn [:n] (none,(hint+l+1),(hint+min o (n-hint))) _ >>= _) _ _
   refine wpS_bind (wpS_forRange (fun i c st'=>∃l h,c=(none,l,h)∧st'=s1∧l≤h∧h≤n∧h-l≤n-i∧(∀i,i<l→B i=true)∧(∀i,h≤i→i<n→B i=false)) ?_ ?_ ⟨_,_,rfl,rfl,by omega,by omega,by omega,c3,c4⟩)
   ·rintro i c st' _ hi ⟨l,h,rfl,rfl,b1,b2,b3,b4,b5⟩
    show wpS _ _ _ _ (if l≥h then _ else _) _ _
    by_cases e:l≥h
    ·rw[if_pos e]
     exact wpS_pure (wpS_pure (q h b2 (fun i hi=>b4 i (by omega)) b5))
    ·rw[if_neg e]
     refine wpS_bind (ask _ _ (show l+(h-l) / 2<n by omega) ?_)
     cases hb:B (l+(h-l) / 2) with
     | true=>exact wpS_pure ⟨l+(h-l) / 2+1,h,rfl,rfl,by omega,b2,by omega,fun i hi=>mono i (l+(h-l) / 2) (by omega) (by omega) hb,b5⟩
     | false=>exact wpS_pure ⟨l,l+(h-l) / 2,rfl,rfl,by omega,by omega,by omega,b4,fun i h1 h2=>no _ i h1 h2 hb⟩
   ·rintro c st' ⟨l,h,rfl,rfl,b1,b2,b3,b4,b5⟩
    exact wpS_pure (q h b2 (fun i hi=>b4 i (by omega)) b5)
 | false =>
  show wpS _ _ _ _ (forIn [:n] (none,0,1) _ >>= _) _ _
  refine wpS_bind (wpS_mono (wpS_forRange (fun i c st'=>∃l o,c=(none,l,o)∧st'=st∧l<o∧l<hint+1∧i+1≤o∧B (hint-l)=false) (Q:=fun c st'=>∃l o,c=(none,l,o)∧st'=st∧l<o∧l<hint+1∧B (hint-l)=false∧(hint+1≤o∨B (hint-o)=true)) ?_ ?_ ⟨0,1,rfl,rfl,by omega,by omega,by omega,hb⟩) ?_)
  ·rintro i c st' _ hi ⟨l,o,rfl,rfl,b1,b2,b3,b4⟩
   show wpS _ _ _ _ (if o≥hint+1 then _ else _) _ _
   by_cases e:o≥hint+1
   ·rw[if_pos e]
    exact wpS_pure ⟨l,o,rfl,rfl,b1,b2,b4,.inl e⟩
   ·rw[if_neg e]
    refine wpS_bind (ask _ _ (show hint-o<n by omega) ?_)
    cases hb2:B (hint-o) with
    | false=>exact wpS_pure ⟨o,2*o+1,rfl,rfl,by omega,by omega,by omega,hb2⟩
    | true=>exact wpS_pure ⟨l,o,rfl,rfl,b1,b2,b4,.inr hb2⟩
  ·rintro c st' ⟨l,o,rfl,rfl,b1,b2,b3,b4⟩
   exact⟨l,o,rfl,rfl,b1,b2,b4,.inl (by omega)⟩
  ·rintro c s1 ⟨l,o,rfl,rfl,a1,a2,a3,a4⟩
   have c3:∀i,i<(hint+1-min o (hint+1))→B i=true:=fun i hi=>a4.elim (fun a4=>by omega) fun a4=>mono i (hint-o) (by omega) (by omega) a4
   have c4:∀i,(hint-l)≤i→i<n→B i=false:=fun i h1 h2=>no (hint-l) i h1 h2 a3
   show wpS _ _ _ _ (forIn [:n] (none,(hint+1-min o (hint+1)),(hint-l)) _ >>= _) _ _
   refine wpS_bind (wpS_forRange (fun i c st'=>∃l h,c=(none,l,h)∧st'=s1∧l≤h∧h≤n∧h-l≤n-i∧(∀i,i<l→B i=true)∧(∀i,h≤i→i<n→B i=false)) ?_ ?_ ⟨_,_,rfl,rfl,by omega,by omega,by omega,c3,c4⟩)
   ·rintro i c st' _ hi ⟨l,h,rfl,rfl,b1,b2,b3,b4,b5⟩
    show wpS _ _ _ _ (if l≥h then _ else _) _ _
    by_cases e:l≥h
    ·rw[if_pos e]
     exact wpS_pure (wpS_pure (q h b2 (fun i hi=>b4 i (by omega)) b5))
    ·rw[if_neg e]
     refine wpS_bind (ask _ _ (show l+(h-l) / 2<n by omega) ?_)
     cases hb:B (l+(h-l) / 2) with
     | true=>exact wpS_pure ⟨l+(h-l) / 2+1,h,rfl,rfl,by omega,b2,by omega,fun i hi=>mono i (l+(h-l) / 2) (by omega) (by omega) hb,b5⟩
     | false=>exact wpS_pure ⟨l,l+(h-l) / 2,rfl,rfl,by omega,by omega,by omega,b4,fun i h1 h2=>no _ i h1 h2 hb⟩
   ·rintro c st' ⟨l,h,rfl,rfl,b1,b2,b3,b4,b5⟩
    exact wpS_pure (q h b2 (fun i hi=>b4 i (by omega)) b5)
end
section
variable {κ:PyProof.Rows.KeyKind}
def kS(κ:PyProof.Rows.KeyKind)(l:List Keyed):Prop:=l.Pairwise fun p q=>κ.kle (kyd κ p) (kyd κ q)
def kLe(κ:PyProof.Rows.KeyKind)(l m:List Keyed):Prop:=∀x∈l,∀y∈m,κ.kle (kyd κ x) (kyd κ y)
theorem ZbB{l m:List Keyed}(a:kS κ l)(b:kS κ m)(c:kLe κ l m):kS κ (l++m):=Q7.mpr ⟨a,b,c⟩
theorem Zdi{l l' m:List Keyed}(a:kLe κ l m)(b:kLe κ l' m):kLe κ (l++l') m:=fun x hx y hy=>(Qk.mp hx).elim (fun h=>a x h y hy) fun h=>b x h y hy
theorem ZgK{l m m':List Keyed}(a:kLe κ l m)(b:kLe κ l m'):kLe κ l (m++m'):=fun x hx y hy=>(Qk.mp hy).elim (fun h=>a x hx y h) fun h=>b x hx y h
structure Mg (κ:PyProof.Rows.KeyKind) (all out l m:List Keyed):Prop where
 perm:(out++(l++m)).Perm all
 so:kS κ out
 sl:kS κ l
 sm:kS κ m
 ol:kLe κ out l
 om:kLe κ out m
theorem Mg.swap{all out l m:List Keyed}(M:Mg κ all out l m):Mg κ all out m l:=⟨(List.Perm.append_left _ List.perm_append_comm).trans M.perm,M.so,M.sm,M.sl,M.om,M.ol⟩
theorem Mg.put{all out x l m:List Keyed}(M:Mg κ all out (x++l) m)(h:kLe κ x m):Mg κ all (out++x) l m:=by
 have p:=Q7.mp M.sl
 refine⟨?_,ZbB M.so p.1 fun a ha b hb=>M.ol a ha b (QB _ hb),p.2.1,M.sm,Zdi (fun a ha b hb=>M.ol a ha b (Qh _ hb)) p.2.2,Zdi M.om h⟩
 have:=M.perm
 simpa [List.append_assoc] using this
theorem Mg.fin{all out l m:List Keyed}(M:Mg κ all out l m)(h:kLe κ l m):(out++l++m).Perm all∧kS κ (out++l++m) :=
 ⟨by rw[QT];exact M.perm,ZbB (ZbB M.so M.sl M.ol) M.sm (Zdi M.om h)⟩
structure Mh (κ:PyProof.Rows.KeyKind) (all l m out:List Keyed):Prop where
 perm:((l++m)++out).Perm all
 so:kS κ out
 sl:kS κ l
 sm:kS κ m
 lo:kLe κ l out
 mo:kLe κ m out
theorem Mh.swap{all out l m:List Keyed}(M:Mh κ all l m out):Mh κ all m l out:=⟨(QaT _ List.perm_append_comm).trans M.perm,M.so,M.sm,M.sl,M.mo,M.lo⟩
theorem Mh.put{all out x l m:List Keyed}(M:Mh κ all m (l++x) out)(h:kLe κ m x):Mh κ all m l (x++out):=by
 have p:=Q7.mp M.sm
 refine⟨?_,ZbB p.2.1 M.so fun a ha b hb=>M.mo a (Qh _ ha) b hb,M.sl,p.1,ZgK h M.lo,ZgK p.2.2 fun a ha b hb=>M.mo a (QB _ ha) b hb⟩
 have:=M.perm
 simpa [List.append_assoc] using this
theorem Mh.fin{all out l m:List Keyed}(M:Mh κ all l m out)(h:kLe κ l m):(l++m++out).Perm all∧kS κ (l++m++out) :=
 ⟨M.perm,ZbB (ZbB M.sl M.sm h) M.so (Zdi M.lo M.mo)⟩
theorem Z7{a:Array Keyed}{i:Nat}(h:i<a.size):a[i]? = some a[i]:=Array.getElem?_eq_getElem h
theorem Z1{a:Array Keyed}{i:Nat}(h:i<a.size):KK κ a i=kyd κ a[i]:=Zj7 (Z7 h)
theorem ZbT{a:Array Keyed}{i:Nat}{y:Keyed}(h:y∈a.toList.drop i):∃j,i≤j∧j<a.size∧kyd κ y=KK κ a j:=by
 obtain⟨j,hj,e⟩:=Qad.mp h
 rw[Qp,Qy]at hj
 refine⟨i+j,by omega,by omega,?_⟩
 rw[Z1 (by omega),← e,Qaw,QU]
theorem Zf5{a:Array Keyed}{i k:Nat}{y:Keyed}(h:y∈(a.toList.drop i).take k):∃j,i≤j∧j<i+k∧j<a.size∧kyd κ y=KK κ a j:=by
 obtain⟨j,hj,e⟩:=Qad.mp h
 rw[Qr,Qp,Qy]at hj
 refine⟨i+j,by omega,by omega,by omega,?_⟩
 rw[Z1 (by omega),← e,Qax,Qaw,QU]
theorem Zbu(a:Array Keyed)(i j:Nat):(a.extract i j).toList=(a.toList.drop i).take (j-i):=by
 rw[Array.toList_extract,List.extract_eq_take_drop]
theorem Zep(a:Array Keyed)(i:Nat):(a.extract i a.size).toList=a.toList.drop i:=by
 rw[Zbu,Qx (by rw[Qp,Qy];exact Qf _)]
theorem ZfW(a:Array Keyed)(j:Nat):(a.extract 0 j).toList=a.toList.take j:=by rw[Zbu,List.drop_zero,Nat.sub_zero]
theorem Zeu{a:Array Keyed}(h:kS κ a.toList):SortedToK κ a a.size:=fun i j hij hj=>by
 rw[Z1 (by omega),Z1 hj]
 by_cases e:i=j
 ·subst e;exact KeyOrd.kle_refl _
 ·have:=QaD.mp h i j (by rw[Qy];omega) (by rw[Qy];omega) (by omega)
  simpa using this
theorem ZgP{a:Array Keyed}{i:Nat}(h:i<a.size):a.toList.drop i=[a[i]]++a.toList.drop (i+1):=by
 rw[List.drop_eq_getElem_cons (by rw[Qy];exact h),QU];rfl
theorem ZgV{a:Array Keyed}{i:Nat}(h:i<a.size):a.toList.take (i+1)=a.toList.take i++[a[i]]:=by
 rw[List.take_succ_eq_append_getElem (by rw[Qy];exact h),QU]
theorem Zio{a:Array Keyed}{i:Nat}(h:a.size≤i):a.toList.drop i=[]:=QV (by rw[Qy];exact h)
theorem Zb3{a:Array Keyed}{i:Nat}{y:Keyed}(h:y∈a.toList.take i):∃j,j<i∧j<a.size∧kyd κ y=KK κ a j:=by
 obtain⟨j,hj,e⟩:=Qad.mp h
 rw[Qr,Qy]at hj
 refine⟨j,by omega,by omega,?_⟩
 rw[Z1 (by omega),← e,Qax,QU]
structure Zdt (κ:PyProof.Rows.KeyKind) (a b:Array Keyed):Prop where
 ha:∀p∈a.toList,Has κ p
 hb:∀p∈b.toList,Has κ p
 sa:kS κ a.toList
 sb:kS κ b.toList
 a0:0<a.size
 b0:0<b.size
 fst:∀i,i<a.size→κ.kle (KK κ b 0) (KK κ a i)
 lst:∀i,i<b.size→κ.kle (KK κ b i) (KK κ a (a.size-1))
theorem Zdt.hasA{a b:Array Keyed}(L:Zdt κ a b){i:Nat}(h:i<a.size):Has κ a[i]:=L.ha _ (by rw[← QU];exact QS _)
theorem Zdt.hasB{a b:Array Keyed}(L:Zdt κ a b){i:Nat}(h:i<b.size):Has κ b[i]:=L.hb _ (by rw[← QU];exact QS _)
def ZcW(κ:PyProof.Rows.KeyKind)(a b r:Array Keyed):Prop:=r.toList.Perm (a.toList++b.toList)∧kS κ r.toList
def Lo(κ:PyProof.Rows.KeyKind)(a b out:Array Keyed)(ia ib:Nat):Prop:=Mg κ (a.toList++b.toList) out.toList (a.toList.drop ia) (b.toList.drop ib)
variable {a b out:Array Keyed} {ia ib:Nat}
theorem Lo.takeA(M:Lo κ a b out ia ib)(k:Nat)(h:∀i j,ia≤i→i<ia+k→i<a.size→ib≤j→j<b.size→κ.kle (KK κ a i) (KK κ b j)):Lo κ a b (out++a.extract ia (ia+k)) (ia+k) ib:=by
 unfold Lo at M ⊢
 rw[← QZ k (a.toList.drop ia),List.drop_drop]at M
 have:=M.put fun x hx y hy=>by
  obtain⟨i,i1,i2,i3,e⟩:=Zf5 (κ:=κ) hx
  obtain⟨j,j1,j2,f⟩:=ZbT (κ:=κ) hy
  rw[e,f]
  exact h i j i1 i2 i3 j1 j2
 rw[QL,Zbu,show ia+k-ia=k by omega]
 exact this
theorem Lo.takeB(M:Lo κ a b out ia ib)(k:Nat)(h:∀i j,ib≤i→i<ib+k→i<b.size→ia≤j→j<a.size→κ.kle (KK κ b i) (KK κ a j)):Lo κ a b (out++b.extract ib (ib+k)) ia (ib+k):=by
 unfold Lo at M ⊢
 rw[← QZ k (b.toList.drop ib),List.drop_drop]at M
 have:=(M.swap.put fun x hx y hy=>by
  obtain⟨i,i1,i2,i3,e⟩:=Zf5 (κ:=κ) hx
  obtain⟨j,j1,j2,f⟩:=ZbT (κ:=κ) hy
  rw[e,f]
  exact h i j i1 i2 i3 j1 j2).swap
 rw[QL,Zbu,show ib+k-ib=k by omega]
 exact this
theorem Lo.pushA(M:Lo κ a b out ia ib)(hi:ia<a.size)(h:∀j,ib≤j→j<b.size→κ.kle (KK κ a ia) (KK κ b j)):Lo κ a b (out.push a[ia]) (ia+1) ib:=by
 unfold Lo at M ⊢
 rw[ZgP hi]at M
 rw[Qal]
 exact M.put fun x hx y hy=>by
  obtain⟨j,j1,j2,f⟩:=ZbT (κ:=κ) hy
  rw[Ql.mp hx,f,← Z1 hi]
  exact h j j1 j2
theorem Lo.pushB(M:Lo κ a b out ia ib)(hi:ib<b.size)(h:∀j,ia≤j→j<a.size→κ.kle (KK κ b ib) (KK κ a j)):Lo κ a b (out.push b[ib]) ia (ib+1):=by
 unfold Lo at M ⊢
 rw[ZgP hi]at M
 rw[Qal]
 exact(M.swap.put fun x hx y hy=>by
  obtain⟨j,j1,j2,f⟩:=ZbT (κ:=κ) hy
  rw[Ql.mp hx,f,← Z1 hi]
  exact h j j1 j2).swap
theorem Lo.done(M:Lo κ a b out ia ib)(h:a.size≤ia∨b.size≤ib):ZcW κ a b (out++a.extract ia a.size++b.extract ib b.size):=by
 unfold Lo at M
 have e:(out++a.extract ia a.size++b.extract ib b.size).toList=out.toList++a.toList.drop ia++b.toList.drop ib:=by rw[QL,QL,Zep,Zep]
 unfold ZcW
 rw[e]
 refine M.fin fun x hx y hy=>?_
 rcases h with h|h
 ·rw[Zio h]at hx;cases hx
 ·rw[Zio h]at hy;cases hy
theorem Lo.last(M:Lo κ a b out ia ib)(L:Zdt κ a b)(h:ia+1=a.size):ZcW κ a b (out++b.extract ib b.size++a.extract ia a.size):=by
 unfold Lo at M
 have e:(out++b.extract ib b.size++a.extract ia a.size).toList=out.toList++b.toList.drop ib++a.toList.drop ia:=by rw[QL,QL,Zep,Zep]
 unfold ZcW
 rw[e]
 refine M.swap.fin fun x hx y hy=>?_
 obtain⟨i,i1,i2,e1⟩:=ZbT (κ:=κ) hx
 obtain⟨j,j1,j2,e2⟩:=ZbT (κ:=κ) hy
 rw[e1,e2,show j=a.size-1 by omega]
 exact L.lst i i2
def Hi(κ:PyProof.Rows.KeyKind)(a b out:Array Keyed)(na nb:Nat):Prop:=Mh κ (a.toList++b.toList) (a.toList.take na) (b.toList.take nb) out.toList.reverse
variable {na nb:Nat}
theorem Zhb(a:Array Keyed){k n:Nat}(h:k≤n):a.toList.take n=a.toList.take k++(a.extract k n).toList:=by
 rw[Zbu,← List.drop_take]
 have:=QZ k (List.take n a.toList)
 rw[List.take_take,Q6 h]at this
 exact this.symm
theorem Zhn{a:Array Keyed}{i k:Nat}{y:Keyed}(h:y∈(a.extract i k).toList):∃j,i≤j∧j<k∧j<a.size∧kyd κ y=KK κ a j:=by
 rw[Zbu]at h
 obtain⟨j,j1,j2,j3,e⟩:=Zf5 (κ:=κ) h
 exact⟨j,j1,by omega,j3,e⟩
theorem Hi.takeB(M:Hi κ a b out na nb)(k:Nat)(hk:k≤nb)(h:∀i j,i<na→i<a.size→k≤j→j<nb→j<b.size→κ.kle (KK κ a i) (KK κ b j)):Hi κ a b (out++(b.extract k nb).reverse) na k:=by
 unfold Hi at M ⊢
 rw[Zhb b hk]at M
 have:=M.put fun x hx y hy=>by
  obtain⟨i,i1,i2,e⟩:=Zb3 (κ:=κ) hx
  obtain⟨j,j1,j2,j3,f⟩:=Zhn (κ:=κ) hy
  rw[e,f]
  exact h i j i1 i2 j1 j2 j3
 rw[QL,Qaz,QaF,List.reverse_reverse]
 exact this
theorem Hi.takeA(M:Hi κ a b out na nb)(k:Nat)(hk:k≤na)(h:∀i j,i<nb→i<b.size→k≤j→j<na→j<a.size→κ.kle (KK κ b i) (KK κ a j)):Hi κ a b (out++(a.extract k na).reverse) k nb:=by
 unfold Hi at M ⊢
 rw[Zhb a hk]at M
 have:=(M.swap.put fun x hx y hy=>by
  obtain⟨i,i1,i2,e⟩:=Zb3 (κ:=κ) hx
  obtain⟨j,j1,j2,j3,f⟩:=Zhn (κ:=κ) hy
  rw[e,f]
  exact h i j i1 i2 j1 j2 j3).swap
 rw[QL,Qaz,QaF,List.reverse_reverse]
 exact this
theorem Hi.pushB(M:Hi κ a b out na (nb+1))(hb:nb<b.size)(h:∀i,i<na→i<a.size→κ.kle (KK κ a i) (KK κ b nb)):Hi κ a b (out.push b[nb]) na nb:=by
 unfold Hi at M ⊢
 rw[ZgV hb]at M
 rw[Qal,QaF]
 exact M.put fun x hx y hy=>by
  obtain⟨i,i1,i2,e⟩:=Zb3 (κ:=κ) hx
  rw[Ql.mp hy,e,← Z1 hb]
  exact h i i1 i2
theorem Hi.pushA(M:Hi κ a b out (na+1) nb)(hb:na<a.size)(h:∀i,i<nb→i<b.size→κ.kle (KK κ b i) (KK κ a na)):Hi κ a b (out.push a[na]) na nb:=by
 unfold Hi at M ⊢
 rw[ZgV hb]at M
 rw[Qal,QaF]
 exact(M.swap.put fun x hx y hy=>by
  obtain⟨i,i1,i2,e⟩:=Zb3 (κ:=κ) hx
  rw[Ql.mp hy,e,← Z1 hb]
  exact h i i1 i2).swap
theorem Hi.done(M:Hi κ a b out na nb)(h:na=0∨nb=0):ZcW κ a b (a.extract 0 na++b.extract 0 nb++out.reverse):=by
 unfold Hi at M
 have e:(a.extract 0 na++b.extract 0 nb++out.reverse).toList=a.toList.take na++b.toList.take nb++out.toList.reverse:=by rw[QL,QL,ZfW,ZfW,Qaz]
 unfold ZcW
 rw[e]
 refine M.fin fun x hx y hy=>?_
 rcases h with h|h
 ·rw[h]at hx;cases hx
 ·rw[h]at hy;cases hy
theorem Hi.first(M:Hi κ a b out na nb)(L:Zdt κ a b)(h:nb=1):ZcW κ a b (b.extract 0 nb++a.extract 0 na++out.reverse):=by
 unfold Hi at M
 have e:(b.extract 0 nb++a.extract 0 na++out.reverse).toList=b.toList.take nb++a.toList.take na++out.toList.reverse:=by rw[QL,QL,ZfW,ZfW,Qaz]
 unfold ZcW
 rw[e]
 refine M.swap.fin fun x hx y hy=>?_
 obtain⟨i,i1,i2,e1⟩:=Zb3 (κ:=κ) hx
 obtain⟨j,j1,j2,e2⟩:=Zb3 (κ:=κ) hy
 rw[e1,e2,show i=0 by omega]
 exact L.fst j j2
end
def mergeLo':Array Keyed→Array Keyed→StateT SortSt Sem (Array Keyed):=sortPriv% PySem.Builtin.mergeLo
def mergeHi':Array Keyed→Array Keyed→StateT SortSt Sem (Array Keyed):=sortPriv% PySem.Builtin.mergeHi
def Sm(st st':SortSt):Prop:=kindOf st'=kindOf st∧arrOf st'=arrOf st∧pendingOf st'=pendingOf st∧failedOf st'=failedOf st
theorem Sm.rfl{st:SortSt}:Sm st st:=⟨Eq.refl _,Eq.refl _,Eq.refl _,Eq.refl _⟩
theorem Sm.trans{a b c:SortSt}(h:Sm a b)(h':Sm b c):Sm a c:=⟨h'.1.trans h.1,h'.2.1.trans h.2.1,h'.2.2.1.trans h.2.2.1,h'.2.2.2.trans h.2.2.2⟩
section
variable {prog:Program} {w:World} {A:Around} {E:Value→Shared→Prop} {s:Shared} {κ:PyProof.Rows.KeyKind} {k0:SortKind} {st:SortSt} {α β γ:Type}
theorem w_jp{c:Prop}[Decidable c]{x:β}{y:γ}{X Y:β→γ→StateT SortSt Sem α}{Q:α→SortSt→Prop}(P:β→γ→Prop)(H:∀o i,P o i→wpS (model prog w) A E s (Y o i) Q st)
  (hX:(∀o i,P o i→wpS (model prog w) A E s (Y o i) Q st)→c→wpS (model prog w) A E s (X x y) Q st) (hY:¬ c→P x y):∀o,x=o→∀i,y=i→wpS (model prog w) A E s (if c then X o i else Y o i) Q st:=by
 rintro _ rfl _ rfl
 by_cases h:c
 ·rw[if_pos h];exact hX H h
 ·rw[if_neg h];exact H x y (hY h)
theorem w_jp1{X Y:Nat→StateT SortSt Sem α}{Q:α→SortSt→Prop}(e:∀g,X g=Y (g-1))(H:∀g,wpS (model prog w) A E s (Y g) Q st):∀g,wpS (model prog w) A E s (if g>1 then X g else Y g) Q st:=by
 intro g
 by_cases h:g>1
 ·rw[if_pos h,e];exact H _
 ·rw[if_neg h];exact H g
theorem w_mg{m:StateT SortSt Sem PUnit}{g:Nat}(hm:m=modify fun s=>SortSt.mk' (kindOf s) (arrOf s) (pendingOf s) g (failedOf s)){Q:PUnit→SortSt→Prop}(q:∀st',Sm st st'→Q ⟨⟩ st'):wpS (model prog w) A E s m Q st:=by
 rw[hm]
 exact wpS_modify (q _ ⟨rfl,rfl,rfl,rfl⟩)
theorem w_bq{x y:Nat}{X Y:StateT SortSt Sem α}{Q:α→SortSt→Prop}(hX:x=y→wpS (model prog w) A E s X Q st)(hY:x≠y→wpS (model prog w) A E s Y Q st):wpS (model prog w) A E s (if (x == y)=true then X else Y) Q st:=by
 by_cases h:x=y
 ·rw[if_pos (by rw[h];exact beq_self_eq_true _)];exact hX h
 ·rw[if_neg (by intro z;exact h (eq_of_beq z))];exact hY h
theorem w_if{c:Prop}[Decidable c]{X Y:StateT SortSt Sem α}{Q:α→SortSt→Prop}(hX:c→wpS (model prog w) A E s X Q st)(hY:¬ c→wpS (model prog w) A E s Y Q st):wpS (model prog w) A E s (if c then X else Y) Q st:=by
 by_cases h:c
 ·rw[if_pos h];exact hX h
 ·rw[if_neg h];exact hY h
def Zj9(κ:PyProof.Rows.KeyKind)(a b:Array Keyed)(t:Nat)(out:Array Keyed)(ia ib:Nat):Prop:=Lo κ a b out ia ib∧ia+1<a.size∧ib<b.size∧t≤ia+ib
theorem w_lo(hL:ZdI prog w A s k0 κ)(hK:kindOf st=k0){a b:Array Keyed}(L:Zdt κ a b){Q:Array Keyed→SortSt→Prop}(q:∀r st',ZcW κ a b r→Sm st st'→Q r st'):wpS (model prog w) A E s (mergeLo' a b) Q st:=by
 have sA:=Zeu L.sa
 have sB:=Zeu L.sb
 show wpS _ _ _ _ (liftM (rule _) >>= _) _ _
 refine wpS_bind (wpS_lift (wpAny_rule ⟨rfl,?_⟩))
 refine wpS_bind (w_elem (Z7 L.b0) ?_)
 have M0:Lo κ a b #[b[0]'L.b0] 0 1:=by
  have h0:Lo κ a b #[] 0 0:=⟨by simp,List.Pairwise.nil,by simpa using L.sa,by simpa using L.sb,(fun x hx=>by cases hx),(fun x hx=>by cases hx)⟩
  exact h0.pushB L.b0 fun j _ hj=>L.fst j hj
 refine w_bq (fun h=>wpS_pure (q _ _ (M0.done (.inr (by omega))) Sm.rfl)) fun hb=>?_
 refine w_bq (fun h=>wpS_pure (q _ _ (M0.last L h) Sm.rfl)) fun ha=>?_
 have a0:=L.a0
 have b0:=L.b0
 refine wpS_bind (wpS_get ?_)
 refine wpS_bind (wpS_mono (wpS_forRange (fun i c st'=>∃out ia ib g,c=(none,out,ia,ib,g)∧Sm st st'∧Zj9 κ a b (i+1) out ia ib) (Q:=fun c st'=>∃r z,c=(some r,z)∧ZcW κ a b r∧Sm st st') ?_ ?_ ⟨_,0,1,_,rfl,Sm.rfl,M0,by omega,by omega,by omega⟩) ?_)
 ·rintro t c st1 _ ht ⟨out,ia,ib,g,rfl,S1,I1⟩
  dsimp only
  show wpS _ _ _ _ (forIn [:a.size+b.size] (none,out,ia,ib,0,0) _ >>= _) _ _
  refine wpS_bind (wpS_mono (wpS_forRange (fun i c st'=>∃out ia ib x y,c=(none,out,ia,ib,x,y)∧Sm st st'∧Zj9 κ a b (t+1+i) out ia ib)
   (Q:=fun c st'=>Sm st st'∧∃out ia ib x y,(∃r,c=(some r,out,ia,ib,x,y)∧ZcW κ a b r)∨(c=(none,out,ia,ib,x,y)∧Zj9 κ a b (t+2) out ia ib)) ?_ ?_ ⟨out,ia,ib,0,0,rfl,S1,I1⟩) ?_)
  ·rintro i c st2 _ hi ⟨out,ia,ib,x,y,rfl,S2,M,h1,h2,h3⟩
   dsimp only
   refine wpS_bind (w_elem (Z7 h2) (wpS_bind (w_elem (Z7 (show ia<a.size by omega)) (wpS_bind (w_ltp hL (S2.1.trans hK) (L.hasB h2) (L.hasA (by omega)) ?_)))))
   rw[← Z1,← Z1]
   cases hb:κ.blt (KK κ b ib) (KK κ a ia) with
   | true =>
    have M':=M.pushB h2 fun j j1 j2=>KeyOrd.kle_trans (KeyOrd.kle_of_klt hb) (sA ia j j1 j2)
    refine wpS_bind (w_elem (Z7 h2) ?_)
    refine w_bq (fun h=>wpS_pure ⟨S2,_,_,_,_,_,.inl ⟨_,rfl,M'.done (.inr (by omega))⟩⟩) fun hne=>?_
    refine w_if (fun _=>wpS_pure ⟨S2,_,_,_,_,_,.inr ⟨rfl,M',by omega,by omega,by omega⟩⟩) fun _=>wpS_pure ⟨_,_,_,_,_,rfl,S2,M',by omega,by omega,by omega⟩
   | false =>
    have M':=M.pushA (by omega) fun j j1 j2=>KeyOrd.kle_trans (show κ.kle (KK κ a ia) (KK κ b ib) from hb) (sB ib j j1 j2)
    refine wpS_bind (w_elem (Z7 (show ia<a.size by omega)) ?_)
    refine w_bq (fun h=>wpS_pure ⟨S2,_,_,_,_,_,.inl ⟨_,rfl,M'.last L h⟩⟩) fun hne=>?_
    refine w_if (fun _=>wpS_pure ⟨S2,_,_,_,_,_,.inr ⟨rfl,M',by omega,by omega,by omega⟩⟩) fun _=>wpS_pure ⟨_,_,_,_,_,rfl,S2,M',by omega,by omega,by omega⟩
  ·rintro c st2 ⟨out,ia,ib,x,y,rfl,S2,M,h1,h2,h3⟩
   exact⟨S2,_,_,_,_,_,.inr ⟨rfl,M,h1,h2,by omega⟩⟩
  ·rintro c st2 ⟨S2,out,ia,ib,x,y,⟨r,rfl,hr⟩|⟨rfl,I2⟩⟩
   ·exact wpS_pure ⟨r,_,rfl,hr,S2⟩
   dsimp only
   refine wpS_bind (wpS_lift (wpAny_rule ⟨rfl,?_⟩))
   show wpS _ _ _ _ (forIn [:a.size+b.size] (none,out,ia,ib,g+1,x,y) _ >>= _) _ _
   refine wpS_bind (wpS_mono (wpS_forRange (fun i c st'=>∃out ia ib g x y,c=(none,out,ia,ib,g,x,y)∧Sm st st'∧Zj9 κ a b (t+2) out ia ib)
    (Q:=fun c st'=>Sm st st'∧∃out ia ib g x y,(∃r,c=(some r,out,ia,ib,g,x,y)∧ZcW κ a b r)∨(c=(none,out,ia,ib,g,x,y)∧Zj9 κ a b (t+2) out ia ib)) ?_ ?_ ⟨out,ia,ib,g+1,x,y,rfl,S2,I2⟩) ?_)
   ·rintro i c st3 _ hi ⟨out,ia,ib,g,x,y,rfl,S3,M,h1,h2,h3⟩
    dsimp only
    revert g
    refine w_jp1 (fun _=>rfl) ?_
    rintro g
    refine wpS_bind (w_mg (g:=g) rfl fun st4 S4=>?_)
    have S4':=S3.trans S4
    refine wpS_bind (w_elem (Z7 h2) (wpS_bind ?_))
    refine w_gallop hL (S4'.1.trans hK) (B:=fun i=>!κ.blt (KK κ b ib) (KK κ a (ia+i))) (by omega) (L.hasB h2) (fun i hi=>⟨a[ia+i]'(by omega),Z7 (by omega),L.hasA (by omega),by rw[Z1 h2,Z1 (show ia+i<a.size by omega)];rfl⟩) (fun i j hij hj hB=>?_) fun k hk k1 k2=>?_
    ·have z:κ.kle (KK κ a (ia+j)) (KK κ b ib):=by simpa [KeyOrd.kle] using hB
     have:=KeyOrd.kle_trans (sA (ia+i) (ia+j) (by omega) (by omega)) z
     simpa [KeyOrd.kle] using this
    have k1':∀i,ia≤i→i<ia+k→κ.kle (KK κ a i) (KK κ b ib):=fun i i1 i2=>by
     have:=k1 (i-ia) (by omega)
     rw[show ia+(i-ia)=i by omega]at this
     simpa [KeyOrd.kle] using this
    have k2':∀i,ia+k≤i→i<a.size→κ.kle (KK κ b ib) (KK κ a i):=fun i i1 i2=>by
     have:=k2 (i-ia) (by omega) (by omega)
     rw[show ia+(i-ia)=i by omega]at this
     exact KeyOrd.kle_of_klt (show κ.blt _ _=true by simpa using this)
    generalize ho:out=o
    generalize hi:ia=i
    revert i hi
    revert o ho
    refine w_jp (fun out' ia'=>Lo κ a b out' ia' ib∧ia'+1<a.size∧ia≤ia'∧∀i,ia'≤i→i<a.size→κ.kle (KK κ b ib) (KK κ a i)) ?_ ?_ ?_
    ·rintro out' ia' ⟨M1,g1,g0,g2⟩
     show wpS _ _ _ _ (_ >>= _) _ _
     refine wpS_bind (w_elem (Z7 h2) ?_)
     have M2:=M1.pushB h2 g2
     refine w_bq (fun h=>wpS_pure ⟨S4',_,_,_,_,_,_,.inl ⟨_,rfl,M2.done (.inr (by omega))⟩⟩) fun hne=>?_
     refine wpS_bind (w_elem (Z7 (show ia'<a.size by omega)) (wpS_bind ?_))
     refine w_gallop hL (S4'.1.trans hK) (B:=fun i=>κ.blt (KK κ b (ib+1+i)) (KK κ a ia')) (by omega) (L.hasA (by omega)) (fun i hi=>⟨b[ib+1+i]'(by omega),Z7 (by omega),L.hasB (by omega),by rw[Z1 (show ia'<a.size by omega),Z1 (show ib+1+i<b.size by omega)];rfl⟩) (fun i j hij hj hB=>KeyOrd.klt_of_kle_of_klt (sB _ _ (by omega) (by omega)) hB) fun m hm m1 m2=>?_
     have m2':∀i,ib+1+m≤i→i<b.size→κ.kle (KK κ a ia') (KK κ b i):=fun i i1 i2=>by
      have:=m2 (i-(ib+1)) (by omega) (by omega)
      rw[show ib+1+(i-(ib+1))=i by omega]at this
      exact this
     have e1:ib<ib+1:=Qa2 _
     have e2:ib+1≤b.size:=h2
     generalize ho:out'.push b[ib]=o
     generalize hi:ib+1=i
     revert i hi
     revert o ho
     refine w_jp (fun o2 ib2=>Lo κ a b o2 ia' ib2∧ib2<b.size∧ib+1≤ib2∧∀i,ib2≤i→i<b.size→κ.kle (KK κ a ia') (KK κ b i)) ?_ ?_ ?_
     ·rintro o2 ib2 ⟨M3,n1,n0,n2⟩
      refine wpS_bind (w_elem (Z7 (show ia'<a.size by omega)) ?_)
      have M4:=M3.pushA (by omega) n2
      refine w_bq (fun h=>wpS_pure ⟨S4',_,_,_,_,_,_,.inl ⟨_,rfl,M4.last L h⟩⟩) fun hne2=>?_
      exact w_if (fun _=>wpS_pure ⟨S4',_,_,_,_,_,_,.inr ⟨rfl,M4,by omega,by omega,by omega⟩⟩) fun _=>wpS_pure ⟨_,_,_,_,_,_,rfl,S4',M4,by omega,by omega,by omega⟩
     ·intro H hm0
      have M3:=M2.takeB m fun i j l1 l2 l3 j1 j2=>by
       have:=m1 (i-(ib+1)) (by omega)
       rw[show ib+1+(i-(ib+1))=i by omega]at this
       exact KeyOrd.kle_trans (KeyOrd.kle_of_klt this) (sA ia' j j1 j2)
      refine w_bq (fun h=>wpS_pure ⟨S4',_,_,_,_,_,_,.inl ⟨_,rfl,M3.done (.inr (by omega))⟩⟩) fun hne2=>?_
      exact H _ _ ⟨M3,by omega,by omega,fun i j1 j2=>m2' i j1 j2⟩
     ·exact fun hm0=>⟨M2,by omega,Qf _,fun i l1 l2=>m2' i (by omega) l2⟩
    ·intro H hk0
     have M1:=M.takeA k fun i j i1 i2 i3 j1 j2=>KeyOrd.kle_trans (k1' i i1 i2) (sB ib j j1 j2)
     refine w_bq (fun h=>wpS_pure ⟨S4',_,_,_,_,_,_,.inl ⟨_,rfl,M1.last L h⟩⟩) fun hne=>?_
     refine w_bq (fun h=>wpS_pure ⟨S4',_,_,_,_,_,_,.inl ⟨_,rfl,M1.done (.inl (by omega))⟩⟩) fun hne2=>?_
     exact H _ _ ⟨M1,by omega,by omega,fun i j1 j2=>k2' i j1 j2⟩
    ·exact fun hk0=>⟨M,h1,Qf _,fun i i1 i2=>k2' i (by omega) i2⟩
   ·rintro c st3 ⟨out,ia,ib,g,x,y,rfl,S3,I3⟩
    exact⟨S3,_,_,_,_,_,_,.inr ⟨rfl,I3⟩⟩
   ·rintro c st3 ⟨S3,out,ia,ib,g,x,y,⟨r,rfl,hr⟩|⟨rfl,I3⟩⟩
    ·exact wpS_pure ⟨r,_,rfl,hr,S3⟩
    ·dsimp only
     exact wpS_bind (w_mg (g:=g+1) rfl fun st4 S4=>wpS_pure ⟨_,_,_,_,rfl,S3.trans S4,I3⟩)
 ·rintro c st1 ⟨out,ia,ib,g,rfl,S1,M,h1,h2,h3⟩
  omega
 ·rintro c st1 ⟨r,z,rfl,hr,S1⟩
  exact wpS_pure (q r _ hr S1)
end
section
variable {prog:Program} {w:World} {A:Around} {E:Value→Shared→Prop} {s:Shared} {κ:PyProof.Rows.KeyKind} {k0:SortKind} {st:SortSt} {α β γ:Type} {a b out:Array Keyed} {na nb:Nat}
theorem Hi.putA(M:Hi κ a b out na nb)(h0:0<na)(ha:na-1<a.size)(h:∀i,i<nb→i<b.size→κ.kle (KK κ b i) (KK κ a (na-1))):Hi κ a b (out.push a[na-1]) (na-1) nb:=by
 obtain⟨n,rfl⟩:∃n,na=n+1:=⟨na-1,by omega⟩
 exact M.pushA ha h
theorem Hi.putB(M:Hi κ a b out na nb)(h0:0<nb)(hb:nb-1<b.size)(h:∀i,i<na→i<a.size→κ.kle (KK κ a i) (KK κ b (nb-1))):Hi κ a b (out.push b[nb-1]) na (nb-1):=by
 obtain⟨n,rfl⟩:∃n,nb=n+1:=⟨nb-1,by omega⟩
 exact M.pushB hb h
def Zkq(κ:PyProof.Rows.KeyKind)(a b:Array Keyed)(t:Nat)(out:Array Keyed)(na nb:Nat):Prop:=Hi κ a b out na nb∧0<na∧1<nb∧na≤a.size∧nb≤b.size∧na+nb+t≤a.size+b.size
theorem w_hi(hL:ZdI prog w A s k0 κ)(hK:kindOf st=k0)(L:Zdt κ a b){Q:Array Keyed→SortSt→Prop}(q:∀r st',ZcW κ a b r→Sm st st'→Q r st'):wpS (model prog w) A E s (mergeHi' a b) Q st:=by
 have sA:=Zeu L.sa
 have sB:=Zeu L.sb
 have a0:=L.a0
 have b0:=L.b0
 show wpS _ _ _ _ (liftM (rule _) >>= _) _ _
 refine wpS_bind (wpS_lift (wpAny_rule ⟨rfl,?_⟩))
 refine wpS_bind (w_elem (Z7 (show a.size-1<a.size by omega)) ?_)
 have M0:Hi κ a b #[a[a.size-1]] (a.size-1) b.size:=by
  have h0:Hi κ a b #[] a.size b.size:=⟨by simp[List.take_of_length_le],List.Pairwise.nil,by simpa [List.take_of_length_le] using L.sa,by simpa [List.take_of_length_le] using L.sb,(fun x _ y hy=>by cases hy),(fun x _ y hy=>by cases hy)⟩
  exact h0.putA a0 (by omega) fun i _ hi=>L.lst i hi
 refine w_bq (fun h=>wpS_pure (q _ _ (M0.done (.inl h)) Sm.rfl)) fun ha=>?_
 refine w_bq (fun h=>wpS_pure (q _ _ (M0.first L h) Sm.rfl)) fun hb=>?_
 refine wpS_bind (wpS_get ?_)
 refine wpS_bind (wpS_mono (wpS_forRange (fun i c st'=>∃na nb out g,c=(none,na,nb,out,g)∧Sm st st'∧Zkq κ a b (i+1) out na nb) (Q:=fun c st'=>∃r z,c=(some r,z)∧ZcW κ a b r∧Sm st st') ?_ ?_ ⟨_,_,_,_,rfl,Sm.rfl,M0,by omega,by omega,by omega,by omega,by omega⟩) ?_)
 ·rintro t c st1 _ ht ⟨na,nb,out,g,rfl,S1,I1⟩
  dsimp only
  refine wpS_bind (wpS_mono (wpS_forRange (fun i c st'=>∃na nb out x y,c=(none,na,nb,out,x,y)∧Sm st st'∧Zkq κ a b (t+1+i) out na nb)
   (Q:=fun c st'=>Sm st st'∧∃na nb out x y,(∃r,c=(some r,na,nb,out,x,y)∧ZcW κ a b r)∨(c=(none,na,nb,out,x,y)∧Zkq κ a b (t+2) out na nb)) ?_ ?_ ⟨na,nb,out,0,0,rfl,S1,I1⟩) ?_)
  ·rintro i c st2 _ hi ⟨na,nb,out,x,y,rfl,S2,M,h1,h2,h3,h4,h5⟩
   dsimp only
   refine wpS_bind (w_elem (Z7 (show nb-1<b.size by omega)) (wpS_bind (w_elem (Z7 (show na-1<a.size by omega)) (wpS_bind (w_ltp hL (S2.1.trans hK) (L.hasB (by omega)) (L.hasA (by omega)) ?_)))))
   rw[← Z1,← Z1]
   cases hb:κ.blt (KK κ b (nb-1)) (KK κ a (na-1)) with
   | true =>
    have M':=M.putA h1 (by omega) fun i j1 j2=>KeyOrd.kle_trans (sB i (nb-1) (by omega) (by omega)) (KeyOrd.kle_of_klt hb)
    refine wpS_bind (w_elem (Z7 (show na-1<a.size by omega)) ?_)
    refine w_bq (fun h=>wpS_pure ⟨S2,_,_,_,_,_,.inl ⟨_,rfl,M'.done (.inl h)⟩⟩) fun hne=>?_
    exact w_if (fun _=>wpS_pure ⟨S2,_,_,_,_,_,.inr ⟨rfl,M',by omega,by omega,by omega,by omega,by omega⟩⟩) fun _=>wpS_pure ⟨_,_,_,_,_,rfl,S2,M',by omega,by omega,by omega,by omega,by omega⟩
   | false =>
    have M':=M.putB (by omega) (by omega) fun i j1 j2=>KeyOrd.kle_trans (sA i (na-1) (by omega) (by omega)) (show κ.kle (KK κ a (na-1)) (KK κ b (nb-1)) from hb)
    refine wpS_bind (w_elem (Z7 (show nb-1<b.size by omega)) ?_)
    refine w_bq (fun h=>wpS_pure ⟨S2,_,_,_,_,_,.inl ⟨_,rfl,M'.first L h⟩⟩) fun hne=>?_
    exact w_if (fun _=>wpS_pure ⟨S2,_,_,_,_,_,.inr ⟨rfl,M',by omega,by omega,by omega,by omega,by omega⟩⟩) fun _=>wpS_pure ⟨_,_,_,_,_,rfl,S2,M',by omega,by omega,by omega,by omega,by omega⟩
  ·rintro c st2 ⟨na,nb,out,x,y,rfl,S2,M,h1,h2,h3,h4,h5⟩
   exact⟨S2,_,_,_,_,_,.inr ⟨rfl,M,h1,h2,h3,h4,by omega⟩⟩
  ·rintro c st2 ⟨S2,na,nb,out,x,y,⟨r,rfl,hr⟩|⟨rfl,I2⟩⟩
   ·exact wpS_pure ⟨r,_,rfl,hr,S2⟩
   dsimp only
   refine wpS_bind (wpS_lift (wpAny_rule ⟨rfl,?_⟩))
   refine wpS_bind (wpS_mono (wpS_forRange (fun i c st'=>∃na nb out g x y,c=(none,na,nb,out,g,x,y)∧Sm st st'∧Zkq κ a b (t+2) out na nb)
    (Q:=fun c st'=>Sm st st'∧∃na nb out g x y,(∃r,c=(some r,na,nb,out,g,x,y)∧ZcW κ a b r)∨(c=(none,na,nb,out,g,x,y)∧Zkq κ a b (t+2) out na nb)) ?_ ?_ ⟨na,nb,out,g+1,x,y,rfl,S2,I2⟩) ?_)
   ·rintro i c st3 _ hi ⟨na,nb,out,g,x,y,rfl,S3,M,h1,h2,h3,h4,h5⟩
    dsimp only
    revert g
    refine w_jp1 (fun _=>rfl) ?_
    rintro g
    refine wpS_bind (w_mg (g:=g) rfl fun st4 S4=>?_)
    have S4':=S3.trans S4
    have hb1:nb-1<b.size:=by omega
    refine wpS_bind (w_elem (Z7 hb1) (wpS_bind ?_))
    refine w_gallop hL (S4'.1.trans hK) (B:=fun i=>!κ.blt (KK κ b (nb-1)) (KK κ a (0+i))) (by omega) (L.hasB hb1) (fun i hi=>⟨a[0+i]'(by omega),Z7 (by omega),L.hasA (by omega),by rw[Z1 hb1,Z1 (show 0+i<a.size by omega)];rfl⟩) (fun i j hij hj hB=>?_) fun f hf k1 k2=>?_
    ·have z:κ.kle (KK κ a (0+j)) (KK κ b (nb-1)):=by simpa [KeyOrd.kle] using hB
     have:=KeyOrd.kle_trans (sA (0+i) (0+j) (by omega) (by omega)) z
     simpa [KeyOrd.kle] using this
    have k1':∀i,i<f→κ.kle (KK κ a i) (KK κ b (nb-1)):=fun i i1=>by
     have:=k1 i i1
     rw[Nat.zero_add]at this
     simpa [KeyOrd.kle] using this
    have k2':∀i,f≤i→i<na→κ.klt (KK κ b (nb-1)) (KK κ a i):=fun i i1 i2=>by
     have:=k2 i i1 i2
     rw[Nat.zero_add]at this
     exact(show κ.blt _ _=true by simpa using this)
    dsimp only
    generalize hk:na-f=k
    generalize ho:na=o
    generalize hi:out=i
    revert i hi
    revert o ho
    refine w_jp (fun na' out'=>Hi κ a b out' na' nb∧0<na'∧na'≤na∧∀i,i<na'→κ.kle (KK κ a i) (KK κ b (nb-1))) ?_ ?_ ?_
    ·rintro na' out' ⟨M1,g1,g0,g2⟩
     refine wpS_bind (w_elem (Z7 hb1) ?_)
     have M2:=M1.putB (by omega) hb1 fun i i1 _=>g2 i i1
     refine w_bq (fun h=>wpS_pure ⟨S4',_,_,_,_,_,_,.inl ⟨_,rfl,M2.first L h⟩⟩) fun hne=>?_
     have ha1:na'-1<a.size:=by omega
     refine wpS_bind (w_elem (Z7 ha1) (wpS_bind ?_))
     refine w_gallop hL (S4'.1.trans hK) (B:=fun i=>κ.blt (KK κ b (0+i)) (KK κ a (na'-1))) (by omega) (L.hasA ha1) (fun i hi=>⟨b[0+i]'(by omega),Z7 (by omega),L.hasB (by omega),by rw[Z1 ha1,Z1 (show 0+i<b.size by omega)];rfl⟩) (fun i j hij hj hB=>KeyOrd.klt_of_kle_of_klt (sB _ _ (by omega) (by omega)) hB) fun m hm m1 m2=>?_
     have m1':∀i,i<m→κ.kle (KK κ b i) (KK κ a (na'-1)):=fun i i1=>by
      have:=m1 i i1
      rw[Nat.zero_add]at this
      exact KeyOrd.kle_of_klt this
     have m2':∀i,m≤i→i<nb-1→κ.kle (KK κ a (na'-1)) (KK κ b i):=fun i i1 i2=>by
      have:=m2 i i1 i2
      rw[Nat.zero_add]at this
      exact this
     dsimp only
     generalize hk2:nb-1-m=k2
     generalize hi:out'.push b[nb-1]=i
     generalize ho:nb-1=o
     revert i hi
     revert o ho
     refine w_jp (fun nb2 o2=>Hi κ a b o2 na' nb2∧1<nb2∧nb2≤nb-1∧∀i,i<nb2→κ.kle (KK κ b i) (KK κ a (na'-1))) ?_ ?_ ?_
     ·rintro nb2 o2 ⟨M3,n1,n0,n2⟩
      refine wpS_bind (w_elem (Z7 ha1) ?_)
      have M4:=M3.putA g1 ha1 fun i i1 _=>n2 i i1
      refine w_bq (fun h=>wpS_pure ⟨S4',_,_,_,_,_,_,.inl ⟨_,rfl,M4.done (.inl h)⟩⟩) fun hne2=>?_
      exact w_if (fun _=>wpS_pure ⟨S4',_,_,_,_,_,_,.inr ⟨rfl,M4,by omega,by omega,by omega,by omega,by omega⟩⟩) fun _=>wpS_pure ⟨_,_,_,_,_,_,rfl,S4',M4,by omega,by omega,by omega,by omega,by omega⟩
     ·intro H hm0
      have M3:=M2.takeB m hm fun i j i1 i2 j1 j2 j3=>KeyOrd.kle_trans (sA i (na'-1) (by omega) (by omega)) (m2' j j1 j2)
      refine w_bq (fun h=>wpS_pure ⟨S4',_,_,_,_,_,_,.inl ⟨_,rfl,M3.first L h⟩⟩) fun hne2=>?_
      refine w_bq (fun h=>wpS_pure ⟨S4',_,_,_,_,_,_,.inl ⟨_,rfl,M3.done (.inr h)⟩⟩) fun hne3=>?_
      exact H _ _ ⟨M3,by omega,hm,m1'⟩
     ·exact fun hm0=>⟨M2,by omega,Qf _,fun i l1=>m1' i (by omega)⟩
    ·intro H hk0
     have M1:=M.takeA f hf fun i j i1 i2 j1 j2 j3=>KeyOrd.kle_trans (sB i (nb-1) (by omega) (by omega)) (KeyOrd.kle_of_klt (k2' j j1 j2))
     refine w_bq (fun h=>wpS_pure ⟨S4',_,_,_,_,_,_,.inl ⟨_,rfl,M1.done (.inl h)⟩⟩) fun hne=>?_
     exact H _ _ ⟨M1,by omega,hf,k1'⟩
    ·exact fun hk0=>⟨M,h1,Qf _,fun i i1=>k1' i (by omega)⟩
   ·rintro c st3 ⟨na,nb,out,g,x,y,rfl,S3,I3⟩
    exact⟨S3,_,_,_,_,_,_,.inr ⟨rfl,I3⟩⟩
   ·rintro c st3 ⟨S3,na,nb,out,g,x,y,⟨r,rfl,hr⟩|⟨rfl,I3⟩⟩
    ·exact wpS_pure ⟨r,_,rfl,hr,S3⟩
    ·dsimp only
     exact wpS_bind (w_mg (g:=g+1) rfl fun st4 S4=>wpS_pure ⟨_,_,_,_,rfl,S3.trans S4,I3⟩)
 ·rintro c st1 ⟨na,nb,out,g,rfl,S1,M,h1,h2,h3,h4,h5⟩
  omega
 ·rintro c st1 ⟨r,z,rfl,hr,S1⟩
  exact wpS_pure (q r _ hr S1)
end
def ZdU:Nat→List (List Keyed)→List (Nat×Nat)
 | _,[]=>[]
 | o,r::rs=>(o,r.length)::ZdU (o+r.length) rs
theorem Zdv:∀ (o:Nat) (l m:List (List Keyed)),ZdU o (l++m)=ZdU o l++ZdU (o+l.flatten.length) m
 | o,[],m=>by simp[ZdU]
 | o,r::l,m=>by simp[ZdU,Zdv (o+r.length) l m,Nat.add_assoc]
theorem ZeW:∀ (o:Nat) (l:List (List Keyed)),(ZdU o l).length=l.length
 | _,[]=>rfl
 | o,r::l=>by simp[ZdU,ZeW (o+r.length) l]
def ZbE(p:Nat×Nat×Nat):Nat×Nat:=(p.1,p.2.1)
section
variable {prog:Program} {w:World} {A:Around} {E:Value→Shared→Prop} {s:Shared} {κ:PyProof.Rows.KeyKind} {k0:SortKind} {st:SortSt} {a₀:Array Keyed}
structure Rn (κ:PyProof.Rows.KeyKind) (k0:SortKind) (a₀:Array Keyed) (st:SortSt) (rs:List (List Keyed)) (rest:List Keyed):Prop where
 kind:kindOf st=k0
 failed:failedOf st=none
 arr:(arrOf st).toList=rs.flatten++rest
 perm:(arrOf st).Perm a₀
 srt:∀r∈rs,kS κ r
 ne:∀r∈rs,r≠[]
 pend:(pendingOf st).toList.map ZbE=ZdU 0 rs
theorem Zhs{sa:Nat}{R:List Keyed}:∀ (r S L:List Keyed) (n:Nat) (xs:Array Keyed),xs.toList=L++S++R→L.length=sa+n→S.length=r.length→((r.zipIdx n).foldl (fun a x=>a.setIfInBounds (sa+x.2) x.1) xs).toList=L++r++R
 | [],S,L,n,xs,h,_,h2=>by
  have:S=[]:=QI h2
  subst this
  simpa using h
 | p::r,[],L,n,xs,h,_,h2=>by cases h2
 | p::r,q::S,L,n,xs,h,h1,h2=>by
  rw[List.zipIdx_cons,List.foldl_cons]
  have e:(xs.setIfInBounds (sa+n) p).toList=(L++[p])++S++R:=by
   rw[Array.toList_setIfInBounds,h,← h1]
   simp
  have:=Zhs (sa:=sa) (R:=R) r S (L++[p]) (n+1) _ e (by simp;omega) (by simpa using h2)
  simpa using this
theorem Zgl{xs:Array Keyed}{L x R:List Keyed}(h:xs.toList=L++x++R){i:Nat}(hi:i<x.length):xs[L.length+i]? = some x[i]:=by
 rw[← QR,h,QT,QN (by omega),QaN,Q5 hi,Qa hi]
theorem ZlM{left:Bool}{key p q:Keyed}(h:κ.kle (kyd κ p) (kyd κ q))(hq:gB κ left key q=true):gB κ left key p=true:=by
 unfold gB at *
 cases left with
 | true=>exact KeyOrd.klt_of_kle_of_klt h (show κ.klt _ _ from hq)
 | false =>
  have z:κ.kle (kyd κ q) (kyd κ key):=by simpa [KeyOrd.kle] using hq
  simpa [KeyOrd.kle] using KeyOrd.kle_trans h z
theorem w_galL(hL:ZdI prog w A s k0 κ)(hK:kindOf st=k0){left:Bool}{key:Keyed}{xs:Array Keyed}{L x R:List Keyed}{base n hint:Nat}(e:xs.toList=L++x++R)(hb:base=L.length)(hn:n=x.length)(hh:hint<n)(hkey:Has κ key)(hx:∀p∈x,Has κ p)(sx:kS κ x)
  {Q:Option Nat→SortSt→Prop} (q:∀h,h≤n→(∀p∈x.take h,gB κ left key p=true)→(∀p∈x.drop h,gB κ left key p=false)→Q (some h) st):wpS (model prog w) A E s (gallop' left key xs base n hint) Q st:=by
 subst hb hn
 refine w_gallop hL hK (B:=fun i=>if h:i<x.length then gB κ left key x[i] else false) hh hkey (fun i hi=>⟨x[i],Zgl e hi,hx _ (QS hi),by rw[dif_pos hi]⟩) (fun i j hij hj hB=>?_) fun h hh k1 k2=>q h hh (fun p hp=>?_) fun p hp=>?_
 ·rw[dif_pos hj]at hB
  rw[dif_pos (by omega)]
  by_cases eq:i=j
  ·subst eq;exact hB
  ·exact ZlM (QaD.mp sx i j (by omega) hj (by omega)) hB
 ·obtain⟨i,hi,rfl⟩:=Qad.mp hp
  rw[Qr]at hi
  have:=k1 i (by omega)
  rw[dif_pos (by omega)]at this
  rw[Qax]
  exact this
 ·obtain⟨i,hi,rfl⟩:=Qad.mp hp
  rw[Qp]at hi
  have:=k2 (h+i) (by omega) (by omega)
  rw[dif_pos (by omega)]at this
  rw[Qaw]
  exact this
theorem Zok(a:List Keyed)(k:Nat)(b c:List Keyed):a++b++c=a++b.take k++b.drop k++c:=by rw[QT a (b.take k),QZ]
theorem Zpt(a:List Keyed)(k:Nat)(b c:List Keyed):a++b++c=a++b.take k++(b.drop k++c):=by rw[← QT,← Zok]
theorem Zob(k f:Nat)(b c:List Keyed):b.take k++(b.drop k++c.take f)++c.drop f=b++c:=by rw[← QT,QZ,QT,QZ]
theorem Zpr(a:List Keyed)(k f:Nat)(b c d:List Keyed):a++b++(c++d)=(a++b.take k)++(b.drop k++c.take f)++(c.drop f++d):=by
 have:=Zob k f b c
 simp only[List.append_assoc]at this ⊢
 rw[← QT b,← this]
 simp only[List.append_assoc]
theorem ZiE{xs:Array Keyed}{L v R:List Keyed}{i j:Nat}(h:xs.toList=L++v++R)(hi:i=L.length)(hj:j=L.length+v.length):(xs.extract i j).toList=v:=by
 subst hi hj
 rw[Zbu,h,QT,List.drop_left,QaN,List.take_left]
theorem Zgf{x y:List Keyed}(h:kS κ x)(s:y.Sublist x):kS κ y:=List.Pairwise.sublist s h
theorem Zmx{key p:Keyed}(h:gB κ false key p=true):κ.kle (kyd κ p) (kyd κ key):=by unfold gB at h;simpa [KeyOrd.kle] using h
theorem gB_f'{key p:Keyed}(h:gB κ false key p=false):κ.kle (kyd κ key) (kyd κ p):=by unfold gB at h;exact KeyOrd.kle_of_klt (show κ.blt _ _=true by simpa using h)
theorem ZoF{key p:Keyed}(h:gB κ true key p=true):κ.kle (kyd κ p) (kyd κ key):=KeyOrd.kle_of_klt (show κ.blt _ _=true from h)
theorem gB_t'{key p:Keyed}(h:gB κ true key p=false):κ.kle (kyd κ key) (kyd κ p):=h
theorem ZjX{p:Keyed}{x:List Keyed}(h:kS κ (p::x)):∀q∈p::x,κ.kle (kyd κ p) (kyd κ q):=fun q hq=>(Qz.mp hq).elim (fun e=>by rw[e];exact KeyOrd.kle_refl _) fun hq=>(Qap.mp h).1 q hq
theorem ZmA{p:Keyed}{x:List Keyed}(h:kS κ (x++[p])):∀q∈x++[p],κ.kle (kyd κ q) (kyd κ p):=fun q hq=>(Qk.mp hq).elim (fun hq=>(Q7.mp h).2.2 q hq p (List.mem_singleton.mpr rfl)) fun e=>by rw[Ql.mp e];exact KeyOrd.kle_refl _
theorem Rn.has{rs:List (List Keyed)}{rest:List Keyed}(R:Rn κ k0 a₀ st rs rest)(hk:PyProof.Rows.KeysOf κ a₀){p:Keyed}(h:p∈(arrOf st).toList):Has κ p:=hk p ((Array.perm_iff_toList_perm.mp R.perm).mem_iff.mp h)
theorem Rn.up{l:List (List Keyed)}{x y:List Keyed}{m:List (List Keyed)}{rest:List Keyed}(R:Rn κ k0 a₀ st (l++x::y::m) rest){st':SortSt}{z:List Keyed}(hk:kindOf st'=k0)(hf:failedOf st'=none)(ha:(arrOf st').toList=l.flatten++z++(m.flatten++rest))(hz:z.Perm (x++y))(sz:kS κ z)
  (hp:(pendingOf st').toList.map ZbE=ZdU 0 (l++z::m)):Rn κ k0 a₀ st' (l++z::m) rest:=by
 refine⟨hk,hf,by rw[ha];simp,?_,?_,?_,hp⟩
 ·refine Array.Perm.trans ?_ R.perm
  rw[Array.perm_iff_toList_perm,ha,R.arr]
  have:(l.flatten++z++(m.flatten++rest)).Perm (l.flatten++(x++y)++(m.flatten++rest)):=QaT _ (List.Perm.append_left _ hz)
  simpa [List.append_assoc] using this
 ·intro r hr
  rcases Qk.mp hr with h|h
  ·exact R.srt r (QB _ h)
  ·rcases Qz.mp h with rfl|h
   ·exact sz
   ·exact R.srt r (Qh _ (Qi _ (Qi _ h)))
 ·intro r hr
  rcases Qk.mp hr with h|h
  ·exact R.ne r (QB _ h)
  ·rcases Qz.mp h with rfl|h
   ·intro e
    rw[e]at hz
    have e2:=hz.nil_eq
    exact R.ne x (Qh _ (QA ..)) (List.append_eq_nil_iff.mp e2.symm).1
   ·exact R.ne r (Qh _ (Qi _ (Qi _ h)))
theorem w_at(hL:ZdI prog w A s k0 κ)(hk:PyProof.Rows.KeysOf κ a₀){l:List (List Keyed)}{x y:List Keyed}{m:List (List Keyed)}{rest:List Keyed}(R:Rn κ k0 a₀ st (l++x::y::m) rest){Q:Bool→SortSt→Prop}
  (q:∀st' z,Rn κ k0 a₀ st' (l++z::m) rest→z.length=x.length+y.length→Q true st'):wpS (model prog w) A E s (mergeAt' l.length) Q st:=by
 have hx:x≠[]:=R.ne x (Qh _ (QA ..))
 have hy:y≠[]:=R.ne y (Qh _ (Qi _ (QA ..)))
 have sx:kS κ x:=R.srt x (Qh _ (QA ..))
 have sy:kS κ y:=R.srt y (Qh _ (Qi _ (QA ..)))
 have arr:(arrOf st).toList=l.flatten++x++(y++(m.flatten++rest)):=by rw[R.arr];simp
 have arr2:(arrOf st).toList=(l.flatten++x)++y++(m.flatten++rest):=by rw[R.arr];simp
 have hasx:∀p∈x,Has κ p:=fun p hp=>R.has hk (by rw[arr];exact QB _ (Qh _ hp))
 have hasy:∀p∈y,Has κ p:=fun p hp=>R.has hk (by rw[arr2];exact QB _ (Qh _ hp))
 have K1:∀P g,kindOf (SortSt.mk' (kindOf st) (arrOf st) P g (failedOf st))=k0:=fun _ _=>R.kind
 have hp:=R.pend
 rw[Zdv]at hp
 obtain⟨Pl,P2,eP,h1,h2⟩:=List.map_eq_append_iff.mp hp
 obtain⟨p1,P3,rfl,h3,h4⟩:=List.map_eq_cons_iff.mp h2
 obtain⟨p2,Pm,rfl,h5,h6⟩:=List.map_eq_cons_iff.mp h4
 have lP:Pl.length=l.length:=by have:=congrArg List.length h1;rw[Qb,ZeW]at this;exact this
 obtain⟨sa,na,pw⟩:=p1
 obtain⟨sb,nb,pw2⟩:=p2
 have esa:sa=l.flatten.length:=by have:=congrArg Prod.fst h3;simpa [ZbE] using this
 have ena:na=x.length:=by have:=congrArg Prod.snd h3;simpa [ZbE] using this
 have esb:sb=l.flatten.length+x.length:=by have:=congrArg Prod.fst h5;simpa [ZbE] using this
 have enb:nb=y.length:=by have:=congrArg Prod.snd h5;simpa [ZbE] using this
 have g1:(pendingOf st)[l.length]? = some (sa,na,pw):=by rw[← QR,eP,← lP];simp
 have g2:(pendingOf st)[l.length+1]? = some (sb,nb,pw2):=by
  rw[← QR,eP,← lP,QN (by omega),show Pl.length+1-Pl.length=1 by omega];rfl
 have npend:∀z:List Keyed,z.length=x.length+y.length→(((pendingOf st).setIfInBounds l.length (sa,na+nb,pw)).eraseIdxIfInBounds (l.length+1)).toList.map ZbE=ZdU 0 (l++z::m):=fun z hz=>by
  have e:(((pendingOf st).setIfInBounds l.length (sa,na+nb,pw)).eraseIdxIfInBounds (l.length+1)).toList=Pl++(sa,na+nb,pw)::Pm:=by
   rw[Array.toList_eraseIdxIfInBounds,Array.toList_setIfInBounds,eP,← lP]
   simp[List.eraseIdx_append_of_length_le]
  rw[e,Zdv,Qj,h1,Qe,h6]
  simp only[ZdU,ZbE,hz,esa,ena,enb,Nat.zero_add,Nat.add_assoc]
 obtain⟨y0,yt,rfl⟩:∃y0 yt,y=y0::yt:=by cases y with|nil=>exact absurd rfl hy|cons a b=>exact⟨a,b,rfl⟩
 obtain⟨xt,xl,rfl⟩:∃xt xl,x=xt++[xl]:=⟨x.dropLast,x.getLast hx,(List.dropLast_concat_getLast hx).symm⟩
 show wpS _ _ _ _ (get >>= _) _ _
 refine wpS_bind (wpS_get ?_)
 simp only[g1,g2]
 refine wpS_bind ?_
 show wpS _ _ _ _ (modify fun _=>SortSt.mk' (kindOf st) (arrOf st) (((pendingOf st).setIfInBounds l.length (sa,na+nb,pw)).eraseIdxIfInBounds (l.length+1)) (gallopOf st) (failedOf st)) _ _
 refine wpS_modify ?_
 refine wpS_bind (w_elem (p:=y0) ?_ ?_)
 ·have:=Zgl arr2 (i:=0) (by simp)
  rw[esb]
  simpa using this
 refine wpS_bind ?_
 refine w_galL hL (K1 _ _) (left:=false) (hint:=0) (L:=l.flatten) (x:=xt++[xl]) (R:=y0::yt++(m.flatten++rest)) (by rw[arr]) esa ena (by rw[ena];simp) (hasy y0 (QA ..)) hasx sx fun k hk1 k1 k2=>?_
 dsimp only
 refine w_bq (fun h=>wpS_pure ?_) fun hk2=>?_
 ·refine q _ ((xt++[xl])++(y0::yt)) (R.up R.kind R.failed (by show (arrOf st).toList=_;rw[arr];simp) (QaU _) (ZbB sx sy fun p hp r hr=>?_) (npend _ (Qd ..))) (Qd ..)
  exact KeyOrd.kle_trans (Zmx (k1 p (by rw[Qx (by omega)];exact hp))) (ZjX sy r hr)
 refine wpS_bind (w_elem (p:=xl) ?_ ?_)
 ·have:=Zgl arr (i:=xt.length) (by simp)
  simp only[List.getElem_concat_length]at this
  rw[← this]
  congr 1
  simp at ena
  omega
 refine wpS_bind ?_
 refine w_galL hL (K1 _ _) (left:=true) (hint:=nb-1) (L:=l.flatten++(xt++[xl])) (x:=y0::yt) (R:=m.flatten++rest) (by rw[arr2]) (by rw[esb];simp) enb (by rw[enb];simp) (hasx xl (Qh _ (List.mem_singleton.mpr rfl))) hasy sy fun f hf f1 f2=>?_
 dsimp only
 refine w_bq (fun h=>wpS_pure ?_) fun hf2=>?_
 ·refine q _ ((xt++[xl])++(y0::yt)) (R.up R.kind R.failed (by show (arrOf st).toList=_;rw[arr];simp) (QaU _) (ZbB sx sy fun p hp r hr=>?_) (npend _ (Qd ..))) (Qd ..)
  subst h
  exact KeyOrd.kle_trans (ZmA sx p hp) (gB_t' (f2 r hr))
 have hk3:k≤xt.length:=by simp at ena;omega
 have hf3:f≤(y0::yt).length:=by omega
 have eX:((arrOf st).extract (sa+k) sb).toList=(xt++[xl]).drop k:=ZiE (L:=l.flatten++(xt++[xl]).take k) (R:=y0::yt++(m.flatten++rest)) (by rw[arr];exact Zok _ k _ _) (by rw[esa,Qd,Qr];simp;omega) (by rw[esb];simp;omega)
 have eY:((arrOf st).extract sb (sb+f)).toList=(y0::yt).take f:=ZiE (L:=l.flatten++(xt++[xl])) (R:=(y0::yt).drop f++(m.flatten++rest)) (by rw[arr2];exact Zpt _ f _ _) (by rw[esb];simp) (by rw[esb,Qr];simp at hf3 ⊢;omega)
 have memX:∀i,i<((arrOf st).extract (sa+k) sb).size→∃p∈(xt++[xl]).drop k,KK κ ((arrOf st).extract (sa+k) sb) i=kyd κ p:=fun i hi=>⟨_,by rw[← eX];exact QaI hi,Z1 hi⟩
 have memY:∀i,i<((arrOf st).extract sb (sb+f)).size→∃p∈(y0::yt).take f,KK κ ((arrOf st).extract sb (sb+f)) i=kyd κ p:=fun i hi=>⟨_,by rw[← eY];exact QaI hi,Z1 hi⟩
 have LP:Zdt κ ((arrOf st).extract (sa+k) sb) ((arrOf st).extract sb (sb+f)):=by
  have szX:((arrOf st).extract (sa+k) sb).size=(xt++[xl]).length-k:=by rw[← Qy,eX,Qp]
  have szY:((arrOf st).extract sb (sb+f)).size=f:=by rw[← Qy,eY,Qr];omega
  refine⟨by rw[eX];exact fun p hp=>hasx p (Q0 hp),by rw[eY];exact fun p hp=>hasy p (Qae hp),by rw[eX];exact Zgf sx (QaV _ _),by rw[eY];exact Zgf sy (QaR _ _),by rw[szX];simp;omega,by rw[szY];omega,fun i hi=>?_,fun i hi=>?_⟩
  ·obtain⟨p,hp,e⟩:=memX i hi
   rw[e,Zj7 (show ((arrOf st).extract sb (sb+f))[0]? = some y0 by rw[← QR,eY,List.getElem?_take_of_lt (by omega)];rfl)]
   exact gB_f' (k2 p hp)
  ·obtain⟨p,hp,e⟩:=memY i hi
   rw[e,szX,Zj7 (show ((arrOf st).extract (sa+k) sb)[(xt++[xl]).length-k-1]? = some xl by rw[← QR,eX,List.drop_append_of_le_length hk3,QN (by rw[Qp,Qd];simp;omega),Qp,Qd,show xt.length+[xl].length-k-1-(xt.length-k)=0 by simp;omega];rfl)]
   exact ZoF (f1 p hp)
 refine w_if (fun h=>wpS_bind (w_lo hL (K1 _ _) LP fun r st2 hr S2=>?_)) fun h=>wpS_bind (w_hi hL (K1 _ _) LP fun r st2 hr S2=>?_)
 all_goals
  refine wpS_bind (wpS_modify ?_)
  refine wpS_bind (wpS_get ?_)
  have eF:failedOf st2=none:=S2.2.2.2.trans R.failed
  show wpS _ _ _ _ (pure (failedOf st2).isNone) _ _
  rw[eF]
  obtain⟨hr1,hr2⟩:=hr
  rw[eX,eY]at hr1
  have lr:r.toList.length=((xt++[xl]).drop k++(y0::yt).take f).length:=hr1.length_eq
  have pz:((xt++[xl]).take k++r.toList++(y0::yt).drop f).Perm ((xt++[xl])++(y0::yt)):=by
   have p1:=QaT ((y0::yt).drop f) (List.Perm.append_left ((xt++[xl]).take k) hr1)
   rw[Zob]at p1
   exact p1
  refine wpS_pure (q _ ((xt++[xl]).take k++r.toList++(y0::yt).drop f) (R.up (S2.1.trans R.kind) eF ?_ pz ?_ ?_) (by rw[pz.length_eq,Qd]))
  ·have pb:=Zhs (sa:=sa+k) (R:=(y0::yt).drop f++(m.flatten++rest)) r.toList ((xt++[xl]).drop k++(y0::yt).take f) (l.flatten++(xt++[xl]).take k) 0 (arrOf st2) (by
    rw[S2.2.1]
    show (arrOf st).toList=_
    rw[arr]
    exact Zpr _ k f _ _ _) (by rw[esa,Qd,Qr];simp;omega) lr.symm
   refine Eq.trans pb ?_
   simp
  ·refine ZbB (ZbB (Zgf sx (QaR _ _)) hr2 fun p hp z hz=>?_) (Zgf sy (QaV _ _)) (Zdi (fun p hp z hz=>?_) fun p hp z hz=>?_)
   ·rcases Qk.mp (hr1.mem_iff.mp hz) with hz|hz
    ·exact KeyOrd.kle_trans (Zmx (k1 p hp)) (gB_f' (k2 z hz))
    ·exact KeyOrd.kle_trans (Zmx (k1 p hp)) (ZjX sy z (Qae hz))
   ·exact KeyOrd.kle_trans (Zmx (k1 p hp)) (ZjX sy z (Q0 hz))
   ·rcases Qk.mp (hr1.mem_iff.mp hp) with hp|hp
    ·exact KeyOrd.kle_trans (ZmA sx p (Q0 hp)) (gB_t' (f2 z hz))
    ·exact KeyOrd.kle_trans (ZoF (f1 p hp)) (gB_t' (f2 z hz))
  ·show (pendingOf st2).toList.map ZbE=_
   rw[S2.2.2.1]
   exact npend _ (by rw[pz.length_eq,Qd])
end
section
variable {prog:Program} {w:World} {A:Around} {E:Value→Shared→Prop} {s:Shared} {κ:PyProof.Rows.KeyKind} {k0:SortKind} {st st0:SortSt} {a₀:Array Keyed} {α:Type} {lo:Nat}
theorem w_jp0{c:Prop}[Decidable c]{X J:StateT SortSt Sem α}{Q:α→SortSt→Prop}(P:SortSt→Prop)(H:∀st',P st'→wpS (model prog w) A E s J Q st')(hX:(∀st',P st'→wpS (model prog w) A E s J Q st')→c→wpS (model prog w) A E s X Q st)(hY:¬ c→P st):wpS (model prog w) A E s (if c then X else J) Q st:=by
 by_cases h:c
 ·rw[if_pos h];exact hX H h
 ·rw[if_neg h];exact H st (hY h)
structure Ph (k0:SortKind) (a₀:Array Keyed) (lo:Nat) (st0 st:SortSt):Prop where
 kind:kindOf st=k0
 failed:failedOf st=none
 pend:pendingOf st=pendingOf st0
 perm:(arrOf st).Perm a₀
 pre:∀k,k<lo→(arrOf st)[k]? = (arrOf st0)[k]?
def SgK(κ:PyProof.Rows.KeyKind)(xs:Array Keyed)(lo n:Nat):Prop:=∀i j,lo≤i→i≤j→j<lo+n→κ.kle (KK κ xs i) (KK κ xs j)
def NiK(κ:PyProof.Rows.KeyKind)(xs:Array Keyed)(lo n:Nat):Prop:=∀i j,lo≤i→i≤j→j<lo+n→κ.kle (KK κ xs j) (KK κ xs i)
theorem Ph.size(B:Ph k0 a₀ lo st0 st):(arrOf st).size=a₀.size:=B.perm.size_eq
theorem Ph.rev(B:Ph k0 a₀ lo st0 st){i j:Nat}(hi:lo≤i)(hj:j≤a₀.size):Ph k0 a₀ lo st0 (setArr st (mirror (arrOf st) i j ((j-i) / 2))) :=
 ⟨B.kind,B.failed,B.pend,(mirror_perm _ _ _ _).trans B.perm,fun k hk=>by
  show (mirror (arrOf st) i j ((j-i) / 2))[k]? = _
  rw[getElem?_mirror_all (by rw[B.size];exact hj),if_neg (by omega)]
  exact B.pre k hk⟩
theorem Ph.dn(B:Ph k0 a₀ lo st0 st){src d:Nat}(hs:src<a₀.size)(hd:d≤src)(hi:lo≤src-d):Ph k0 a₀ lo st0 (setArr st (bubble (arrOf st) src d)) :=
 ⟨B.kind,B.failed,B.pend,(bubble_perm _ _ _).trans B.perm,fun k hk=>by
  show (bubble (arrOf st) src d)[k]? = _
  rw[getElem?_bubble (by rw[B.size];exact hs) d hd,if_neg (by omega),if_neg (by omega)]
  exact B.pre k hk⟩
theorem w_ltA(hL:ZdI prog w A s k0 κ)(hk:PyProof.Rows.KeysOf κ a₀)(B:Ph k0 a₀ lo st0 st){i j:Nat}(hi:i<a₀.size)(hj:j<a₀.size){Q:Option Bool→SortSt→Prop}(q:Q (some (κ.blt (KK κ (arrOf st) i) (KK κ (arrOf st) j))) st):wpS (model prog w) A E s (ltAt' i j) Q st:=by
 have hi':i<(arrOf st).size:=by rw[B.size];exact hi
 have hj':j<(arrOf st).size:=by rw[B.size];exact hj
 have has:∀n (h:n<(arrOf st).size),Has κ (arrOf st)[n]:=fun n h=>hk _ ((Array.perm_iff_toList_perm.mp B.perm).mem_iff.mp (QaI h))
 rw[ltAt'_eq]
 refine wpS_bind (wpS_get ?_)
 refine wpS_bind (w_elem (Z7 hi') (wpS_bind (w_elem (Z7 hj') ?_)))
 refine w_ltp hL B.kind (has i hi') (has j hj') ?_
 rw[← Z1 hi',← Z1 hj']
 exact q
theorem SgK.succ{xs:Array Keyed}{i:Nat}(h0:1≤i)(S:SgK κ xs lo i)(h:κ.kle (KK κ xs (lo+i-1)) (KK κ xs (lo+i))):SgK κ xs lo (i+1):=by
 intro a b ha hab hb
 by_cases e:b<lo+i
 ·exact S a b ha hab e
 ·have eb:b=lo+i:=by omega
  subst eb
  by_cases ea:a=lo+i
  ·subst ea;exact KeyOrd.kle_refl _
  ·exact KeyOrd.kle_trans (S a (lo+i-1) ha (by omega) (by omega)) h
theorem NiK.succ{xs:Array Keyed}{i:Nat}(h0:1≤i)(S:NiK κ xs lo i)(h:κ.kle (KK κ xs (lo+i)) (KK κ xs (lo+i-1))):NiK κ xs lo (i+1):=by
 intro a b ha hab hb
 by_cases e:b<lo+i
 ·exact S a b ha hab e
 ·have eb:b=lo+i:=by omega
  subst eb
  by_cases ea:a=lo+i
  ·subst ea;exact KeyOrd.kle_refl _
  ·exact KeyOrd.kle_trans h (S a (lo+i-1) ha (by omega) (by omega))
theorem w_countA(hL:ZdI prog w A s k0 κ)(hk:PyProof.Rows.KeysOf κ a₀){nrem:Nat}(hn:lo+nrem≤a₀.size)(h1:1≤nrem)(B:Ph k0 a₀ lo st0 st){Q:Option Nat→SortSt→Prop}
  (q:∀ (m:Nat) (st':SortSt),Ph k0 a₀ lo st0 st'→1≤m→m≤nrem→SgK κ (arrOf st') lo m→Q (some m) st'):wpS (model prog w) A E s (countRun' lo nrem) Q st:=by
 show wpS _ _ _ _ (forIn [1:nrem] (none,1) _ >>= _) _ _
 refine wpS_bind (wpS_mono (wpS_forRange (fun i c st'=>st'=st∧c=(none,i)∧SgK κ (arrOf st) lo i)
  (Q:=fun c st'=>st'=st∧∃n,c=(none,n)∧1≤n∧n≤nrem∧SgK κ (arrOf st) lo n∧(n=nrem∨κ.klt (KK κ (arrOf st) (lo+n)) (KK κ (arrOf st) (lo+n-1)))) ?_ ?_ ⟨rfl,rfl,fun i j a b c=>by obtain rfl:i=j:=(by omega);exact KeyOrd.kle_refl _⟩) ?_)
 ·rintro i c st' hi hi2 ⟨rfl,rfl,S⟩
  dsimp only
  refine wpS_bind (w_ltA hL hk B (by omega) (by omega) ?_)
  cases hb:κ.blt (KK κ (arrOf st') (lo+i)) (KK κ (arrOf st') (lo+i-1)) with
  | true=>exact wpS_pure ⟨rfl,i,rfl,by omega,by omega,S,.inr hb⟩
  | false=>exact wpS_pure ⟨rfl,rfl,S.succ (by omega) hb⟩
 ·rintro c st' ⟨rfl,rfl,S⟩
  rw[show max 1 nrem=nrem by omega]at S ⊢
  exact⟨rfl,nrem,rfl,by omega,by omega,S,.inl rfl⟩
 rintro c st' ⟨rfl,n,rfl,n1,n2,S,hor⟩
 dsimp only
 refine w_bq (fun _=>wpS_pure (q n _ B n1 n2 S)) fun hne=>?_
 have hlt:=hor.resolve_left hne
 refine w_jp0 (fun st1=>Ph k0 a₀ lo st0 st1∧NiK κ (arrOf st1) lo (n+1)) ?_ ?_ ?_
 ·rintro st1 ⟨B1,N1⟩
  refine wpS_bind (wpS_lift (wpAny_rule ⟨rfl,?_⟩))
  refine wpS_bind (wpS_mono (wpS_forRange (fun i c st2=>∃neq,c=(none,i,neq)∧Ph k0 a₀ lo st0 st2∧NiK κ (arrOf st2) lo i∧neq+1≤i∧(∀k,lo+i-(neq+1)≤k→k<lo+i→KK κ (arrOf st2) k=KK κ (arrOf st2) (lo+i-1)))
   (Q:=fun c st2=>∃i neq,c=(none,i,neq)∧Ph k0 a₀ lo st0 st2∧n+1≤i∧i≤nrem∧NiK κ (arrOf st2) lo i∧neq+1≤i∧(∀k,lo+i-(neq+1)≤k→k<lo+i→KK κ (arrOf st2) k=KK κ (arrOf st2) (lo+i-1))) ?_ ?_ ⟨0,rfl,B1,N1,by omega,fun k k1 k2=>by rw[show k=lo+(n+1)-1 by omega]⟩) ?_)
  ·rintro i c st2 hi hi2 ⟨neq,rfl,B2,N2,q2,e2⟩
   dsimp only
   refine wpS_bind (w_ltA hL hk B2 (by omega) (by omega) ?_)
   cases hb:κ.blt (KK κ (arrOf st2) (lo+i)) (KK κ (arrOf st2) (lo+i-1)) with
   | true =>
    show wpS _ _ _ _ (if neq>0 then _ else _) _ _
    refine w_jp0 (fun st3=>Ph k0 a₀ lo st0 st3∧NiK κ (arrOf st3) lo (i+1)) ?_ (fun H h0=>?_) fun _=>⟨B2,N2.succ (by omega) (KeyOrd.kle_of_klt hb)⟩
    ·rintro st3 ⟨B3,N3⟩
     exact wpS_pure ⟨0,rfl,B3,N3,by omega,fun k k1 k2=>by rw[show k=lo+(i+1)-1 by omega]⟩
    refine wpS_bind (w_rev (H _ ⟨B2.rev (by omega) (by omega),?_⟩))
    have e:=KK_mirror_equal (κ:=κ) (xs:=arrOf st2) (i:=lo+i-(neq+1)) (j:=lo+i) (by rw[B2.size];omega) e2
    intro x y hx hxy hy
    show κ.kle (KK κ (mirror _ _ _ _) y) (KK κ (mirror _ _ _ _) x)
    rw[e x,e y]
    exact N2.succ (by omega) (KeyOrd.kle_of_klt hb) x y hx hxy hy
   | false =>
    refine wpS_bind (w_ltA hL hk B2 (by omega) (by omega) ?_)
    cases hb2:κ.blt (KK κ (arrOf st2) (lo+i-1)) (KK κ (arrOf st2) (lo+i)) with
    | true=>exact wpS_pure ⟨i,neq,rfl,B2,by omega,by omega,N2,q2,e2⟩
    | false =>
     have ee:=κ.total _ _ hb hb2
     refine wpS_pure ⟨neq+1,rfl,B2,N2.succ (by omega) hb2,by omega,fun k k1 k2=>?_⟩
     rw[show lo+(i+1)-1=lo+i by omega,ee]
     by_cases hki:k=lo+i
     ·rw[hki,ee]
     ·exact e2 k (by omega) (by omega)
  ·rintro c st2 ⟨neq,rfl,B2,N2,q2,e2⟩
   rw[show max (n+1) nrem=nrem by omega]at *
   exact⟨nrem,neq,rfl,B2,by omega,by omega,N2,q2,e2⟩
  rintro c st2 ⟨i,neq,rfl,B2,i1,i2,N2,q2,e2⟩
  dsimp only
  refine w_jp0 (fun st3=>Ph k0 a₀ lo st0 st3∧NiK κ (arrOf st3) lo i) (fun st3 h3=>?_) (fun H h0=>?_) fun _=>⟨B2,N2⟩
  ·obtain⟨B3,N3⟩:=h3
   refine wpS_bind (w_rev ?_)
   have B4:=B3.rev (i:=lo) (j:=lo+i) (Qf _) (by omega)
   have e:=KK_mirror (κ:=κ) (xs:=arrOf st3) (i:=lo) (j:=lo+i) (by rw[B3.size];omega)
   have S4:SgK κ (mirror (arrOf st3) lo (lo+i) ((lo+i-lo) / 2)) lo i:=fun x y hx hxy hy=>by
    rw[e x,e y,if_pos ⟨by omega,by omega⟩,if_pos ⟨by omega,by omega⟩]
    exact N3 _ _ (by omega) (by omega) (by omega)
   refine wpS_bind (wpS_mono (wpS_forRange (fun j c st5=>st5=(setArr st3 (mirror (arrOf st3) lo (lo+i) ((lo+i-lo) / 2)))∧c=(none,j)∧SgK κ (mirror (arrOf st3) lo (lo+i) ((lo+i-lo) / 2)) lo j)
    (Q:=fun c st5=>st5=(setArr st3 (mirror (arrOf st3) lo (lo+i) ((lo+i-lo) / 2)))∧∃n,c=(none,n)∧1≤n∧n≤nrem∧SgK κ (mirror (arrOf st3) lo (lo+i) ((lo+i-lo) / 2)) lo n) ?_ ?_ ⟨rfl,rfl,S4⟩) ?_)
   ·rintro j c st5 hj hj2 ⟨rfl,rfl,S5⟩
    dsimp only
    refine wpS_bind (w_ltA hL hk B4 (by omega) (by omega) ?_)
    cases hb:κ.blt (KK κ (mirror (arrOf st3) lo (lo+i) ((lo+i-lo) / 2)) (lo+j)) (KK κ (mirror (arrOf st3) lo (lo+i) ((lo+i-lo) / 2)) (lo+j-1)) with
    | true=>exact wpS_pure ⟨rfl,j,rfl,by omega,by omega,S5⟩
    | false=>exact wpS_pure ⟨rfl,rfl,S5.succ (by omega) hb⟩
   ·rintro c st5 ⟨rfl,rfl,S5⟩
    rw[show max i nrem=nrem by omega]at S5 ⊢
    exact⟨rfl,nrem,rfl,by omega,by omega,S5⟩
   ·rintro c st5 ⟨rfl,m,rfl,m1,m2,S5⟩
    exact wpS_pure (q m _ B4 m1 m2 S5)
  ·refine wpS_bind (w_rev (H _ ⟨B2.rev (by omega) (by omega),?_⟩))
   have e:=KK_mirror_equal (κ:=κ) (xs:=arrOf st2) (i:=lo+i-(neq+1)) (j:=lo+i) (by rw[B2.size];omega) e2
   intro x y hx hxy hy
   show κ.kle (KK κ (mirror _ _ _ _) y) (KK κ (mirror _ _ _ _) x)
   rw[e x,e y]
   exact N2 x y hx hxy hy
 ·intro H h0
  refine wpS_bind (w_ltA hL hk B (by omega) (by omega) ?_)
  cases hb:κ.blt (KK κ (arrOf st') lo) (KK κ (arrOf st') (lo+n-1)) with
  | true=>exact wpS_pure (q n _ B n1 n2 S)
  | false =>
   have hf:∀k,lo≤k→k<lo+n→KK κ (arrOf st') k=KK κ (arrOf st') (lo+n-1):=fun k k1 k2 =>
    KeyOrd.kle_antisymm (S k (lo+n-1) k1 (by omega) (by omega)) (KeyOrd.kle_trans (show κ.kle (KK κ (arrOf st') (lo+n-1)) (KK κ (arrOf st') lo) from hb) (S lo k (by omega) k1 k2))
   refine wpS_bind (w_rev (H _ ⟨B.rev (Qf _) (by omega),?_⟩))
   have e:=KK_mirror_equal (κ:=κ) (xs:=arrOf st') (i:=lo) (j:=lo+n) (by rw[B.size];omega) hf
   intro x y hx hxy hy
   show κ.kle (KK κ (mirror _ _ _ _) y) (KK κ (mirror _ _ _ _) x)
   rw[e x,e y]
   refine NiK.succ n1 (fun a b ha hab hb=>?_) (KeyOrd.kle_of_klt hlt) x y hx hxy hy
   rw[hf a ha (by omega),hf b (by omega) hb]
   exact KeyOrd.kle_refl _
 ·intro h0
  refine⟨B,NiK.succ n1 (fun a b ha hab hb=>?_) (KeyOrd.kle_of_klt hlt)⟩
  obtain rfl:a=b:=by omega
  exact KeyOrd.kle_refl _
theorem w_binA(hL:ZdI prog w A s k0 κ)(hk:PyProof.Rows.KeysOf κ a₀){n ok:Nat}(hn:lo+n≤a₀.size)(h1:ok≤n)(h0:1≤ok)(B:Ph k0 a₀ lo st0 st)(S:SgK κ (arrOf st) lo ok){Q:Bool→SortSt→Prop}
  (q:∀ (st':SortSt),Ph k0 a₀ lo st0 st'→SgK κ (arrOf st') lo n→Q true st'):wpS (model prog w) A E s (binarySort' lo n ok) Q st:=by
 rw[binarySort'_eq]
 refine wpS_bind ?_
 refine wpS_forRange (fun i c st'=>c=(none,())∧Ph k0 a₀ lo st0 st'∧SgK κ (arrOf st') lo i) ?_ ?_ ⟨rfl,B,by rw[show max ok 1=ok by omega];exact S⟩
 ·rintro k c st' hak hkn ⟨rfl,B',S'⟩
  refine wpS_bind (wpS_mono (wpS_forRange (fun i c st2=>∃l r,c=(none,l,r)∧st2=st'∧l≤r∧r≤k∧r-l≤k-i∧(∀j,j<l→κ.kle (KK κ (arrOf st') (lo+j)) (KK κ (arrOf st') (lo+k)))∧(∀j,r≤j→j<k→κ.klt (KK κ (arrOf st') (lo+k)) (KK κ (arrOf st') (lo+j))))
   (Q:=fun c st2=>∃l,c=(none,l,l)∧st2=st'∧l≤k∧(∀j,j<l→κ.kle (KK κ (arrOf st') (lo+j)) (KK κ (arrOf st') (lo+k)))∧(∀j,l≤j→j<k→κ.klt (KK κ (arrOf st') (lo+k)) (KK κ (arrOf st') (lo+j)))) ?_ ?_ ⟨0,k,rfl,rfl,Qv _,Qf _,by omega,fun j h=>by omega,fun j h1 h2=>by omega⟩) ?_)
  ·rintro i c st2 hi0 hik ⟨l,r,rfl,rfl,hlr,hrk,hm,hlo,hhi⟩
   dsimp only
   refine w_if (fun hge=>?_) fun hge=>?_
   ·obtain rfl:l=r:=by omega
    exact wpS_pure ⟨l,rfl,rfl,hrk,hlo,hhi⟩
   ·refine wpS_bind (w_ltA hL hk B' (by omega) (by omega) ?_)
    cases hb:κ.blt (KK κ (arrOf st2) (lo+k)) (KK κ (arrOf st2) (lo+(l+r) / 2)) with
    | true=>exact wpS_pure ⟨l,(l+r) / 2,rfl,rfl,by omega,by omega,by omega,hlo,fun j j1 j2=>KeyOrd.klt_of_klt_of_kle hb (S' _ (lo+j) (by omega) (by omega) (by omega))⟩
    | false=>exact wpS_pure ⟨(l+r) / 2+1,r,rfl,rfl,by omega,by omega,by omega,fun j h=>KeyOrd.kle_trans (S' (lo+j) (lo+(l+r) / 2) (by omega) (by omega) (by omega)) hb,hhi⟩
  ·rintro c st2 ⟨l,r,rfl,rfl,hlr,hrk,hm,hlo,hhi⟩
   obtain rfl:l=r:=by omega
   exact⟨l,rfl,rfl,hrk,hlo,hhi⟩
  ·rintro c st2 ⟨l,rfl,rfl,hlk,hlo,hhi⟩
   refine wpS_bind ?_
   rw[moveDown'_eq]
   refine wpS_modify (wpS_pure ⟨rfl,B'.dn (by omega) (by omega) (by omega),?_⟩)
   have eb:=KK_bubble (κ:=κ) (xs:=arrOf st2) (src:=lo+k) (d:=lo+k-(lo+l)) (by rw[B'.size];omega) (by omega)
   have lo':∀j,lo≤j→j<lo+l→κ.kle (KK κ (arrOf st2) j) (KK κ (arrOf st2) (lo+k)):=fun j j1 j2=>by
    have:=hlo (j-lo) (by omega)
    rwa [show lo+(j-lo)=j by omega]at this
   have hi':∀j,lo+l≤j→j<lo+k→κ.klt (KK κ (arrOf st2) (lo+k)) (KK κ (arrOf st2) j):=fun j j1 j2=>by
    have:=hhi (j-lo) (by omega) (by omega)
    rwa [show lo+(j-lo)=j by omega]at this
   intro x y hx hxy hy
   show κ.kle (KK κ (bubble (arrOf st2) (lo+k) (lo+k-(lo+l))) x) (KK κ (bubble (arrOf st2) (lo+k) (lo+k-(lo+l))) y)
   rw[eb x,eb y,show lo+k-(lo+k-(lo+l))=lo+l by omega]
   repeat' split
   all_goals first
    | (exfalso;omega)
    | exact KeyOrd.kle_refl _
    | exact lo' _ (by omega) (by omega)
    | exact KeyOrd.kle_of_klt (hi' _ (by omega) (by omega))
    | exact S' _ _ (by omega) (by omega) (by omega)
 ·rintro c st' ⟨rfl,B',S'⟩
  rw[show max (max ok 1) n=n by omega]at S'
  exact wpS_pure (q st' B' S')
end
section
variable {prog:Program} {w:World} {A:Around} {E:Value→Shared→Prop} {s:Shared} {κ:PyProof.Rows.KeyKind} {k0:SortKind} {st st0:SortSt} {a₀:Array Keyed} {lo:Nat} {rs:List (List Keyed)} {rest:List Keyed}
theorem Ph.runs(R:Rn κ k0 a₀ st0 rs rest)(B:Ph k0 a₀ lo st0 st)(hlo:lo=rs.flatten.length):Rn κ k0 a₀ st rs ((arrOf st).toList.drop lo):=by
 refine⟨B.kind,B.failed,?_,B.perm,R.srt,R.ne,by rw[B.pend];exact R.pend⟩
 have e:(arrOf st).toList.take lo=rs.flatten:=by
  have e0:(arrOf st0).toList.take lo=rs.flatten:=by rw[R.arr,hlo,List.take_left]
  rw[← e0]
  apply List.ext_getElem?
  intro k
  rw[List.getElem?_take,List.getElem?_take]
  split
  ·rename_i h
   rw[QR,QR,B.pre k h]
  ·rfl
 rw[← e,QZ]
theorem SgK.list{xs:Array Keyed}{n:Nat}(S:SgK κ xs lo n):kS κ ((xs.toList.drop lo).take n):=by
 refine List.pairwise_iff_getElem.mpr fun i j hi hj hij=>?_
 rw[Qr,Qp,Qy]at hi hj
 have:=S (lo+i) (lo+j) (by omega) (by omega) (by omega)
 rw[Z1 (show lo+i<xs.size by omega),Z1 (show lo+j<xs.size by omega)]at this
 rw[Qax,Qaw,Qax,Qaw,QU,QU]
 exact this
theorem Rn.push(R:Rn κ k0 a₀ st rs rest){n:Nat}(h:kS κ (rest.take n))(h1:1≤n)(h2:n≤rest.length){st':SortSt}(hk:kindOf st'=kindOf st)(hf:failedOf st'=failedOf st)(ha:arrOf st'=arrOf st)(hp:(pendingOf st').toList.map ZbE=(pendingOf st).toList.map ZbE++[(rs.flatten.length,n)]):Rn κ k0 a₀ st' (rs++[rest.take n]) (rest.drop n):=by
 refine⟨hk.trans R.kind,hf.trans R.failed,by rw[ha,R.arr];simp,by rw[ha];exact R.perm,fun r hr=>?_,fun r hr=>?_,?_⟩
 ·rcases Qk.mp hr with hr|hr
  ·exact R.srt r hr
  ·rw[Ql.mp hr];exact h
 ·rcases Qk.mp hr with hr|hr
  ·exact R.ne r hr
  ·rw[Ql.mp hr]
   intro e
   have:=congrArg List.length e
   rw[Qr,List.length_nil]at this
   omega
 ·rw[hp,R.pend,Zdv]
  simp[ZdU,List.length_take,Nat.min_eq_left h2]
theorem Rn.len(R:Rn κ k0 a₀ st rs rest):(pendingOf st).size=rs.length:=by
 have:=congrArg List.length R.pend
 rw[Qb,ZeW,Qy]at this
 exact this
theorem ZkY:∀ (rs:List (List Keyed)) (i:Nat),i+1<rs.length→∃l x y m,rs=l++x::y::m∧l.length=i
 | x::y::m,0,_=>⟨[],x,y,m,rfl,rfl⟩
 | x::r,i+1,h=>by
  obtain⟨l,a,b,m,e,hl⟩:=ZkY r i (by simp at h;omega)
  exact⟨x::l,a,b,m,by rw[e];rfl,by rw[QH,hl]⟩
theorem ZiN:∀ (rs:List (List Keyed)),(∀r∈rs,r≠[])→rs.length≤rs.flatten.length
 | [],_=>Qf _
 | r::rs,h=>by
  have:=ZiN rs fun x hx=>h x (Qi _ hx)
  have h0:r.length≠0:=fun e=>h r (QA ..) (QI e)
  rw[Qam,Qd,QH]
  omega
theorem w_atJ(hL:ZdI prog w A s k0 κ)(hk:PyProof.Rows.KeysOf κ a₀)(R:Rn κ k0 a₀ st rs rest){j:Nat}{Q:Bool→SortSt→Prop}(q:∀st' rs',Rn κ k0 a₀ st' rs' rest→rs'.flatten.length=rs.flatten.length→rs'.length+1=rs.length→Q true st')(hj:j+1<rs.length):wpS (model prog w) A E s (mergeAt' j) Q st:=by
 obtain⟨l,a,b,m,rfl,rfl⟩:=ZkY rs j hj
 refine w_at hL hk R fun st3 z R3 hz=>q st3 _ R3 ?_ (by rw[Qd,Qd];rfl)
 rw[QaG,Qd,QaG,Qd,Qam,Qd,Qam,Qd,Qam,Qd]
 omega
theorem Rn.total(R:Rn κ k0 a₀ st rs rest):rs.flatten.length+rest.length=a₀.size:=by
 rw[← R.perm.size_eq,← Qy,R.arr,Qd]
theorem Zlf(l:List (Nat×Nat×Nat))(i:Nat){f:Nat×Nat×Nat→Nat×Nat×Nat}(h:∀x,ZbE (f x)=ZbE x):(l.modify i f).map ZbE=l.map ZbE:=by
 apply List.ext_getElem?
 intro j
 rw[Qu,Qu,List.getElem?_modify]
 cases l[j]? with
 | none=>rfl
 | some x =>
  show some (ZbE (if i=j then f x else x))=some (ZbE x)
  split
  ·rw[h]
  ·rfl
theorem w_jpS{α β:Type}{c:β→Prop}[∀i,Decidable (c i)]{y:β}{X Y:β→StateT SortSt Sem α}{Q:α→SortSt→Prop}(P:β→SortSt→Prop)(H:∀i st',P i st'→wpS (model prog w) A E s (Y i) Q st')(hX:(∀i st',P i st'→wpS (model prog w) A E s (Y i) Q st')→c y→wpS (model prog w) A E s (X y) Q st)(hY:¬ c y→P y st):∀i,y=i→wpS (model prog w) A E s (if c i then X i else Y i) Q st:=by
 rintro _ rfl
 by_cases h:c y
 ·rw[if_pos h];exact hX H h
 ·rw[if_neg h];exact H y st (hY h)
theorem w_runsA(hL:ZdI prog w A s k0 κ)(hk:PyProof.Rows.KeysOf κ a₀)(B:SB k0 a₀ st){Q:Unit→SortSt→Prop}
  (q:∀ (st':SortSt),(arrOf st').Perm a₀→failedOf st'=none→SortedToK κ (arrOf st') a₀.size→Q () st'):wpS (model prog w) A E s sortRuns' Q st:=by
 show wpS _ _ _ _ (get >>= _) _ _
 refine wpS_bind (wpS_get ?_)
 have hsz:(arrOf st).size=a₀.size:=B.size
 have R0:Rn κ k0 a₀ st [] (arrOf st).toList:=⟨B.kind,B.failed,rfl,B.perm,(fun r hr=>by cases hr),(fun r hr=>by cases hr),by rw[B.pend];rfl⟩
 show wpS _ _ _ _ (forIn [:(arrOf st).size] (none,0) _ >>= _) _ _
 generalize minRun' (arrOf st).size (arrOf st).size 0=mr
 rw[hsz]
 refine wpS_bind (wpS_mono (wpS_forRange (fun x c st1=>∃rs rest,c=(none,rs.flatten.length)∧Rn κ k0 a₀ st1 rs rest∧x≤rs.flatten.length) (Q:=fun c st1=>∃rs n,c=(none,n)∧Rn κ k0 a₀ st1 rs []) ?_ ?_ ⟨[],_,rfl,R0,Qf _⟩) ?_)
 ·rintro x c st1 _ hx ⟨rs,rest,rfl,R1,x1⟩
  have T1:=R1.total
  dsimp only
  refine w_if (fun hge=>?_) fun hge=>?_
  ·have:rest=[]:=QI (by omega)
   subst this
   exact wpS_pure ⟨rs,_,rfl,R1⟩
  have B1:Ph k0 a₀ rs.flatten.length st1 st1:=⟨R1.kind,R1.failed,rfl,R1.perm,fun _ _=>rfl⟩
  refine wpS_bind (w_countA hL hk (by omega) (by omega) B1 fun n st2 B2 n1 n2 S2=>?_)
  dsimp only
  have key:∀ (n:Nat) (st3:SortSt),Ph k0 a₀ rs.flatten.length st1 st3→1≤n→n≤a₀.size-rs.flatten.length→SgK κ (arrOf st3) rs.flatten.length n→∃rest,Rn κ k0 a₀ st3 rs rest∧kS κ (rest.take n)∧1≤n∧n≤rest.length:=fun n st3 B3 m1 m2 S3=>by
   have R3:=Ph.runs R1 B3 rfl
   refine⟨_,R3,S3.list,m1,?_⟩
   have:=R3.total
   omega
  generalize hn:n=n'
  revert n' hn
  refine w_jpS (fun n st3=>∃rest,Rn κ k0 a₀ st3 rs rest∧kS κ (rest.take n)∧1≤n∧n≤rest.length) ?_ ?_ fun _=>key n st2 B2 n1 n2 S2
  ·rintro n st3 ⟨rest,R3,s3,l1,l2⟩
   have fin:∀ (rs':List (List Keyed)) (st5 st6:SortSt),Rn κ k0 a₀ st5 rs' rest→rs'.flatten.length=rs.flatten.length→kindOf st6=kindOf st5→failedOf st6=failedOf st5→arrOf st6=arrOf st5→(pendingOf st6).toList.map ZbE=(pendingOf st5).toList.map ZbE++[(rs.flatten.length,n)]→∃rs rest,Rn κ k0 a₀ st6 rs rest∧x+1≤rs.flatten.length∧(none,rs'.flatten.length+n)=((none:Option Unit),rs.flatten.length):=fun rs' st5 st6 R5 e5 a1 a2 a3 a4=>by
    refine⟨_,_,R5.push s3 l1 l2 a1 a2 a3 (by rw[a4,e5]),?_,?_⟩
    ·rw[QaG,Qd,Qam,List.flatten_nil,Qas,e5,Qr]
     omega
    ·rw[QaG,Qd,Qam,List.flatten_nil,Qas,Qr,Q6 l2]
   refine wpS_bind (wpS_get ?_)
   show wpS _ _ _ _ (match (pendingOf st3).back? with|some (s1,n1,snd)=>_|x=>_) _ _
   rcases hb:(pendingOf st3).back? with _|⟨s1,n1,p1⟩
   ·dsimp only
    refine wpS_bind (wpS_modify (wpS_pure ?_))
    obtain⟨rs2,rest2,R6,h6,e6⟩:=fin rs st3 (setPending st3 ((pendingOf st3).push (rs.flatten.length,n,0))) R3 rfl rfl rfl rfl (by show ((pendingOf st3).push _).toList.map ZbE=_;rw[Qal,Qj];rfl)
    exact⟨rs2,rest2,e6,R6,h6⟩
   ·dsimp only
    refine wpS_bind (wpS_mono (wpS_forRange (fun _ c st4=>∃rs',c=(none,())∧Rn κ k0 a₀ st4 rs' rest∧rs'.flatten.length=rs.flatten.length) (Q:=fun c st4=>∃rs',c=(none,())∧Rn κ k0 a₀ st4 rs' rest∧rs'.flatten.length=rs.flatten.length) ?_ (fun c st4 h=>h) ⟨rs,rfl,R3,rfl⟩) ?_)
    ·rintro y c st4 _ hy ⟨rs',rfl,R4,e4⟩
     refine wpS_bind (wpS_get ?_)
     show wpS _ _ _ _ (match (if (pendingOf st4).size>1 then (pendingOf st4)[(pendingOf st4).size-2]? else none) with|some (fst,fst_1,older)=>_|x=>_) _ _
     by_cases hs:(pendingOf st4).size>1
     ·rw[if_pos hs]
      rcases hp:(pendingOf st4)[(pendingOf st4).size-2]? with _|⟨u,v,older⟩
      ·exact wpS_pure ⟨rs',rfl,R4,e4⟩
      ·refine w_if (fun _=>wpS_pure ⟨rs',rfl,R4,e4⟩) fun _=>?_
       exact wpS_bind (w_atJ hL hk R4 (fun st5 rs5 R5 e5 _=>wpS_pure ⟨_,rfl,R5,e5.trans e4⟩) (by rw[R4.len]at *;omega))
     ·rw[if_neg hs]
      exact wpS_pure ⟨rs',rfl,R4,e4⟩
    ·rintro c st4 ⟨rs',rfl,R4,e4⟩
     dsimp only
     refine wpS_bind (wpS_modify ?_)
     refine wpS_bind (wpS_modify (wpS_pure ?_))
     obtain⟨rs2,rest2,R6,h6,e6⟩:=fin rs' st4 (SortSt.mk' (kindOf st4) (arrOf st4) (((pendingOf st4).modify ((pendingOf st4).size-1) fun x=>(x.1,x.2.1,power' a₀.size (2*s1+n1) (2*s1+n1+n1+n) a₀.size)).push (rs.flatten.length,n,0)) (gallopOf st4) (failedOf st4)) R4 e4 rfl rfl rfl (by
      show (Array.push _ _).toList.map ZbE=_
      rw[Qal,Qj,Array.toList_modify,Zlf]
      ·rfl
      ·exact fun _=>rfl)
     rw[e4]at e6
     exact⟨rs2,rest2,e6,R6,h6⟩
  ·intro H hlt
   refine wpS_bind (wpS_lift (wpAny_rule ⟨rfl,?_⟩))
   refine wpS_bind (w_binA hL hk (by omega) (by omega) n1 B2 S2 fun st3 B3 S3=>?_)
   exact H _ _ (key _ st3 B3 (by omega) (by omega) S3)
 ·rintro c st1 ⟨rs,rest,rfl,R1,x1⟩
  have T1:=R1.total
  have:rest=[]:=QI (by omega)
  subst this
  exact⟨rs,_,rfl,R1⟩
 rintro c st1 ⟨rs,n,rfl,R1⟩
 dsimp only
 have T1:rs.flatten.length=a₀.size:=by have:=R1.total;simpa using this
 have L1:=ZiN rs R1.ne
 refine wpS_bind (wpS_mono (wpS_forRange (fun x c st2=>∃rs,c=(none,())∧Rn κ k0 a₀ st2 rs []∧rs.length≤max 1 (a₀.size-x)) (Q:=fun c st2=>∃rs,c=(none,())∧Rn κ k0 a₀ st2 rs []∧rs.length≤1) ?_ ?_ ⟨rs,rfl,R1,by omega⟩) ?_)
 ·rintro x c st2 _ hx ⟨rs,rfl,R2,h2⟩
  refine wpS_bind (wpS_get ?_)
  have l2:=R2.len
  refine w_if (fun h=>wpS_pure ⟨rs,rfl,R2,by rw[← l2];exact h⟩) fun h=>?_
  have h':¬ (pendingOf st2).size≤1:=h
  refine wpS_bind (w_atJ hL hk R2 (fun st3 rs3 R3 _ e3=>wpS_pure ⟨_,rfl,R3,by omega⟩) ?_)
  have hj:∀ (c:Prop) [Decidable c],(if c then (pendingOf st2).size-2-1 else (pendingOf st2).size-2)+1<rs.length:=fun c _=>by split<;>omega
  exact hj _
 ·rintro c st2 ⟨rs,rfl,R2,h2⟩
  exact⟨rs,rfl,R2,by omega⟩
 ·rintro c st2 ⟨rs,rfl,R2,h2⟩
  refine wpS_pure (q _ R2.perm R2.failed ?_)
  rw[← R2.perm.size_eq]
  refine Zeu ?_
  rw[R2.arr]
  cases rs with
  | nil=>exact List.Pairwise.nil
  | cons r t =>
   have:t=[]:=QI (by rw[QH]at h2;omega)
   subst this
   simpa using R2.srt r (QA ..)
end
section
variable {prog:Program} {w:World} {A:Around} {E:Value→Shared→Prop} {s:Shared} {κ:PyProof.Rows.KeyKind}
theorem w_sortA{a:Addr}{vs:List Value}{n:Nat}{P:PySem.Fin→Shared→Prop}(ha:s.heap.get? a=some (seqObj "list" vs.toArray n))(hk:PyProof.Rows.KeysOf κ (pairsOf vs))(h2:2≤vs.length)(hz:vs.length≤sizeLine)
  (hK:∀ (s':Shared),(∀b o,b≠a→s.heap.get? b=some o→s'.heap.get? b=some o)→∀ (E:Value→Shared→Prop) (Q:SortKind→Shared→Prop),(∀k0,ZdI prog w A s' k0 κ→Q k0 s')→wpAny (model prog w) A (keyKind' vs.toArray) Q E s')
  (q:∀ (st':SortSt),(arrOf st').Perm (pairsOf vs)→SortedToK κ (arrOf st') (pairsOf vs).size→P (Fin.done (Flow.ret Value.none)) { s with heap:=sortedHeap s.heap a vs ((arrOf st').map fun x=>x.snd) }) :
  wpAny (model prog w) A (Builtin.«list.sort» { pos:=[.ref a] }) P E s:=by
 rw[← Qs]at hz
 rw[list_sort_plain]
 refine wpAny_bind (ZaW ha rfl ?_)
 show wpAny _ _ (updateSeq a (fun x=>#[]) >>= _) _ _ _
 refine wpAny_bind (wpAny_updateSeq ha rfl ?_ hz (by show 0≤_;omega))
 have e1:=get?_update_seq ha (fun _=>#[])
 refine wpAny_bind (seqEpoch_at e1 rfl ?_)
 refine wpAny_bind (wpAny_newTuple ?_ (by simpa using hz))
 refine wpAny_bind (wpAny_newList ?_ (by show 0≤_;omega))
 refine wpAny_holding ?_
 have hn2:¬ vs.toArray.size<2:=by rw[Qs];omega
 have hps:(pairsOf vs).size=vs.length:=by unfold pairsOf;simp
 rw[if_neg hn2,if_neg hn2]
 have keep:∀b o,b≠a→s.heap.get? b=some o→(((s.heap.update a (Obj.mapSeq fun _=>#[])).push { cls:=.type "tuple",data:=.seq vs.toArray.toList.toArray }).push { cls:=.type "list",data:=.seq ([]:List Value).toArray }).get? b=some o:=fun b o hb h =>
  Qc _ (Qc _ (Heap.get?_update_of_ne _ (Ne.symm hb) h))
 have e2:(((s.heap.update a (Obj.mapSeq fun _=>#[])).push { cls:=.type "tuple",data:=.seq vs.toArray.toList.toArray }).push { cls:=.type "list",data:=.seq ([]:List Value).toArray }).get? a=some (seqObj "list" #[] _):=Qc _ (Qc _ e1)
 refine wpAny_bind (hK _ keep _ _ fun k0 hL=>?_)
 refine wpAny_bind ?_
 have B:SB k0 (pairsOf vs) (SortSt.mk' k0 (vs.toArray.zip vs.toArray) #[] 7 none):=⟨Array.Perm.refl _,rfl,rfl,rfl⟩
 refine thn (w_runsA (E:=E) hL hk B (Q:=fun _ st'=>(arrOf st').Perm (pairsOf vs)∧failedOf st'=none∧SortedToK κ (arrOf st') (pairsOf vs).size) (fun st' a b c=>⟨a,b,c⟩)) fun r s' hr=>?_
 obtain⟨⟨⟩,st'⟩:=r
 obtain⟨rfl,p1,p2,p3⟩:=hr
 refine wpAny_bind (seqEpoch_at e2 rfl ?_)
 have hsz:((arrOf st').map fun x=>x.snd).size=vs.length:=by rw[Array.size_map,p1.size_eq,hps]
 show wpAny _ _ (updateSeq a (fun x=>(arrOf st').map fun x=>x.snd) >>= _) _ _ _
 refine wpAny_bind (wpAny_updateSeq e2 rfl ?_ (by show 0≤_;omega) (by show ((arrOf st').map fun x=>x.snd).size≤_;rw[hsz];rw[Qs]at hz;omega))
 rw[p2]
 rw[if_neg (by simp)]
 exact wpAny_pure (q st' p1 p3)
theorem w_sortedA{l:Addr}{vs:List Value}{Q:Value→Shared→Prop}(hl:s.heap.IsList l vs.toArray)(hk:PyProof.Rows.KeysOf κ (pairsOf vs))(h2:2≤vs.length)(hz:vs.length≤sizeLine)
  (hK:∀ (A:Around) (s':Shared),(∀b o,s.heap.get? b=some o→s'.heap.get? b=some o)→∀ (E:Value→Shared→Prop) (Q:SortKind→Shared→Prop),(∀k0,ZdI prog w A s' k0 κ→Q k0 s')→wpAny (model prog w) A (keyKind' vs.toArray) Q E s')
  (q:∀ (st':SortSt),(arrOf st').Perm (pairsOf vs)→SortedToK κ (arrOf st') (pairsOf vs).size→Q (.ref (s.heap.objs.size+1)) { s with heap:=sortedAll s.heap vs ((arrOf st').map fun x=>x.snd) }) :
  wpAny (model prog w) A (call (.builtin "sorted") [.ref l]) Q E s:=by
 refine Calls.call_function_entry kind_sorted plain_sorted entry_sorted (args_sorted1 (.ref l)) ?_
 refine wpAny_bind (wpAny_pure (wpAny_bind (collect_list hl (wpAny_bind (wpAny_newList ?_ hz)) hz)))
 have hsz:((s.heap.push (seqObj "list" #[] 0)).update s.heap.objs.size (Obj.mapSeq fun x=>x++vs.toArray)).objs.size=s.heap.objs.size+1:=by rw[Heap.size_update,size_push']
 have hoL:((((s.heap.push (seqObj "list" #[] 0)).update s.heap.objs.size (Obj.mapSeq fun x=>x++vs.toArray)).push (seqObj "list" vs.toArray 0)).get? (s.heap.objs.size+1))=some (seqObj "list" vs.toArray 0):=by
  rw[← hsz];exact Qt _ rfl
 have keep:∀b o,s.heap.get? b=some o→(((s.heap.push (seqObj "list" #[] 0)).update s.heap.objs.size (Obj.mapSeq fun x=>x++vs.toArray)).push (seqObj "list" vs.toArray 0)).get? b=some o:=fun b o h =>
  Qc _ (Heap.get?_update_of_ne _ (Q9 (Qq h)) (Qc _ h))
 show wpAny _ _ (holding [.ref ((s.heap.push (seqObj "list" #[] 0)).update s.heap.objs.size (Obj.mapSeq fun x=>x++vs.toArray)).objs.size] (call (.builtin "list.sort") [.ref ((s.heap.push (seqObj "list" #[] 0)).update s.heap.objs.size (Obj.mapSeq fun x=>x++vs.toArray)).objs.size]) >>= fun _=>ret (.ref ((s.heap.push (seqObj "list" #[] 0)).update s.heap.objs.size (Obj.mapSeq fun x=>x++vs.toArray)).objs.size)) _ _ _
 rw[hsz]
 refine wpAny_bind (wpAny_holding (wpAny_call_entry slot_list_sort ⟨_,hoL,rfl⟩ entry_list_sort ?_ (args_list_sort _)))
 refine w_sortA hoL hk h2 hz (fun s' hk'=>hK _ s' fun b o h=>hk' b o (QE (Qw (Qq h) (Qay _))) (keep b o h)) fun st' p1 p3=>?_
 exact⟨_,rfl,wpAny_pure ⟨_,rfl,q st' p1 p3⟩⟩
end
def Zkt(K:PySem.W.Frag):List V→Hp→VK→Prop:=fun xs H Q=>∃ (p:Addr) (ts:ZdP) (sh:List Bool),xs=[.ref p]∧SqL K H p (ZcC ts)∧AtT H ts∧sh≠[]∧(∀t∈ts,ZaX t.2=sh) ∧
 ∀ (l:Addr) (ts':ZdP),H l=none→ts'.Perm ts→ts'.Pairwise (fun a b=>ZaS b.2 a.2=false)→Q (.ref l) (upd H l (.lst (ZcC ts')))
theorem Ze9{X:Cx}:Zap X (.builtin "sorted") (Zkt X.K):=by
 intro pins s σ H xs us Q I r h
 obtain⟨p,ts,sh,rfl,hq,hat,hsh,hts,q⟩:=h
 obtain⟨u,rfl,rx⟩:=Zcj r
 cases rx
 obtain⟨its,rv,pl,hz⟩:=I.list hq
 have ei:=ZfK rv
 subst ei
 have tupAt:∀t∈ts,∃its:List Value,Zy (t.2.map kV) its∧IsTup s.heap t.1 its.toArray:=fun t ht=>by
  obtain⟨i,v,q,_⟩:=I.tuple (SqT.of (K:=X.K) (hat t ht))
  exact⟨i,v,q⟩
 have eptl:(pairsOf (ts.map fun t=>Value.ref t.1)).toList=ts.map fun t=>(Value.ref t.1,Value.ref t.1):=by
  unfold pairsOf
  rw[Array.toList_zip,Zg5,QF]
  rfl
 have fin:∀ (out:Array Value) (ts':ZdP),ts'.Perm ts→ts'.Pairwise (fun a b=>ZaS b.2 a.2=false)→out.toList=ts'.map (fun t=>Value.ref t.1)→EP X pins σ Q (.ref (s.heap.objs.size+1)) { s with heap:=sortedAll s.heap (ts.map fun t=>Value.ref t.1) out }:=fun out ts' pm pw eo=>by
  obtain⟨e,he⟩:=sortedAll_at s.heap (ts.map fun t=>Value.ref t.1) out
  refine⟨.ref (s.heap.objs.size+1),_,I.laid (t':=s.toks) (o:=.lst (ZcC ts')) (fun _ _=>sortedAll_old) (Qay _) ⟨?_,out.toList,e,by rw[eo];exact Zfm ts',by simpa using he⟩,rfl,q _ ts' (I.hok.fresh (Qay _)) pm pw⟩
  unfold ZcC
  rw[Qb,pm.length_eq];unfold ZcC at hz;rw[Qb]at hz;exact hz
 by_cases h2:ts.length<2
 ·refine w_sorted0 pl.isList (by rw[Qb];exact h2) (fin _ ts (.refl _) ?_ ?_)
  ·cases ts with
   | nil=>exact .nil
   | cons t r =>
    have:r=[]:=QI (by rw[QH]at h2;omega)
    subst this
    exact QaO _ _
  ·rw[Array.toList_map,eptl,QF];rfl
 ·have hk:PyProof.Rows.KeysOf (Zf0 H sh) (pairsOf (ts.map fun t=>Value.ref t.1)):=fun z hz'=>by
   rw[eptl]at hz'
   obtain⟨t,ht,rfl⟩:=QJ.mp hz'
   exact⟨t.2,by rw[← hts t ht];exact ZgZ (hat t ht)⟩
  refine w_sortedA (κ:=Zf0 H sh) pl.isList hk (by rw[Qb];omega) (by unfold ZcC at hz;rw[Qb]at hz ⊢;exact hz) (fun A' s' kp E' Q' q'=>?_) fun st' p1 p3=>?_
  ·have tup':∀ {a:Addr} {its:List Value},IsTup s.heap a its.toArray→IsTup s'.heap a its.toArray:=fun ⟨o,ho,hc⟩=>⟨o,kp _ _ ho,hc⟩
   refine ZkC (fun v hv=>?_) fun b=>q' _ fun E2 x y a c Q2 hx hy h2=>?_
   ·obtain⟨t,ht,rfl⟩:=QJ.mp hv
    obtain⟨i,v,qt⟩:=tupAt t ht
    have hs1:=hts t ht
    cases hk2:t.2 with
    | nil=>rw[hk2]at hs1;exact absurd hs1.symm hsh
    | cons k kr =>
     rw[hk2]at v
     cases v with
     | cons r1 rr=>exact⟨t.1,_,k,_,rfl,tup' qt,rfl,r1⟩
   ·obtain⟨a1,rfl,ha1,s1⟩:=Zhr hx
    obtain⟨a2,rfl,ha2,s2⟩:=Zhr hy
    obtain⟨i1,v1,t1,_⟩:=I.tuple (SqT.of (K:=X.K) ha1)
    obtain⟨i2,v2,t2,_⟩:=I.tuple (SqT.of (K:=X.K) ha2)
    exact Znz (tup' t1) (tup' t2) v1 v2 (s1.trans s2.symm) h2
  ·have p1':=p1.toList
   obtain⟨ts',pm,e⟩:=Zg3 (fun t:Addr×List Key=>(Value.ref t.1,Value.ref t.1)) p1' ts eptl
   refine fin _ ts' pm ?_ ?_
   ·rw[List.pairwise_iff_getElem]
    intro i j hi hj hij
    have hsz:(pairsOf (ts.map fun t=>Value.ref t.1)).size=ts'.length:=by rw[← Qy,eptl,Qb,pm.length_eq]
    have:=p3 i j (by omega) (by rw[hsz];exact hj)
    have key:∀k (hk':k<ts'.length),KK (Zf0 H sh) (arrOf st') k=ts'[k].2:=fun k hk'=>by
     unfold KK
     have e1:(arrOf st')[k]? = some (Value.ref ts'[k].1,Value.ref ts'[k].1):=by
      rw[← QR,e,Qu,Qa hk'];rfl
     rw[e1]
     have hm:ts'[k]∈ts:=pm.mem_iff.mp (QS hk')
     show ((ZfP H sh (.ref ts'[k].1)).getD _)=_
     rw[← hts _ hm,ZgZ (hat _ hm)];rfl
    rw[key i hi,key j hj]at this
    exact this
   ·rw[Array.toList_map,e,QF];rfl
theorem ZoD{X:Cx}(K:PySem.W.Frag)(h:X.K=K:=by rfl):Zap X (.builtin "sorted") (Zkt K):=by subst h;exact Ze9
def rSrtSA(K:PySem.W.Frag):List V→Hp→VK→Prop:=fun xs H Q=>∃ (p:Addr) (ss:List Str),xs=[.ref p]∧SqL K H p (ss.map V.str)∧∀ (l:Addr) (ss':List Str),H l=none→ss'.Perm ss→sortedS ss'=true→Q (.ref l) (upd H l (.lst (ss'.map V.str)))
end L2
set_option maxHeartbeats 1000000
namespace My
open PySem L2 PyProof.Rows
abbrev Ztl:=@List.tail Stmt
abbrev Zt2(x:List Stmt):=Ztl (Ztl x)
abbrev Zt4(x:List Stmt):=Zt2 (Zt2 x)
abbrev Zt8(x:List Stmt):=Zt4 (Zt4 x)
abbrev Zt16(x:List Stmt):=Zt8 (Zt8 x)
abbrev Zt32(x:List Stmt):=Zt16 (Zt16 x)
local macro_rules|`(‹$i:num›)=>`(@pv _ $i _ _ (by rfl) (Or.inl rfl) (by decide) (by decide))
local macro_rules|`(tactic|trivial)=>`(tactic|first|exact .inl rfl|exact .inr rfl|decide|exact Nat.le_refl _|omega)
local macro_rules
|`(#[Xns,$a,$b,$c])=>`(PySem.W.nsIn $a mainGlobals $b=some (some (.ref $c)))
|`(#[Xfi,$a,$b,$c,$d])=>`(PySem.W.findIn $a (.ref $b) $c=some (some (.ref $d)))
|`(#[Xlk,$z,$a,$b,$c,$d,$e,$f,$g,$h,$i,$j,$k,$l,$m])=>`(($z).lookup $a=some ⟨$b,$c,.func (PySem.W.fnOf $d $e (Zp $f) (Zo $f) (Zf $f) .none $g $h $i $j $k $l),$m⟩)
|`(#[Xci,$a,$b,$c])=>`(PySem.W.codeIn $a $b $c=true)
|`(#[Xki,$a,$b])=>`(PySem.W.keepIn $a (.ref $b)=true)
|`(#[Xif,$a,$b])=>`(PySem.W.isFn $a (.ref $b)=true)
|`(#[Zg,$a,$b])=>`(@Zg _ _ _ _ _ $a $b)
|`(#[Zz,$a,$b,$c,$d])=>`(@Zz _ _ $a _ _ _ _ $b rfl $c $d (by rfl) (by trivial))
|`(#[ZW,$a,$b,$c])=>`(@ZW _ _ _ _ _ _ _ _ $a $b $c)
|`(#[Zh])=>`(@Zh _ _ _ _)
|`(#[Zi,$a])=>`(@Zi _ _ _ $a)
|`(#[Zr,$a])=>`(@Zr _ _ _ _ $a)
|`(#[Zbb,$a,$b,$c])=>`(@Zbb _ _ _ _ _ _ _ _ $a $b $c)
|`(#[Zs,$a,$b,$c,$d])=>`(@Zs _ _ _ _ _ _ _ _ $a $b $c $d)
|`(#[Zm,$a,$b,$c,$d])=>`(@Zm _ _ _ _ _ _ _ _ _ $a (by rfl) $b $c $d (by decide) (by decide) (by rfl) (by rfl))
|`(#[Za,$a,$b])=>`(@Za _ _ _ _ _ $a $b (by rfl))
|`(#[Ze])=>`(@Ze _)
|`(#[ZG,$a,$b,$c])=>`(@ZG _ _ _ _ _ _ _ $a $b $c (fun _ _=>rfl))
|`(#[ZaJ,$a])=>`(@ZaJ _ _ _ _ $a)
|`(#[ZcN,$a,$b,$c,$d])=>`(@ZcN _ _ _ _ _ _ _ _ _ $a (by rfl) $b $c $d (by decide) (by decide) (by rfl) (by rfl))
|`(#[ZcP,$a,$b,$c,$d])=>`(@ZcP _ _ _ _ _ _ _ _ $a $b $c $d)
|`(#[Zbd,$a,$b])=>`(@Zbd _ _ _ _ _ _ $a $b (by rfl) (by rfl) (by rfl))
|`(#[Zdh,$a,$b,$c])=>`(@Zdh _ _ _ _ _ _ _ $a $b $c (by intro _;rfl))
|`(#[Zaz,$a,$b,$c])=>`(@Zaz _ _ _ _ _ _ _ _ $a $b $c)
|`(#[ZM,$a,$b,$c,$d])=>`(@ZM _ _ _ _ _ _ _ _ _ _ _ $a $b $c (by trivial) $d (by decide) (by rfl) (by rfl))
|`(#[ZaU])=>`(@ZaU _ _ _ _)
|`(#[ZcL,$a,$b,$c,$d,$e])=>`(@ZcL _ _ _ _ _ _ _ _ _ _ _ _ _ _ $a rfl rfl rfl $b $c $d $e (by intro _;rfl))
|`(#[Zbm,$a,$b])=>`(@Zbm _ _ _ _ _ _ rfl $a $b (by rfl))
|`(#[pv,$a,$b])=>`(@pv _ $a _ _ (by rfl) $b (by decide) (by decide))
|`(#[cg,$a,$b])=>`(@cg _ _ _ _ _ _ _ _ _ _ _ $a $b rfl (by ac_rfl) (by rfl))
|`(#[cv,$a,$b])=>`(@cv _ _ _ _ _ _ _ _ _ _ _ $a $b rfl (by ac_rfl) (by rfl) (by decide) (by decide))
|`(#[Zdu,$a,$b,$c,$d,$e,$f])=>`(@Zdu _ _ _ _ _ _ _ _ _ _ _ _ $a $b $c $d $e $f (by rfl) (by rfl) (by rfl) (by rfl) (by rfl))
|`(#[Zd0,$a,$b])=>`(@Zd0 _ _ _ _ _ _ _ $a $b)
|`(#[Zd8,$a])=>`(@Zd8 _ _ _ $a (by intro _;rfl))
|`(#[ZaV,$a])=>`(@ZaV _ _ _ _ _ $a)
|`(#[ZbK,$a,$b])=>`(@ZbK _ _ _ _ $a $b (by rfl) (by decide) (by decide))
|`(#[gT,$a,$b,$c])=>`(@gT _ $a _ _ _ $b _ $c (by rfl) (by rfl) (by rfl) (by rfl))
|`(#[ZB,$a,$b])=>`(@ZB _ _ _ _ _ $a $b (by rfl))
|`(#[cw,$a,$b])=>`(@cw _ _ _ _ _ _ _ _ _ _ _ $a $b rfl (by ac_rfl) (by rfl) (by decide) (by decide))
|`(#[Zad])=>`(@Zad _ _ _)
|`(#[Zb4,$a,$b,$c,$d])=>`(@Zb4 _ _ _ _ _ _ _ _ $a rfl $b $c $d (by intro _;rfl))
|`(#[ZJ,$a,$b,$c])=>`(@ZJ _ _ $a _ $b rfl $c (by trivial))
|`(#[ZaO,$a])=>`(@ZaO _ _ _ _ $a (by rfl))
|`(#[iE,$a,$b,$c])=>`(@iE _ $a _ _ _ _ _ _ _ $b $c (by rfl) (by rfl) (by rfl))
|`(#[ZbV,$a,$b,$c,$d])=>`(@ZbV _ _ _ _ _ _ _ _ _ _ $a $b $c $d)
|`(#[Z0,$a])=>`(@Z0 _ _ _ _ _ $a (by rfl))
|`(#[Zbo,$a,$b,$c,$d])=>`(@Zbo _ _ _ _ _ _ _ _ _ _ _ _ $a $b $c $d (by trivial) (by rfl))
|`(#[Zbc,$a,$b])=>`(@Zbc _ _ _ _ _ _ _ _ $a $b (by rfl))
|`(#[ZcZ,$a,$b,$c,$d,$e])=>`(@ZcZ _ _ _ _ _ _ _ _ _ _ _ _ _ _ _ $a $b $c $d $e (by trivial) (by rfl) (by rfl) (by rfl))
|`(#[ZmL,$a,$b,$c])=>`(@ZmL _ _ _ _ _ _ _ _ _ _ _ _ $a $b $c (by trivial) (by rfl) (by decide) (by rfl) (by rfl))
theorem xw4{α0:Type _}{α1:Type _}{α2:Type _}{α3:Type _}{p:α0→α1→α2→α3→Prop}(a0:α0)(a1:α1)(a2:α2)(a3:α3)(h:p a0 a1 a2 a3):∃a0 a1 a2 a3,p a0 a1 a2 a3:=⟨a0,a1,a2,a3,h⟩
theorem xw5{α0:Type _}{α1:Type _}{α2:Type _}{α3:Type _}{α4:Type _}{p:α0→α1→α2→α3→α4→Prop}(a0:α0)(a1:α1)(a2:α2)(a3:α3)(a4:α4)(h:p a0 a1 a2 a3 a4):∃a0 a1 a2 a3 a4,p a0 a1 a2 a3 a4:=⟨a0,a1,a2,a3,a4,h⟩
theorem xw9{α0:Type _}{α1:Type _}{α2:Type _}{α3:Type _}{α4:Type _}{α5:Type _}{α6:Type _}{α7:Type _}{α8:Type _}{p:α0→α1→α2→α3→α4→α5→α6→α7→α8→Prop}(a0:α0)(a1:α1)(a2:α2)(a3:α3)(a4:α4)(a5:α5)(a6:α6)(a7:α7)(a8:α8)(h:p a0 a1 a2 a3 a4 a5 a6 a7 a8):∃a0 a1 a2 a3 a4 a5 a6 a7 a8,p a0 a1 a2 a3 a4 a5 a6 a7 a8:=⟨a0,a1,a2,a3,a4,a5,a6,a7,a8,h⟩
theorem Zoi{α0:Type _}{α1:Type _}{α2:Type _}{α3:Type _}{α4:Type _}{α5:Type _}{α6:Type _}{α7:Type _}{α8:Type _}{α9:Type _}{p:α0→α1→α2→α3→α4→α5→α6→α7→α8→α9→Prop}(a0:α0)(a1:α1)(a2:α2)(a3:α3)(a4:α4)(a5:α5)(a6:α6)(a7:α7)(a8:α8)(a9:α9)(h:p a0 a1 a2 a3 a4 a5 a6 a7 a8 a9):∃a0 a1 a2 a3 a4 a5 a6 a7 a8 a9,p a0 a1 a2 a3 a4 a5 a6 a7 a8 a9:=⟨a0,a1,a2,a3,a4,a5,a6,a7,a8,a9,h⟩
theorem ZoQ{α0:Type _}{α1:Type _}{α2:Type _}{α3:Type _}{α4:Type _}{α5:Type _}{α6:Type _}{α7:Type _}{α8:Type _}{α9:Type _}{α10:Type _}{p:α0→α1→α2→α3→α4→α5→α6→α7→α8→α9→α10→Prop}(a0:α0)(a1:α1)(a2:α2)(a3:α3)(a4:α4)(a5:α5)(a6:α6)(a7:α7)(a8:α8)(a9:α9)(a10:α10)(h:p a0 a1 a2 a3 a4 a5 a6 a7 a8 a9 a10):∃a0 a1 a2 a3 a4 a5 a6 a7 a8 a9 a10,p a0 a1 a2 a3 a4 a5 a6 a7 a8 a9 a10:=⟨a0,a1,a2,a3,a4,a5,a6,a7,a8,a9,a10,h⟩
def hdS:List Stmt→Stmt
 | a::_=>a
 | []=>.Pass ⟨0,0,0,0⟩
abbrev Zan:List Stmt:=PySem.Challenge.pw_mergetree_k14_so_many_at_once.main.body
abbrev Zls:Stmt:=hdS (Zt2 Zan)
abbrev Zfc:Stmt:=hdS (Zt2 (Ztl Zan))
abbrev Ze3:Stmt:=hdS (Zt16 (Ztl Zan))
abbrev ZX:Stmt:=hdS (Zt16 (Zt2 Zan))
abbrev Zow:Stmt:=hdS Zan
abbrev ZbR:Stmt:=hdS (Zt4 (Ztl Zan))
abbrev ZbS:Stmt:=hdS (Zt4 (Zt2 Zan))
abbrev ZcA:Stmt:=hdS (Zt8 Zan)
abbrev Zcv:Stmt:=hdS (Zt8 (Ztl Zan))
abbrev ZaM:Stmt:=hdS (Zt8 (Zt2 Zan))
abbrev ZaN:Stmt:=hdS (Zt8 (Zt2 (Ztl Zan)))
abbrev Za7:Stmt:=hdS (Zt8 (Zt4 Zan))
abbrev ZaD:Stmt:=hdS (Zt8 (Zt4 (Zt2 Zan)))
abbrev ZbJ:Stmt:=hdS (Zt8 (Zt4 (Zt2 (Ztl Zan))))
abbrev Zaw:Stmt:=hdS (Zt16 (Zt2 (Ztl Zan)))
abbrev ZaL:Stmt:=hdS (Zt16 (Zt4 Zan))
abbrev Zct:Stmt:=hdS (Zt16 (Zt4 (Zt2 Zan)))
abbrev ZbZ:Stmt:=hdS (Zt16 (Zt4 (Zt2 (Ztl Zan))))
abbrev Zb2:Stmt:=hdS (Zt16 (Zt8 Zan))
abbrev Za3:Stmt:=hdS (Zt16 (Zt8 (Ztl Zan)))
abbrev ZbM:Stmt:=hdS (Zt16 (Zt8 (Zt2 Zan)))
abbrev Zb1:Stmt:=hdS (Zt16 (Zt8 (Zt2 (Ztl Zan))))
abbrev Zcs:Stmt:=hdS (Zt16 (Zt8 (Zt4 Zan)))
abbrev ZbI:Stmt:=hdS (Zt16 (Zt8 (Zt4 (Ztl Zan))))
abbrev Zbh:Stmt:=hdS (Zt16 (Zt8 (Zt4 (Zt2 Zan))))
abbrev Za2:Stmt:=hdS (Zt16 (Zt8 (Zt4 (Zt2 (Ztl Zan)))))
abbrev Zbj:Stmt:=hdS (Zt32 Zan)
abbrev ZbC:Stmt:=hdS (Zt32 (Ztl Zan))
abbrev Zh1:Stmt:=ZO Zfc 0
abbrev ZaE:Stmt:=ZO Ze3 0
abbrev Zlp:Stmt:=ZO Ze3 1
abbrev Zas:Stmt:=ZO Ze3 2
abbrev ZaC:Stmt:=ZO Ze3 3
abbrev ZjJ:Stmt:=ZO Ze3 4
abbrev Zal:Stmt:=ZO ZX 0
abbrev Z6:Stmt:=ZO ZX 1
abbrev Zah:Stmt:=ZO ZX 2
abbrev ZS:Stmt:=ZO ZX 3
abbrev Zab:Stmt:=ZO ZX 4
abbrev Zle:Stmt:=ZO ZX 5
abbrev ZhO:Stmt:=ZO ZX 6
abbrev Zao:Stmt:=ZO ZX 7
abbrev Zlr:Stmt:=ZO ZX 8
abbrev Zjq:Stmt:=ZO ZX 9
abbrev Zik:Stmt:=ZO ZX 10
abbrev Zlq:Stmt:=ZO ZX 11
abbrev ZjK:Stmt:=ZO ZX 12
abbrev ZT:Stmt:=ZO ZX 13
abbrev Zai:Stmt:=ZO ZX 14
abbrev ZQ:Stmt:=ZO ZX 15
abbrev ZI:Stmt:=ZO ZX 16
abbrev Zak:Stmt:=ZO ZX 17
theorem ZgU:Zq ["_law_cell", "_law_k", "_law_m"] ["_law_cell", "_law_k"] (Zf Zct):=⟨rfl,rfl,rfl,by ac_rfl,rfl,by ac_rfl,by ac_rfl⟩
theorem Zfn:Zq ["_law_script", "_law_k", "_law_cell"] ["_law_script", "_law_k"] (Zf ZbZ):=⟨rfl,rfl,rfl,by ac_rfl,rfl,by ac_rfl,by ac_rfl⟩
theorem Zfx:Zq ["_law_left_here", "_law_many_here", "_law_digit"] ["_law_left_here", "_law_many_here"] (Zf Zb2):=⟨rfl,rfl,rfl,by ac_rfl,rfl,by ac_rfl,by ac_rfl⟩
theorem ZeF:Zq ["_law_left_here", "_law_some"] ["_law_left_here"] (Zf Za3):=⟨rfl,rfl,rfl,by ac_rfl,rfl,by ac_rfl,by ac_rfl⟩
theorem ZgN:Zq ["_law_left_here", "_law_stems_here", "_law_tail"] ["_law_left_here", "_law_stems_here"] (Zf ZbM):=⟨rfl,rfl,rfl,by ac_rfl,rfl,by ac_rfl,by ac_rfl⟩
theorem ZbG:Zq ["one", "other", "far", "at"] ["one", "other", "far"] (Zf ZaN):=⟨rfl,rfl,rfl,by ac_rfl,rfl,by ac_rfl,by ac_rfl⟩
theorem Zk6:Zq ["one", "other"] ["one", "other"] (Zf ZcA):=⟨rfl,rfl,rfl,by ac_rfl,rfl,by ac_rfl,by ac_rfl⟩
theorem ZfC:Zq ["_law_found", "_law_due"] ["_law_found", "_law_due"] (Zf Zbj):=⟨rfl,rfl,rfl,by ac_rfl,rfl,by ac_rfl,by ac_rfl⟩
theorem ZbX:Zq ["_law_left_here", "_law_stems_here", "_law_most", "_law_found", "_law_k", "_law_key_here"] ["_law_left_here", "_law_stems_here", "_law_most"] (Zf Zb1):=⟨rfl,rfl,rfl,by ac_rfl,rfl,by ac_rfl,by ac_rfl⟩
theorem ZcM:Zq ["row", "told", "place", "key"] ["row"] (Zf ZbJ):=⟨rfl,rfl,rfl,by ac_rfl,rfl,by ac_rfl,by ac_rfl⟩
theorem ZgE:Zq ["one", "other", "at"] ["one", "other", "at"] (Zf Za7):=⟨rfl,rfl,rfl,by ac_rfl,rfl,by ac_rfl,by ac_rfl⟩
theorem ZjP:Zq ["one", "other"] ["one", "other"] (Zf Zcv):=⟨rfl,rfl,rfl,by ac_rfl,rfl,by ac_rfl,by ac_rfl⟩
theorem ZcX:Zq ["one", "other", "far", "at"] ["one", "other", "far"] (Zf ZaM):=⟨rfl,rfl,rfl,by ac_rfl,rfl,by ac_rfl,by ac_rfl⟩
theorem Zcp:Zq ["keys", "place"] ["keys"] (Zf ZaD):=⟨rfl,rfl,rfl,by ac_rfl,rfl,by ac_rfl,by ac_rfl⟩
theorem ZfM:Zq ["numbers", "middle"] ["numbers"] (Zf ZbR):=⟨rfl,rfl,rfl,by ac_rfl,rfl,by ac_rfl,by ac_rfl⟩
theorem Zfh:Zq ["_law_left_here", "_law_way"] ["_law_left_here"] (Zf ZbI):=⟨rfl,rfl,rfl,by ac_rfl,rfl,by ac_rfl,by ac_rfl⟩
theorem Zgo:Zq ["self"] ["self"] (Zf Zas):=⟨rfl,rfl,rfl,by ac_rfl,rfl,by ac_rfl,by ac_rfl⟩
theorem Zhm:Zq ["self"] ["self"] (Zf ZaC):=⟨rfl,rfl,rfl,by ac_rfl,rfl,by ac_rfl,by ac_rfl⟩
theorem ZgS:Zq ["self", "keys"] ["self", "keys"] (Zf ZaE):=⟨rfl,rfl,rfl,by ac_rfl,rfl,by ac_rfl,by ac_rfl⟩
theorem ZbD:Zq ["self", "rows", "number", "keys"] ["self", "rows"] (Zf Zal):=⟨rfl,rfl,rfl,by ac_rfl,rfl,by ac_rfl,by ac_rfl⟩
theorem Zcg:Zq ["self", "row"] ["self"] (Zf Z6):=⟨rfl,rfl,rfl,by ac_rfl,rfl,by ac_rfl,by ac_rfl⟩
theorem Ze7:Zq ["self"] ["self"] (Zf Zab):=⟨rfl,rfl,rfl,by ac_rfl,rfl,by ac_rfl,by ac_rfl⟩
theorem ZdF:Zq ["self"] ["self"] (Zf ZT):=⟨rfl,rfl,rfl,by ac_rfl,rfl,by ac_rfl,by ac_rfl⟩
theorem Z2:Zq ["self", "numbers", "first_side", "other_side", "one", "other", "winner", "loser", "far"] ["self", "numbers"] (Zf Zai):=⟨rfl,rfl,rfl,by ac_rfl,rfl,by ac_rfl,by ac_rfl⟩
theorem Za5:Zq ["self", "one", "other", "far", "order", "alike_far", "seen"] ["self", "one", "other", "far"] (Zf Zak):=⟨rfl,rfl,rfl,by ac_rfl,rfl,by ac_rfl,by ac_rfl⟩
theorem Zcf:Zq ["number", "keys", "place"] ["number", "keys"] (Zf Zaw):=⟨rfl,rfl,rfl,by ac_rfl,rfl,by ac_rfl,by ac_rfl⟩
theorem ZkL:Zq ["_law_left_here", "_law_stems_here", "_law_most"] ["_law_left_here", "_law_stems_here", "_law_most"] (Zf Zcs):=⟨rfl,rfl,rfl,by ac_rfl,rfl,by ac_rfl,by ac_rfl⟩
theorem ZdO:Zq ["_law_left_here", "_law_stems_here", "_law_most"] ["_law_left_here"] (Zf Zbh):=⟨rfl,rfl,rfl,by ac_rfl,rfl,by ac_rfl,by ac_rfl⟩
theorem Zc0:Zq ["self", "thing"] ["self"] (Zf Zah):=⟨rfl,rfl,rfl,by ac_rfl,rfl,by ac_rfl,by ac_rfl⟩
theorem Zaf:Zq ["self", "number", "row", "comer", "meeting"] ["self", "number"] (Zf ZQ):=⟨rfl,rfl,rfl,by ac_rfl,rfl,by ac_rfl,by ac_rfl⟩
theorem Z9:Zq ["self", "meeting", "comer", "stayer", "winner", "loser", "far"] ["self", "meeting", "comer"] (Zf ZI):=⟨rfl,rfl,rfl,by ac_rfl,rfl,by ac_rfl,by ac_rfl⟩
theorem Zag:Zq ["numbers", "n", "matches", "least", "greatest", "others"] ["numbers", "n"] (Zf ZaL):=⟨rfl,rfl,rfl,by ac_rfl,rfl,by ac_rfl,by ac_rfl⟩
theorem Za1:Zq ["numbers", "n", "others", "side", "first", "rest"] ["numbers", "n"] (Zf ZbS):=⟨rfl,rfl,rfl,by ac_rfl,rfl,by ac_rfl,by ac_rfl⟩
theorem Zbz:Zq ["self", "many", "things"] ["self", "many"] (Zf ZS):=⟨rfl,rfl,rfl,by ac_rfl,rfl,by ac_rfl,by ac_rfl⟩
theorem Zb9:Zq ["_law_rows_here", "_law_found", "_law_n", "_law_row_here"] ["_law_rows_here"] (Zf Za2):=⟨rfl,rfl,rfl,by ac_rfl,rfl,by ac_rfl,by ac_rfl⟩
theorem Zbt:Zq ["_law_script", "_law_k", "_law_left_here", "_law_rows_here", "_law_due", "_law_merge", "_law_at", "_law_turn", "_law_many_here", "_law_found"] ["_law_script"] (Zf ZbC):=⟨rfl,rfl,rfl,by ac_rfl,rfl,by ac_rfl,by ac_rfl⟩
abbrev zsc(l:List (Str×NameKind)):Scope:={ kind:=.function,names:=l,isGenerator:=false,isCoroutine:=false,more:=[] }
def Zmw:Scope:=zsc [(".0",.«local»),("_law_k",.«local»),("_law_pick",.globalImplicit),("_law_left_here",.free),("_law_some",.free)]
theorem Zks:Zaj ["_law_left_here", "_law_some"] ["_law_left_here", "_law_some", "_law_k"] (Zf Za3) Zmw:=⟨rfl,rfl,by ac_rfl,by ac_rfl,by ac_rfl,by decide,by ac_rfl,by ac_rfl⟩
def ZlF:Scope:=zsc [(".0",.«local»),("_law_k",.«local»),("_law_pick",.globalImplicit),("_law_left_here",.free)]
theorem Zl4:Zaj ["_law_left_here", "_law_stems_here", "_law_tail"] ["_law_left_here", "_law_stems_here", "_law_tail", "_law_k"] (Zf ZbM) ZlF:=⟨rfl,rfl,by ac_rfl,by ac_rfl,by ac_rfl,by decide,by ac_rfl,by ac_rfl⟩
def ZlA:Scope:=zsc [(".0",.«local»),("_law_one",.«local»),("_law_other",.«local»),("_law_same",.globalImplicit)]
theorem ZjC:Zaj ["_law_found", "_law_due"] ["_law_found", "_law_due", "_law_one", "_law_other"] (Zf Zbj) ZlA:=⟨rfl,rfl,by ac_rfl,by ac_rfl,by ac_rfl,by decide,by ac_rfl,by ac_rfl⟩
def ZlH:Scope:=zsc [(".0",.«local»),("row",.«local»)]
theorem Zm4:Zaj ["self"] ["self", "row"] (Zf Zab) ZlH:=⟨rfl,rfl,by ac_rfl,by ac_rfl,by ac_rfl,by decide,by ac_rfl,by ac_rfl⟩
def ZlC:Scope:=zsc [(".0",.«local»),("_law_k",.«local»),("_law_row",.globalImplicit),("_law_left_here",.free),("_law_most",.free),("_law_stems_here",.free)]
theorem Zjz:Zaj ["_law_left_here", "_law_stems_here", "_law_most"] ["_law_left_here", "_law_stems_here", "_law_most", "_law_k"] (Zf Zbh) ZlC:=⟨rfl,rfl,by ac_rfl,by ac_rfl,by ac_rfl,by decide,by ac_rfl,by ac_rfl⟩
def Zl9:Scope:=zsc [(".0",.«local»),("_law_place",.«local»),("_law_key_here",.«local»),("_law_n",.free)]
theorem Zi7:Zaj ["_law_rows_here", "_law_found", "_law_n", "_law_row_here"] ["_law_rows_here", "_law_found", "_law_n", "_law_row_here", "_law_place", "_law_key_here"] (Zf Za2) Zl9:=⟨rfl,rfl,by ac_rfl,by ac_rfl,by ac_rfl,by decide,by ac_rfl,by ac_rfl⟩
def Zmj:Scope:=zsc [(".0",.«local»),("_law_key_here",.«local»),("_law_n",.«local»),("_law_place",.«local»)]
theorem Zh3:Zaj ["_law_script", "_law_k", "_law_left_here", "_law_rows_here", "_law_due", "_law_merge", "_law_at", "_law_turn", "_law_many_here", "_law_found"] ["_law_script", "_law_k", "_law_left_here", "_law_rows_here", "_law_due", "_law_merge", "_law_at", "_law_turn", "_law_many_here", "_law_found", "_law_key_here", "_law_n", "_law_place"] (Zf ZbC) Zmj:=⟨rfl,rfl,by ac_rfl,by ac_rfl,by ac_rfl,by decide,by ac_rfl,by ac_rfl⟩
structure Bt (mg:Str→Option Value):Prop where
 n_abs:mg "abs" = none
 n_all:mg "all" = none
 n_bool:mg "bool" = none
 n_enumerate:mg "enumerate" = none
 n_int:mg "int" = none
 n_isinstance:mg "isinstance" = none
 n_len:mg "len" = none
 n_list:mg "list" = none
 n_max:mg "max" = none
 n_min:mg "min" = none
 n_range:mg "range" = none
 n_sorted:mg "sorted" = none
 n_str:mg "str" = none
 n_sum:mg "sum" = none
 n_tuple:mg "tuple" = none
 n_zip:mg "zip" = none
structure Zay (K:PySem.W.Frag) (mg:Str→Option Value) (cRow:Addr) (cMerge:Addr):Prop where
 b:Bt mg
 t_halves:Top K mg "halves" ZbR ["numbers"]
 t_way_up:Top K mg "way_up" ZbS ["numbers", "n"]
 t_alike:Top K mg "alike" ZcA ["one", "other"]
 t_liken:Top K mg "liken" Zcv ["one", "other"]
 t_liken_from:Top K mg "liken_from" ZaM ["one", "other", "far"]
 t_alike_from:Top K mg "alike_from" ZaN ["one", "other", "far"]
 t_order_at:Top K mg "order_at" Za7 ["one", "other", "at"]
 t_first_break:Top K mg "first_break" ZaD ["keys"]
 t_alikes:Top K mg "alikes" ZbJ ["row"]
 t_refuse_break:Top K mg "refuse_break" Zaw ["number", "keys"]
 t_matches_up:Top K mg "matches_up" ZaL ["numbers", "n"]
 t_l_mix:Top K mg "_law_mix" Zct ["_law_cell", "_law_k"]
 t_l_left:Top K mg "_law_left" ZbZ ["_law_script", "_law_k"]
 t_l_pick:Top K mg "_law_pick" Zb2 ["_law_left_here", "_law_many_here"]
 t_l_stems:Top K mg "_law_stems" Za3 ["_law_left_here"]
 t_l_key:Top K mg "_law_key" ZbM ["_law_left_here", "_law_stems_here"]
 t_l_keys:Top K mg "_law_keys" Zb1 ["_law_left_here", "_law_stems_here", "_law_most"]
 t_l_row:Top K mg "_law_row" Zcs ["_law_left_here", "_law_stems_here", "_law_most"]
 t_l_many:Top K mg "_law_many" ZbI ["_law_left_here"]
 t_l_rows:Top K mg "_law_rows" Zbh ["_law_left_here"]
 t_l_order:Top K mg "_law_order" Za2 ["_law_rows_here"]
 t_l_same:Top K mg "_law_same" Zbj ["_law_found", "_law_due"]
 t_Row_init:Zms K mg cRow "Row" "Row.__init__" ZaE ["self", "keys"]
 t_Row_to_go:Zdw K cRow "to_go" "Row.to_go" Zas ["self"]
 t_Row_head:Zdw K cRow "head" "Row.head" ZaC ["self"]
 t_Merge_init:Zms K mg cMerge "Merge" "Merge.__init__" Zal ["self", "rows"]
 t_Merge_coming:Zdw K cMerge "coming" "Merge.coming" Z6 ["self"]
 t_Merge_take:Zdw K cMerge "take" "Merge.take" Zah ["self"]
 t_Merge_take_few:Zdw K cMerge "take_few" "Merge.take_few" ZS ["self", "many"]
 t_Merge_left:Zdw K cMerge "left" "Merge.left" Zab ["self"]
 t_Merge_looks:Zdw K cMerge "looks" "Merge.looks" Zao ["self"]
 t_Merge_play_all:Zdw K cMerge "play_all" "Merge.play_all" ZT ["self"]
 t_Merge_play:Zdw K cMerge "play" "Merge.play" Zai ["self", "numbers"]
 t_Merge_send_out:Zdw K cMerge "send_out" "Merge.send_out" ZQ ["self", "number"]
 t_Merge_play_again:Zdw K cMerge "play_again" "Merge.play_again" ZI ["self", "meeting", "comer"]
 t_Merge_meet:Zdw K cMerge "meet" "Merge.meet" Zak ["self", "one", "other", "far"]
 cl_Row:Cls K cRow
 na_Row_all_keys:ZaI K cRow "all_keys"
 na_Row_fars:ZaI K cRow "fars"
 na_Row_gone:ZaI K cRow "gone"
 cl_Merge:Cls K cMerge
 na_Merge_best:ZaI K cMerge "best"
 na_Merge_likened:ZaI K cMerge "likened"
 na_Merge_looked:ZaI K cMerge "looked"
 na_Merge_next_number:ZaI K cMerge "next_number"
 na_Merge_rows:ZaI K cMerge "rows"
 na_Merge_stays:ZaI K cMerge "stays"
def Zar(H:Hp)(p:Addr)(c:Int):Prop:=∃a b:Int,H p=some (.lst [.int a,.int b,.int c])∧0≤c
def But(p:Addr)(H H':Hp):Prop:=∀b o,H b=some o→b≠p→H' b=some o
theorem But.trans{p:Addr}{H H1 H2:Hp}(a:But p H H1)(b:But p H1 H2):But p H H2:=fun c o h n=>b c o (a c o h n) n
theorem But.same{p:Addr}{H H1:Hp}(a:ZD H H1):But p H H1:=fun c o h _=>a c o h
theorem Zj{H:Hp}{p:Addr}(h:H p=none)(o:HO):ZD H (upd H p o):=fun b u q=>by rw[Zc (Zb q h)];exact q
theorem Zci{n:Nat}(h:n≤1000):n≤sizeLine:=Nat.le_of_lt (Z5 h)
def ZkV:Sp:=fun vs H Q _=>∃a k:Int,vs=[.int a,.int k] ∧ -(2 ^ 62)<k∧k<2 ^ 62∧∀r:Int,0≤r→r<2000000000→Q (.int r) H
def ZkA(K:PySem.W.Frag):Sp:=fun vs H Q _=>∃ (a:Addr) (ns:List Int) (k:Int),vs=[.ref a,.int k]∧SqL K H a (ns.map V.int)∧ns.length≤63∧0≤k∧k<100 ∧
 ∀ (p:Addr) (H':Hp),H p=none→Zar H' p 0→ZD H H'→Q (.ref p) H'
def Zc5:Sp:=fun vs H Q _=>∃ (p:Addr) (c m:Int),vs=[.ref p,.int m]∧Zar H p c∧c<2 ^ 60∧0<m∧m<1000000 ∧
 ∀ (r:Int) (H':Hp),0≤r→r<m→Zar H' p (c+1)→But p H H'→Q (.int r) H'
theorem Znk{ns:List Int}{k:Int}(h0:0≤k)(h:k<(ns.length:Int)):∃v:Int,atI (ns.map V.int) k=some (.int v):=by
 have hk:k.toNat<ns.length:=by omega
 have ek:k=((k.toNat:Nat):Int):=by omega
 have q:atI (ns.map V.int) ((k.toNat:Nat):Int)=some (.int ns[k.toNat]):=Zat (by rw[Qu,Qa hk]<;>rfl)
 rw[← ek]at q
 exact⟨_,q⟩
theorem ZhA{ss:List Str}{k:Int}(h0:0≤k)(h:k<(ss.length:Int)):∃s∈ss,atI (ss.map V.str) k=some (.str s):=by
 have hk:k.toNat<ss.length:=by omega
 have ek:k=((k.toNat:Nat):Int):=by omega
 have q:atI (ss.map V.str) ((k.toNat:Nat):Int)=some (.str ss[k.toNat]):=Zat (by rw[Qu,Qa hk]<;>rfl)
 rw[← ek]at q
 exact⟨_,QS hk,q⟩
theorem ZmF(b:Bool):-(2 ^ 64)<(if b=true then (1:Int) else 0)∧(if b=true then (1:Int) else 0)<2 ^ 64:=by cases b<;>decide
theorem ZdD{z:Str}{k:Int}(h0:0≤k)(h:k<(z.length:Int)):∃c:Nat,z.cps.toList[k.toNat]? = some c∧atI z.cps.toList k=some c:=by
 have hl:z.cps.toList.length=z.length:=by simp[Str.length]
 have hk:k.toNat<z.cps.toList.length:=by omega
 have ek:k=((k.toNat:Nat):Int):=by omega
 have q:atI z.cps.toList ((k.toNat:Nat):Int)=some z.cps.toList[k.toNat]:=Zat (Qa hk)
 rw[← ek]at q
 exact⟨_,Qa hk,q⟩
theorem ZjU(sep:Str)(ys:List Str):(Txt.join sep ys).length≤(ys.map (·.length)).sum+ys.length*sep.length:=by
 have e:Txt.join sep ys=Str.join sep ys:=by simpa using join_plain_closes sep ys
 rw[e]
 exact StrLaws.join_length_le sep ys
theorem Zhc:∀ss:List Str,(∀s∈ss,s.length≤1)→(ss.map (·.length)).sum≤ss.length
 | [],_=>Qf _
 | s::r,h=>by
  have h1:=h s QA
  have h2:=Zhc r fun x hx=>h x (Qi _ hx)
  rw[Qe,Qat,QH]
  omega
def lcp:List Nat→List Nat→Nat
 | a::r,b::s=>if a=b then lcp r s+1 else 0
 | _,_=>0
theorem ZeR:∀ (x y:List Nat),lcp x y≤x.length∧lcp x y≤y.length
 | [],_=>⟨Qv _,Qv _⟩
 | _::_,[]=>⟨Qv _,Qv _⟩
 | a::r,b::s=>by
  have h:=ZeR r s
  unfold lcp
  split
  ·exact⟨Nat.succ_le_succ h.1,Nat.succ_le_succ h.2⟩
  ·exact⟨Qv _,Qv _⟩
theorem Zbq:∀ (x y:List Nat),lcp x y=lcp y x
 | [],[]=>rfl
 | [],_::_=>rfl
 | _::_,[]=>rfl
 | a::r,b::s=>by
  unfold lcp
  by_cases h:a=b
  ·rw[if_pos h,if_pos h.symm,Zbq r s]
  ·rw[if_neg h,if_neg fun e=>h e.symm]
theorem ZgF:∀x:List Nat,lcp x x=x.length
 | []=>rfl
 | a::r=>by unfold lcp;rw[if_pos rfl,ZgF r];rfl
theorem ZcS(x:List Nat):lcp x []=0:=by cases x<;>rfl
theorem lcp_nil'(x:List Nat):lcp [] x=0:=by cases x<;>rfl
theorem Zkm:∀ (x y:List Nat) (k:Nat),k≤lcp x y→∀a,x[k]? = some a→y[k]? = some a→k+1≤lcp x y
 | [],_,k,_,a,h,_=>by simp at h
 | _::_,[],k,_,a,_,h=>by simp at h
 | a::r,b::s,0,_,c,h1,h2=>by
  simp at h1 h2
  unfold lcp
  rw[if_pos (by rw[h1,h2])]
  omega
 | a::r,b::s,k+1,h,c,h1,h2=>by
  unfold lcp at h ⊢
  by_cases e:a=b
  ·rw[if_pos e]at h ⊢
   have:=Zkm r s k (by omega) c (by simpa using h1) (by simpa using h2)
   omega
  ·rw[if_neg e]at h;omega
theorem Zj4:∀ (x y:List Nat) (k:Nat),k<lcp x y→x[k]? = y[k]?
 | [],_,k,h=>by unfold lcp at h;omega
 | _::_,[],k,h=>by unfold lcp at h;omega
 | a::r,b::s,0,h=>by
  unfold lcp at h
  by_cases e:a=b
  ·simp[e]
  ·rw[if_neg e]at h;omega
 | a::r,b::s,k+1,h=>by
  unfold lcp at h
  by_cases e:a=b
  ·rw[if_pos e]at h
   simpa using Zj4 r s k (by omega)
  ·rw[if_neg e]at h;omega
theorem Zgd(x y:List Nat)(k:Nat)(h:k≤lcp x y)(n:x.length≤k∨y.length≤k∨∃a b,x[k]? = some a∧y[k]? = some b∧a≠b):lcp x y=k:=by
 have l:=ZeR x y
 rcases n with n|n|⟨a,b,h1,h2,ne⟩
 ·omega
 ·omega
 ·by_cases q:k<lcp x y
  ·have:=Zj4 x y k q
   rw[h1,h2]at this
   exact absurd (Qo this) ne
  ·omega
theorem ZdS:∀ (x y z:List Nat),(lcp x y≤lcp x z∧lcp y z=lcp x y)∨(lcp x y≤lcp y z∧lcp x z=lcp x y)∨(lcp x z≤lcp x y∧lcp y z=lcp x z)
 | [],y,z=>.inr (.inl ⟨by rw[lcp_nil'];exact Qv _,by rw[lcp_nil',lcp_nil']⟩)
 | x,[],z=>.inl ⟨by rw[ZcS];exact Qv _,by rw[ZcS,lcp_nil']⟩
 | x,y,[]=>.inr (.inr ⟨by rw[ZcS];exact Qv _,by rw[ZcS,ZcS]⟩)
 | a::r,b::s,c::t=>by
  have ih:=ZdS r s t
  unfold lcp
  by_cases h1:a=b
  ·by_cases h2:b=c
   ·rw[if_pos h1,if_pos h2,if_pos (h1.trans h2)]
    omega
   ·rw[if_pos h1,if_neg h2,if_neg fun e=>h2 (h1.symm.trans e)]
    omega
  ·rw[if_neg h1]
   by_cases h2:b=c
   ·rw[if_pos h2,if_neg fun e=>h1 (e.trans h2.symm)]
    omega
   ·rw[if_neg h2]
    omega
abbrev cds(z:Str):List Nat:=z.cps.toList
def AZ(z:Str):Prop:=∀c∈cds z,97≤c∧c≤122
theorem ZlS(x y:Str):cds (x++y)=cds x++cds y:=by
 show (x++y).cps.toList=_
 rw[PySem.Str.cps_append]
 simp
theorem AZ.app{x y:Str}(a:AZ x)(b:AZ y):AZ (x++y):=fun c h=>by
 rw[ZlS]at h
 exact(Qk.mp h).elim (a c) (b c)
theorem AZ.nil:AZ "":=by unfold AZ cds;ac_rfl
theorem AZ.join:∀ys:List Str,(∀s∈ys,AZ s)→AZ (Str.join "" ys)
 | [],_=>fun c h=>by cases (show c∈([]:List Nat) from h)
 | [x],h=>h x (by simp)
 | x::y::r,h=>((h x (by simp)).app AZ.nil).app (AZ.join (y::r) fun s hs=>h s (Qi _ hs))
theorem AZ.joinT(ys:List Str)(h:∀s∈ys,AZ s):AZ (Txt.join "" ys):=by
 have e:Txt.join "" ys=Str.join "" ys:=by simpa using join_plain_closes "" ys
 rw[e]
 exact AZ.join ys h
theorem AZ.one{z:Str}(a:AZ z){k:Nat}{c:Nat}(h:z.cps.toList[k]? = some c):AZ ⟨#[c]⟩:=fun d hd=>by
 have e:d=c:=by simpa using hd
 rw[e]
 exact a c (QM h)
theorem AZ.ok{z:Str}(a:AZ z):PyData.strOk z=true:=by
 unfold PyData.strOk
 rw[Array.all_eq_true]
 intro i hi
 have:=a z.cps[i] (by simp)
 exact decide_eq_true (by omega)
theorem ZnA:AZ "ababcz":=by unfold AZ cds;ac_rfl
def Zer:Sp:=fun vs H Q _=>∃x y:Str,vs=[.str x,.str y]∧x.length≤1000∧y.length≤1000∧Q (.int (lcp (cds x) (cds y))) H
def Zby:Sp:=fun vs H Q _=>∃ (x y:Str) (far:Nat),vs=[.str x,.str y,.int far]∧x.length≤1000∧y.length≤1000∧far≤lcp (cds x) (cds y)∧Q (.int (lcp (cds x) (cds y))) H
def IsD(H:Hp):Nat→V→V→Prop
 | 0,_,_=>False
 | n+1,x,y=>(x=y∧(x=.non∨(∃b,x=.bl b)∨(∃i,x=.int i)∨∃s,x=.str s)) ∨
   (∃ (p q:Addr) (xs ys:List V),x=.ref p∧y=.ref q∧((H p=some (.lst xs)∧H q=some (.lst ys))∨(H p=some (.tup xs)∧H q=some (.tup ys)))∧xs.length=ys.length∧xs.length≤1000∧∀ (i:Nat) (x y:V),xs[i]? = some x→ys[i]? = some y→IsD H n x y)
theorem IsD.mono{H H':Hp}(s:ZD H H'):∀ {n:Nat} {x y:V},IsD H n x y→IsD H' n x y
 | 0,_,_,h=>h.elim
 | n+1,x,y,h=>by
  rcases h with h|⟨p,q,xs,ys,e1,e2,h,hl,hz,hi⟩
  ·exact .inl h
  ·refine .inr ⟨p,q,xs,ys,e1,e2,?_,hl,hz,fun i x y a b=>(hi i x y a b).mono s⟩
   rcases h with⟨a,b⟩|⟨a,b⟩
   ·exact .inl ⟨s _ _ a,s _ _ b⟩
   ·exact .inr ⟨s _ _ a,s _ _ b⟩
def ZjS(n:Nat):Sp:=fun vs H Q _=>∃x y:V,vs=[x,y]∧IsD H n x y∧∀H',ZD H H'→Q (.bl true) H'
section
variable (K:PySem.W.Frag)
open PySem.W
theorem Zi8:kitAny K (.type "int") (["list", "tuple"].map Value.type)=some false:=by unfold kitAny kitOne kitCls;rfl
theorem Zkr:kitAny K (.type "bool") (["list", "tuple"].map Value.type)=some false:=by unfold kitAny kitOne kitCls;rfl
theorem Zjv:kitAny K (.type "str") (["list", "tuple"].map Value.type)=some false:=by unfold kitAny kitOne kitCls;rfl
theorem Zi1:kitAny K (.type "NoneType") (["list", "tuple"].map Value.type)=some false:=by unfold kitAny kitOne kitCls;rfl
theorem ZiQ:kitAny K (.type "list") (["list", "tuple"].map Value.type)=some true:=by unfold kitAny kitOne kitCls;rfl
theorem ZjA:kitAny K (.type "tuple") (["list", "tuple"].map Value.type)=some true:=by unfold kitAny kitOne kitCls;rfl
theorem Zfs:kitOne K (.type "list") (.type "list")=some true:=by unfold kitOne kitCls;rfl
theorem ZfE:kitOne K (.type "list") (.type "tuple")=some false:=by unfold kitOne kitCls;rfl
theorem ZfG:kitOne K (.type "tuple") (.type "list")=some false:=by unfold kitOne kitCls;rfl
theorem ZfS:kitOne K (.type "tuple") (.type "tuple")=some true:=by unfold kitOne kitCls;rfl
theorem Zje:kitOne K (.type "int") (.type "str")=some false:=by unfold kitOne kitCls;rfl
theorem Zg8:kitOne K (.type "int") (.type "bool")=some false:=by unfold kitOne kitCls;rfl
theorem ZiX:kitOne K (.type "int") (.type "int")=some true:=by unfold kitOne kitCls;rfl
theorem ZdR:kitOne K (.type "str") (.type "str")=some true:=by unfold kitOne kitCls;rfl
theorem Zfu:kitOne K (.type "NoneType") (.type "str")=some false:=by unfold kitOne kitCls;rfl
theorem Zki:kitOne K (.type "bool") (.type "str")=some false:=by unfold kitOne kitCls;rfl
theorem Ziw:kitOne K (.type "bool") (.type "bool")=some true:=by unfold kitOne kitCls;rfl
end
section
variable {P:Program} {w:World} {K:PySem.W.Frag} {mg:Str→Option Value} {base:Heap} {cRow cMerge:Addr}
theorem Zm9(T:Zay K mg cRow cMerge):Df P w K mg base 1 "_law_mix" ["_law_cell", "_law_k"] ZkV:=by
 refine T.t_l_mix.df ZgU (fun vs H Q E h=>?_) (fun cdv f A outer s H vs Q E hr h=>?_)
 ·obtain⟨a,k,rfl,_⟩:=h
  rfl
 obtain⟨a,k,rfl,k1,k2,q⟩:=h
 refine⟨_,#[Zg,#[Zz,2,ZgU.nd,(Or.inl rfl),#[ZW,Zex,#[ZW,ZdM,#[ZW,ZaP,#[ZW,ZaP,#[ZW,Zex,‹0›,#[Zh]],#[ZW,ZdM,#[ZW,ZdM,‹1›,‹1›],#[Zh]]],#[Zh]],#[Zh]],#[Zh]]],#[Zi,#[Zr,#[ZW,Zex,#[ZW,ZdM,‹2›,‹2›],#[Zh]]]]],?_⟩
 refine⟨_,rfl,_,_,rfl,rfl,(by show (0:Int)<_;decide),_,rfl,_,rfl,_,_,rfl,rfl,.inl ⟨by omega,by omega⟩,_,_,rfl,rfl,.inr ⟨by decide,by decide⟩,_,_,rfl,rfl,_,_,rfl,rfl,_,_,rfl,rfl,.inr ⟨by decide,by decide⟩,_,_,rfl,rfl,(by show (0:Int)<_;decide),?_⟩
 have m0:=Int.emod_nonneg ((a % 2147483629+k*k*7919+11)*48271) (show (2147483647:Int)≠0 by decide)
 have m1:=QaM ((a % 2147483629+k*k*7919+11)*48271) (show (0:Int)<2147483647 by decide)
 refine⟨_,rfl,_,rfl,_,_,rfl,rfl,.inl ⟨by omega,by omega⟩,_,_,rfl,rfl,(by show (0:Int)<_;decide),?_⟩
 exact q _ (Int.emod_nonneg _ (by decide)) (Int.lt_trans (QaM _ (by decide)) (by decide))
theorem Zlx(T:Zay K mg cRow cMerge):Df P w K mg base 1 "_law_left" ["_law_script", "_law_k"] (ZkA K):=by
 refine T.t_l_left.df Zfn (fun vs H Q E h=>?_) (fun cdv f A outer s H vs Q E hr h=>?_)
 ·obtain⟨a,ns,k,rfl,_⟩:=h
  rfl
 obtain⟨a,ns,k,rfl,hS,h63,k0,k1,q⟩:=h
 refine⟨_,#[Zg,#[Zz,2,Zfn.nd,(Or.inl rfl),#[Zbb,#[Zs,ZeT,‹1›,#[Zm,(Zc7 K),T.b.n_len,QD,#[Za,‹0›,#[Ze]]],(Zx _)],#[ZG,(ixL K),‹0›,‹1›],#[Zh]]],#[Zi,#[Zr,#[ZaJ,#[Za,#[ZW,ZdM,#[Zm,Zhl,T.b.n_abs,boot_abs,#[Za,‹2›,#[Ze]]],#[ZcN,Zi3,T.b.n_int,boot_int,#[Za,#[ZcP,ZoK,#[Zm,Zhl,T.b.n_abs,boot_abs,#[Za,‹2›,#[Ze]]],#[ZW,Zkz,#[Zh],#[Zh]],(Zx _)],#[Ze]]]],#[Za,#[ZW,ZaP,‹2›,#[ZW,ZdM,#[Zh],‹1›]],#[Za,#[Zh],#[Ze]]]]]]]],?_⟩
 have hl:(ns.map V.int).length=ns.length:=Qb _
 have pw:Zoc 10 18:=⟨by decide,by decide,by decide⟩
 refine⟨_,rfl,_,rfl,a,_,rfl,.inl hS,_,_,rfl,rfl,_,rfl,?_⟩
 refine Zbx (fun c=>?_) (fun c=>?_)
 ·have c':k<(((ns.map V.int).length:Nat):Int):=of_decide_eq_true c
  rw[hl]at c'
  obtain⟨v,hv⟩:=Znk (ns:=ns) k0 c'
  refine⟨_,rfl,_,rfl,xw4 a _ _ _ ⟨rfl,rfl,hS,hv,?_⟩⟩
  refine⟨_,rfl,_,rfl,_,rfl,_,rfl,_,_,rfl,rfl,pw,_,_,rfl,rfl,.inr ⟨_,rfl,_,_,rfl,rfl,.inr (ZmF _),_,rfl,_,rfl,_,_,rfl,rfl,.inl ⟨by decide,by decide⟩,_,_,rfl,rfl,(by show 3≤sizeLine;decide),fun p hp=>?_⟩⟩
  exact q p _ hp ⟨_,_,Zd,Int.le_refl _⟩ (Zj hp _)
 ·refine⟨_,rfl,_,rfl,_,rfl,_,rfl,_,_,rfl,rfl,pw,_,_,rfl,rfl,.inr ⟨_,rfl,_,_,rfl,rfl,.inr (ZmF _),_,rfl,_,rfl,_,_,rfl,rfl,.inl ⟨by decide,by decide⟩,_,_,rfl,rfl,(by show 3≤sizeLine;decide),fun p hp=>?_⟩⟩
  exact q p _ hp ⟨_,_,Zd,Int.le_refl _⟩ (Zj hp _)
theorem ZlX(T:Zay K mg cRow cMerge)(f_l_mix:Df P w K mg base 1 "_law_mix" ["_law_cell", "_law_k"] ZkV):Df P w K mg base 2 "_law_pick" ["_law_left_here", "_law_many_here"] Zc5:=by
 refine T.t_l_pick.df Zfx (fun vs H Q E h=>?_) (fun cdv f A outer s H vs Q E hr h=>?_)
 ·obtain⟨p,c,m,rfl,_⟩:=h
  rfl
 obtain⟨p,c,m,rfl,⟨a,b,hp,c0⟩,c1,m0,m1,q⟩:=h
 refine⟨_,#[Zg,#[Zbd,#[ZW,ZaP,#[ZG,(ixL K),‹0›,#[Zh]],#[Zh]],#[Zdh,‹0›,#[Zh],ZgD]],#[Zg,#[Zaz,#[Zs,Zg2,#[ZG,(ixL K),‹0›,#[Zh]],#[Zh],(Zx _)],#[Zg,#[Zz,2,Zfx.nd,(Or.inl rfl),#[ZW,Zex,#[ZG,(ixL K),‹0›,#[Zh]],‹1›]],#[Zg,#[Zbd,#[ZW,ZfU,#[ZG,(ixL K),‹0›,#[Zh]],‹1›],#[Zdh,‹0›,#[Zh],ZgD]],#[Zi,#[Zr,‹2›]]]],(@ZU _)],#[Zi,#[Zr,#[ZW,Zex,#[ZW,ZfU,#[ZM,f_l_mix,hr,#[Za,#[ZM,f_l_mix,hr,#[Za,#[ZG,(ixL K),‹0›,#[Zh]],#[Za,#[ZG,(ixL K),‹0›,#[Zh]],#[Ze]]],(by rfl)],#[Za,#[ZW,ZaP,#[ZG,(ixL K),‹0›,#[Zh]],#[Zh]],#[Ze]]],(by rfl)],#[Zh]],‹1›]]]]],?_⟩
 have u1:(upd H p (.lst [.int a,.int b,.int (c+1)])) p=some (.lst [.int a,.int b,.int (c+1)]):=Zd
 refine⟨_,rfl,xw4 p _ _ _ ⟨rfl,rfl,SqL.of hp,rfl,_,_,rfl,rfl,_,rfl,p,_,_,2,rfl,rfl,hp,rfl,?_⟩⟩
 refine⟨_,rfl,xw4 p _ _ _ ⟨rfl,rfl,SqL.of u1,rfl,_,_,rfl,rfl,_,rfl,?_⟩⟩
 refine Zbx (fun d=>?_) (fun d=>?_)
 ·refine⟨_,rfl,xw4 p _ _ _ ⟨rfl,rfl,SqL.of u1,rfl,_,rfl,_,_,rfl,rfl,m0,?_⟩⟩
  refine⟨_,rfl,xw4 p _ _ _ ⟨rfl,rfl,SqL.of u1,rfl,_,rfl,_,_,rfl,rfl,⟨m0,by omega⟩,_,rfl,p,_,_,0,rfl,rfl,u1,rfl,?_⟩⟩
  refine⟨_,rfl,?_⟩
  refine q _ _ (Int.emod_nonneg _ (by omega)) (QaM _ m0) ⟨a / m,b,Zd,by omega⟩ fun e o h n=>?_
  rw[Zc n,Zc n]
  exact h
 ·refine⟨_,rfl,xw4 p _ _ _ ⟨rfl,rfl,SqL.of u1,rfl,_,rfl,xw4 p _ _ _ ⟨rfl,rfl,SqL.of u1,rfl,_,_,rfl,by omega,by omega,fun r r0 r1=>?_⟩⟩⟩
  refine⟨_,rfl,xw4 p _ _ _ ⟨rfl,rfl,SqL.of u1,rfl,_,_,rfl,rfl,_,_,rfl,by omega,by omega,fun r' r0' r1'=>?_⟩⟩
  refine⟨_,_,rfl,rfl,⟨by decide,by decide⟩,_,rfl,_,_,rfl,rfl,m0,?_⟩
  refine q _ _ (Int.emod_nonneg _ (by omega)) (QaM _ m0) ⟨a,b,Zd,by omega⟩ fun e o h n=>?_
  rw[Zc n]
  exact h
def Za6:List Str:=["", "a", "ab", "aba", "abab", "b", "zebra", "aaaaaaaa", "knowswho", "z", "abababababab",Txt.mul "a" 24]
theorem Zgx:∀s∈Za6,s.length≤24:=by ac_rfl
theorem ZhW:∀s∈Za6,AZ s:=by unfold AZ cds;ac_rfl
def Zgk:Sp:=fun vs H Q _=>∃ (p:Addr) (c:Int),vs=[.ref p]∧Zar H p c∧c<2 ^ 50 ∧
 ∀ (l:Addr) (ss:List Str) (c':Int) (H':Hp),H l=none→H' l=some (.lst (ss.map V.str))→1≤ss.length→ss.length≤4→(∀s∈ss,s.length≤24∧AZ s)→Zar H' p c'→c≤c'→c'≤c+5→But p H H'→Q (.ref l) H'
def ZkO:Sp:=fun vs H Q _=>∃ (p l:Addr) (c:Int) (ss:List Str),vs=[.ref p,.ref l]∧Zar H p c∧c<2 ^ 50∧H l=some (.lst (ss.map V.str))∧1≤ss.length∧ss.length≤4∧(∀s∈ss,s.length≤24∧AZ s) ∧
 ∀ (z:Str) (c':Int) (H':Hp),z.length≤28→AZ z→Zar H' p c'→c≤c'→c'≤c+6→But p H H'→Q (.str z) H'
theorem Zkd(T:Zay K mg cRow cMerge)(f_l_pick:Df P w K mg base 2 "_law_pick" ["_law_left_here", "_law_many_here"] Zc5):Df P w K mg base 3 "_law_stems" ["_law_left_here"] Zgk:=by
 refine T.t_l_stems.df ZeF (fun vs H Q E h=>?_) (fun cdv f A outer s H vs Q E hr h=>?_)
 ·obtain⟨p,c,rfl,_⟩:=h
  rfl
 obtain⟨p,c,rfl,hL,c1,q⟩:=h
 refine⟨_,#[Zg,#[Zz,1,ZeF.nd,(Or.inr rfl),#[ZaJ,#[Za,#[ZaU],#[Za,#[ZaU],#[Za,#[ZaU],#[Za,#[ZaU],#[Za,#[ZaU],#[Za,#[ZaU],#[Za,#[ZaU],#[Za,#[ZaU],#[Za,#[ZaU],#[Za,#[ZaU],#[Za,#[ZaU],#[Za,#[ZW,ZlY,#[ZaU],#[Zh]],#[Ze]]]]]]]]]]]]]]],#[Zi,#[Zr,#[ZcL,Zks,#[Zbm,T.b.n_range,#[Za,#[ZW,ZaP,#[Zh],#[ZM,f_l_pick,hr,#[Za,#[pv,0,(Or.inr (Or.inl rfl))],#[Za,#[Zh],#[Ze]]],(by rfl)]],#[Ze]]],(fun _ _ _ _=>#[cg,2,Zks]),(fun _ _ _ _=>(@Zb8 _)),(fun _ _ _ _=>#[ZG,(ixL K),#[cv,1,Zks],#[ZM,f_l_pick,hr,#[Za,#[cv,0,Zks],#[Za,#[Zh],#[Ze]]],(ZcG Zks rfl (by ac_rfl))]])]]]],?_⟩
 refine⟨_,_,rfl,rfl,by decide,by decide,by decide,(by show 12≤sizeLine;decide),fun l hl=>?_⟩
 have npl:p≠l:=by obtain⟨a,b,hp,_⟩:=hL;exact Zb hp hl
 have hL1:Zar (upd H l (.lst (Za6.map V.str))) p c:=by obtain⟨a,b,hp,c0⟩:=hL;exact⟨a,b,by rw[Zc npl];exact hp,c0⟩
 refine⟨_,rfl,p,c,_,rfl,hL1,by omega,by decide,by decide,fun r H1 r0 r1 L1 B1=>?_⟩
 refine⟨_,_,rfl,rfl,_,rfl,by omega,by omega,fun D hD=>?_⟩
 have c0:0≤c:=by obtain⟨a,b,hp,c0⟩:=hL;exact c0
 have h1l:H1 l=some (.lst (Za6.map V.str)):=B1 l _ Zd npl.symm
 have npD:p≠D:=by obtain⟨a,b,hp,_⟩:=L1;exact Zb hp hD
 have nlD:l≠D:=Zb h1l hD
 refine Zdc (fun i ys σ H2=>∃ (ss:List Str) (v:Option V) (c2:Int),σ=[some (.ref p),some (.ref l),v]∧ys=ss.map V.str∧ss.length=i∧(∀s∈ss,s.length≤24∧AZ s)∧Zar H2 p c2∧c+1≤c2∧c2≤c+1+i ∧
   H2 l=some (.lst (Za6.map V.str))∧H2 D=some (.lst ys)∧But p H H2) ?_ ?_ ?_
 ·refine⟨[],none,c+1,rfl,rfl,rfl,(fun s hs=>by cases hs),?_,by omega,by omega,?_,Zd,?_⟩
  ·obtain⟨a,b,hp,q0⟩:=L1
   exact⟨a,b,by rw[Zc npD];exact hp,q0⟩
  ·rw[Zc nlD];exact h1l
  ·intro b o e n
   have e1:(upd H l (.lst (Za6.map V.str))) b=some o:=by rw[Zc (Zb e hl)];exact e
   have e2:=B1 b o e1 n
   rw[Zc (Zb e2 hD)]
   exact e2
 ·rintro i ys σ H2 hi ⟨ss,v,c2,rfl,rfl,hn,hs,L2',b1,b2,hl2,hD2,B2⟩
  refine⟨_,rfl,_,rfl,p,c2,_,rfl,L2',by omega,by decide,by decide,fun r' H3 r0' r1' L3 B3=>?_⟩
  obtain⟨s,hs1,hs2⟩:=ZhA (ss:=Za6) r0' r1'
  have hD3:H3 D=some (.lst (ss.map V.str)):=B3 D _ hD2 npD.symm
  have hl3:H3 l=some (.lst (Za6.map V.str)):=B3 l _ hl2 npl.symm
  refine(xw4 l _ _ _ ⟨rfl,rfl,SqL.of hl3,hs2,hD3,(by rw[Qb,hn];exact Z5 (by omega)),ss++[s],_,c2+1,rfl,?_,?_,?_,?_,by omega,by omega,?_,Zd,?_⟩)
  ·rw[Qj];rfl
  ·rw[Qd,hn];rfl
  ·intro x hx
   rcases Qk.mp hx with hx|hx
   ·exact hs x hx
   ·rw[Ql.mp hx];exact⟨Zgx s hs1,ZhW s hs1⟩
  ·obtain⟨a,b,hp,q0⟩:=L3
   exact⟨a,b,by rw[Zc npD];exact hp,q0⟩
  ·rw[Zc nlD];exact hl3
  ·intro b o e n
   have e2:=B3 b o (B2 b o e n) n
   have e3:H D=none:=by
    cases w':H D with
    | none=>rfl
    | some u =>
     have nDp:D≠p:=npD.symm
     have z1:(upd H l (.lst (Za6.map V.str))) D=some u:=by rw[Zc nlD.symm];exact w'
     rw[B1 D u z1 nDp]at hD
     cases hD
   rw[Zc (Zb e e3)]
   exact e2
 ·rintro ys σ H2 ⟨ss,v,c2,rfl,rfl,hn,hs,L2',b1,b2,hl2,hD2,B2⟩
  have e3:H D=none:=by
   cases w':H D with
   | none=>rfl
   | some u =>
    have z1:(upd H l (.lst (Za6.map V.str))) D=some u:=by rw[Zc nlD.symm];exact w'
    rw[B1 D u z1 npD.symm]at hD
    cases hD
  exact q D ss c2 H2 e3 hD2 (by omega) (by omega) hs L2' (by omega) (by omega) B2
theorem Zm3(T:Zay K mg cRow cMerge)(f_l_pick:Df P w K mg base 2 "_law_pick" ["_law_left_here", "_law_many_here"] Zc5):Df P w K mg base 3 "_law_key" ["_law_left_here", "_law_stems_here"] ZkO:=by
 refine T.t_l_key.df ZgN (fun vs H Q E h=>?_) (fun cdv f A outer s H vs Q E hr h=>?_)
 ·obtain⟨p,l,c,ss,rfl,_⟩:=h
  rfl
 obtain⟨p,l,c,ss,rfl,hL,c1,hl,n1,n4,h24,q⟩:=h
 refine⟨_,#[Zg,#[Zz,2,ZgN.nd,(Or.inl rfl),#[Zdu,PySem.F.plainAttrs_str,PySem.F.slot_str_join,PySem.F.type_str_join,(ZoE K),#[ZaU],#[Za,#[ZcL,Zl4,#[Zbm,T.b.n_range,#[Za,#[ZM,f_l_pick,hr,#[Za,#[pv,0,(Or.inr (Or.inl rfl))],#[Za,#[Zh],#[Ze]]],(by rfl)],#[Ze]]],(fun _ _ _ _=>#[cg,3,Zl4]),(fun _ _ _ _=>(@Zb8 _)),(fun _ _ _ _=>#[ZG,ZeY,#[ZaU],#[ZM,f_l_pick,hr,#[Za,#[cv,0,Zl4],#[Za,#[Zh],#[Ze]]],(ZcG Zl4 rfl (by ac_rfl))]])],#[Ze]]]],#[Zi,#[Zr,#[ZW,Zhw,#[ZG,(ixL K),‹1›,#[ZM,f_l_pick,hr,#[Za,#[pv,0,(Or.inr (Or.inl rfl))],#[Za,#[Zm,(Zc7 K),T.b.n_len,QD,#[Za,‹1›,#[Ze]]],#[Ze]]],(by rfl)]],‹2›]]]],?_⟩
 have c0:0≤c:=by obtain⟨a,b,hp,c0⟩:=hL;exact c0
 have npl:p≠l:=by
  obtain⟨a,b,hp,_⟩:=hL
  refine Zk3 hp hl fun e=>?_
  have e1:=congrArg List.length (HO.lst.inj e)
  cases ss with
  | nil=>cases e1
  | cons x r=>exact absurd (HO.lst.inj e) (by intro z;cases z)
 refine⟨rfl,_,rfl,p,c,_,rfl,hL,by omega,by decide,by decide,fun r H1 r0 r1 L1 B1=>?_⟩
 refine⟨_,rfl,by omega,by omega,fun D hD=>?_⟩
 have npD:p≠D:=by obtain⟨a,b,hp,_⟩:=L1;exact Zb hp hD
 have h1l:=B1 l _ hl npl.symm
 have nlD:l≠D:=Zb h1l hD
 have hDn:H D=none:=by
  cases w':H D with
  | none=>rfl
  | some u=>rw[B1 D u w' npD.symm]at hD;cases hD
 refine Zdc (fun i ys σ H2=>∃ (ts:List Str) (v:Option V) (c2:Int),σ=[some (.ref p),some (.ref l),none,v]∧ys=ts.map V.str∧ts.length=i∧(∀s∈ts,s.length≤1∧AZ s)∧Zar H2 p c2∧c+1≤c2∧c2≤c+1+i ∧
   H2 D=some (.lst ys)∧But p H H2) ?_ ?_ ?_
 ·refine⟨[],none,c+1,rfl,rfl,rfl,(fun s hs=>by cases hs),?_,by omega,by omega,Zd,?_⟩
  ·obtain⟨a,b,hp,q0⟩:=L1
   exact⟨a,b,by rw[Zc npD];exact hp,q0⟩
  ·intro b o e n
   rw[Zc (Zb e hDn)]
   exact B1 b o e n
 ·rintro i ys σ H2 hi ⟨ts,v,c2,rfl,rfl,hn,hs,L2',b1,b2,hD2,B2⟩
  refine⟨_,rfl,p,c2,_,rfl,L2',by omega,by decide,by decide,fun r' H3 r0' r1' L3 B3=>?_⟩
  obtain⟨ch,hcm,hch⟩:=ZdD (z := "ababcz") r0' r1'
  have hD3:H3 D=some (.lst (ts.map V.str)):=B3 D _ hD2 npD.symm
  refine⟨_,_,_,rfl,rfl,(by ac_rfl),hch,hD3,(by rw[Qb,hn];exact Z5 (by omega)),ts++[⟨#[ch]⟩],_,c2+1,rfl,?_,?_,?_,?_,by omega,by omega,Zd,?_⟩
  ·rw[Qj];rfl
  ·rw[Qd,hn];rfl
  ·intro x hx
   rcases Qk.mp hx with hx|hx
   ·exact hs x hx
   ·rw[Ql.mp hx];exact⟨Qf 1,ZnA.one hcm⟩
  ·obtain⟨a,b,hp,q0⟩:=L3
   exact⟨a,b,by rw[Zc npD];exact hp,q0⟩
  ·intro b o e n
   rw[Zc (Zb e hDn)]
   exact B3 b o (B2 b o e n) n
 ·rintro ys σ H2 ⟨ts,v,c2,rfl,rfl,hn,hs,L2',b1,b2,hD2,B2⟩
  have hsum:=Zhc ts fun s h=>(hs s h).1
  have hjl:=ZjU "" ts
  have e0:("" : Str).length=0:=by ac_rfl
  rw[e0]at hjl
  have hl2:=B2 l _ hl npl.symm
  refine⟨_,D,ts,rfl,rfl,SqL.of hD2,(by rw[e0];omega),?_⟩
  have hlen:(((ss.map V.str).length:Nat):Int)=(ss.length:Int):=by rw[Qb]
  refine⟨_,rfl,_,rfl,_,rfl,l,_,rfl,.inl (SqL.of hl2),p,c2,_,rfl,L2',by omega,by omega,by omega,fun r' H3 r0' r1' L3 B3=>?_⟩
  obtain⟨st,hs1,hs2⟩:=ZhA (ss:=ss) r0' (by omega)
  have hst:=(h24 st hs1).1
  refine(xw4 l _ _ _ ⟨rfl,rfl,SqL.of (B3 l _ hl2 npl.symm),hs2,_,rfl,_,_,rfl,rfl,Zci (by omega),?_⟩)
  refine q _ (c2+1) H3 ?_ ((h24 st hs1).2.app (AZ.joinT ts fun s h=>(hs s h).2)) L3 (by omega) (by omega) (B2.trans B3)
  rw[PySem.Str.length_append]
  omega
theorem Zfe(T:Zay K mg cRow cMerge):Df P w K mg base 1 "alike_from" ["one", "other", "far"] Zby:=by
 refine T.t_alike_from.df ZbG (fun vs H Q E h=>?_) (fun cdv f A outer s H vs Q E hr h=>?_)
 ·obtain⟨x,y,far,rfl,_⟩:=h
  rfl
 obtain⟨x,y,far,rfl,hx,hy,hf,q⟩:=h
 refine⟨_,#[Zg,#[Zz,3,ZbG.nd,(Or.inl rfl),‹2›],#[Zg,(@ZeS _ _ _ _ _ _ PassesOwn.never (@PW.pt _ _ _ #[Zd0,#[Zs,ZeT,‹3›,#[Zm,ZaH,T.b.n_len,QD,#[Za,‹0›,#[Ze]]],(Zx _)],#[Zd0,#[Zs,ZeT,‹3›,#[Zm,ZaH,T.b.n_len,QD,#[Za,‹1›,#[Ze]]],(Zx _)],(@Zdl _ _ _ _ #[Zs,Zbw,#[ZG,ZeY,‹0›,‹3›],#[ZG,ZeY,‹1›,‹3›],(Zx _)])]]) #[Zi,(@ZmR _ _ 3 _ _ _ _ _ _ ZbG.nd rfl (Or.inl rfl) #[Zh] ZnG (by trivial))]),#[Zi,#[Zr,‹3›]]]],?_⟩
 refine⟨_,rfl,?_⟩
 have lx:(cds x).length=x.length:=by simp[Str.length]
 have ly:(cds y).length=y.length:=by simp[Str.length]
 have ll:=ZeR (cds x) (cds y)
 refine⟨fun m σ H2=>∃k:Nat,σ=[some (.str x),some (.str y),some (.int far),some (.int k)]∧H2=H∧k≤lcp (cds x) (cds y)∧m=lcp (cds x) (cds y)-k,⟨_,far,rfl,rfl,hf,rfl⟩,?_⟩
 rintro m σ H2 ⟨k,rfl,rfl,hk,rfl⟩
 refine⟨_,rfl,_,rfl,x,rfl,Zci hx,_,_,rfl,rfl,_,rfl,?_⟩
 refine Zbx (fun d1=>?_) (fun d1=>?_)
 ·have d1':(k:Int)<(x.length:Int):=of_decide_eq_true d1
  refine⟨_,rfl,_,rfl,y,rfl,Zci hy,_,_,rfl,rfl,_,rfl,?_⟩
  refine Zbx (fun d2=>?_) (fun d2=>?_)
  ·have d2':(k:Int)<(y.length:Int):=of_decide_eq_true d2
   obtain⟨a,ha,ha'⟩:=ZdD (z:=x) (k:=k) (by omega) d1'
   obtain⟨b,hb,hb'⟩:=ZdD (z:=y) (k:=k) (by omega) d2'
   rw[Int.toNat_natCast]at ha hb
   refine⟨_,rfl,_,rfl,x,_,a,rfl,rfl,Zci hx,ha',_,rfl,_,rfl,y,_,b,rfl,rfl,Zci hy,hb',rfl,_,rfl,?_⟩
   refine Zbx (fun d3=>?_) (fun d3=>?_)
   ·have d3':a=b:=by
     have:=of_decide_eq_true d3
     injection this with e
     injection e with e
     simpa using e
    subst d3'
    have:=Zkm _ _ k hk a ha hb
    refine⟨fun σ' H'=>σ'=[some (.str x),some (.str y),some (.int far),some (.int ((k+1:Nat):Int))]∧H'=H2,fun σ' H' ⟨e1,e2⟩=>⟨_,?_,k+1,e1,e2,this,rfl⟩,?_⟩
    ·omega
    ·exact⟨_,rfl,_,_,rfl,rfl,rfl,rfl⟩
   ·refine⟨_,rfl,?_⟩
    have e:=Zgd _ _ k hk (.inr (.inr ⟨a,b,ha,hb,fun e=>d3 (by subst e;exact decide_eq_true rfl)⟩))
    rw[e]at q
    exact q
  ·refine Zcc ⟨_,rfl,?_⟩
   have d2':¬ (k:Int)<(y.length:Int):=of_decide_eq_false (Bool.eq_false_iff.mpr d2)
   have e:=Zgd _ _ k hk (.inr (.inl (by omega)))
   rw[e]at q
   exact q
 ·refine Zcc ⟨_,rfl,?_⟩
  have d1':¬ (k:Int)<(x.length:Int):=of_decide_eq_false (Bool.eq_false_iff.mpr d1)
  have e:=Zgd _ _ k hk (.inl (by omega))
  rw[e]at q
  exact q
theorem Zkf(T:Zay K mg cRow cMerge)(f_alike_from:Df P w K mg base 1 "alike_from" ["one", "other", "far"] Zby):Df P w K mg base 2 "alike" ["one", "other"] Zer:=by
 refine T.t_alike.df Zk6 (fun vs H Q E h=>?_) (fun cdv f A outer s H vs Q E hr h=>?_)
 ·obtain⟨x,y,rfl,_⟩:=h
  rfl
 obtain⟨x,y,rfl,hx,hy,q⟩:=h
 refine⟨_,#[Zi,#[Zr,#[ZM,f_alike_from,hr,#[Za,‹0›,#[Za,‹1›,#[Za,#[Zh],#[Ze]]]],(by rfl)]]],?_⟩
 exact⟨_,rfl,_,rfl,x,y,0,rfl,hx,hy,Qv _,q⟩
theorem Zdz{c A B:Prop}[Decidable c](hc:c)(h:A):if decide c=true then A else B:=by
 rw[if_pos (decide_eq_true hc)]
 exact h
theorem Zck{c A B:Prop}[Decidable c](hc:¬ c)(h:B):if decide c=true then A else B:=by
 rw[if_neg (by rw[decide_eq_false hc];exact Qn)]
 exact h
theorem Zit(T:Zay K mg cRow cMerge):∀n:Nat,Df P w K mg base (n+1) "_law_same" ["_law_found", "_law_due"] (ZjS n)
 | 0=>by
  refine T.t_l_same.df ZfC (fun vs H Q E h=>?_) (fun cdv f A outer s H vs Q E hr h=>?_)
  ·obtain⟨x,y,rfl,_⟩:=h
   rfl
  obtain⟨x,y,rfl,h,_⟩:=h
  exact h.elim
 | n+1=>by
  have f_l_same:=Zit T n
  refine T.t_l_same.df ZfC (fun vs H Q E h=>?_) (fun cdv f A outer s H vs Q E hr h=>?_)
  ·obtain⟨x,y,rfl,_⟩:=h
   rfl
  obtain⟨x,y,rfl,hD,q⟩:=h
  refine⟨_,#[Zg,#[Zaz,#[Zd8,#[Zm,(Zn9 K),T.b.n_isinstance,boot_isinstance,#[Za,‹1›,#[Za,#[ZaV,#[Za,#[ZbK,T.b.n_list,boot_list],#[Za,#[ZbK,T.b.n_tuple,boot_tuple],#[Ze]]]],#[Ze]]]]],#[Zg,#[Zaz,(@PW.pt _ _ _ (@Zh8 _ _ _ _ _ _ _ #[Zs,ZmH,#[Zm,(Zez K),T.b.n_isinstance,boot_isinstance,#[Za,‹0›,#[Za,#[ZbK,T.b.n_list,boot_list],#[Ze]]]],#[Zm,(Zez K),T.b.n_isinstance,boot_isinstance,#[Za,‹1›,#[Za,#[ZbK,T.b.n_list,boot_list],#[Ze]]]],(Zx _)] (@Zgh _ _ _ _ #[Zs,ZmH,#[Zm,(Zez K),T.b.n_isinstance,boot_isinstance,#[Za,‹0›,#[Za,#[ZbK,T.b.n_tuple,boot_tuple],#[Ze]]]],#[Zm,(Zez K),T.b.n_isinstance,boot_isinstance,#[Za,‹1›,#[Za,#[ZbK,T.b.n_tuple,boot_tuple],#[Ze]]]],(Zx _)]))),#[Zi,#[Zr,(@Zil _ _ _ _)]],(@ZU _)],#[Zi,#[Zr,(@ZeI _ _ _ _ _ _ _ #[ZcP,Zbw,#[Zm,(Zc7 K),T.b.n_len,QD,#[Za,‹0›,#[Ze]]],#[Zm,(Zc7 K),T.b.n_len,QD,#[Za,‹1›,#[Ze]]],(Zx _)] (@Zf9 _ _ _ _ _ #[Zm,(Zo8 K),T.b.n_all,boot_all,#[Za,#[ZcL,ZjC,(@iZ _ K _ _ _ _ _ _ _ _ T.b.n_zip #[Za,‹0›,#[Za,‹1›,#[Ze]]] (by rfl) (by rfl) (by rfl) (by rfl)),(fun _ _ _ _=>#[gT,K,2,#[ZB,#[cg,2,ZjC],#[ZB,#[cg,3,ZjC],(@ZaZ _)]]]),(fun _ _ _ _=>(@Zb8 _)),(fun _ _ _ _=>#[ZM,f_l_same,hr,#[Za,#[cw,2,ZjC],#[Za,#[cw,3,ZjC],#[Ze]]],(ZcG ZjC rfl (by ac_rfl))])],#[Ze]]]))]]],(@ZU _)],#[Zg,#[Zaz,(@PW.pt _ _ _ (@Zh8 _ _ _ _ _ _ _ #[Zs,Zcb,‹1›,#[Zad],(Zx _)] (@Zgh _ _ _ _ #[Zd8,#[Zm,(Zez K),T.b.n_isinstance,boot_isinstance,#[Za,‹1›,#[Za,#[ZbK,T.b.n_str,boot_str],#[Ze]]]]]))),#[Zi,#[Zr,(@ZeI _ _ _ _ _ _ _ #[ZcP,Zbw,‹0›,‹1›,(Zx _)] (@Zf9 _ _ _ _ _ #[ZcP,Zbw,#[Zm,(Zez K),T.b.n_isinstance,boot_isinstance,#[Za,‹0›,#[Za,#[ZbK,T.b.n_str,boot_str],#[Ze]]]],#[Zm,(Zez K),T.b.n_isinstance,boot_isinstance,#[Za,‹1›,#[Za,#[ZbK,T.b.n_str,boot_str],#[Ze]]]],(Zx _)]))]],(@ZU _)],#[Zg,#[Zaz,#[Zd8,#[Zm,(Zez K),T.b.n_isinstance,boot_isinstance,#[Za,‹1›,#[Za,#[ZbK,T.b.n_bool,boot_bool],#[Ze]]]]],#[Zi,#[Zr,(@ZeI _ _ _ _ _ _ _ #[Zm,(Zez K),T.b.n_isinstance,boot_isinstance,#[Za,‹0›,#[Za,#[ZbK,T.b.n_bool,boot_bool],#[Ze]]]] (@Zf9 _ _ _ _ _ #[ZcP,Zbw,‹0›,‹1›,(Zx _)]))]],(@ZU _)],#[Zi,#[Zr,(@ZeI _ _ _ _ _ _ _ #[Zm,(Zez K),T.b.n_isinstance,boot_isinstance,#[Za,‹0›,#[Za,#[ZbK,T.b.n_int,boot_int],#[Ze]]]] (@ZeI _ _ _ _ _ _ _ (@ZnH _ _ _ _ #[Zm,(Zez K),T.b.n_isinstance,boot_isinstance,#[Za,‹0›,#[Za,#[ZbK,T.b.n_bool,boot_bool],#[Ze]]]]) (@Zf9 _ _ _ _ _ #[ZcP,Zbw,‹0›,‹1›,(Zx _)])))]]]]],?_⟩
  refine⟨_,rfl,(by show 2≤sizeLine;decide),fun tp htp=>?_⟩
  have sT:ZD H (upd H tp (.tup (["list", "tuple"].map V.ty))):=Zj htp _
  rcases hD with⟨rfl,rfl|⟨b,rfl⟩|⟨i,rfl⟩|⟨z,rfl⟩⟩|⟨p,q2,xs,ys,rfl,rfl,⟨hp,hq⟩|⟨hp,hq⟩,hl,hz,hi⟩
  ·refine⟨_,tp,["list", "tuple"],_,_,rfl,Zd,.non,Zi1 K,_,rfl,Zcc ?_⟩
   refine⟨_,rfl,rfl,_,rfl,Zdz rfl (Ze6 ?_)⟩
   refine⟨_,rfl,_,rfl,rfl,_,rfl,Zdz rfl ?_⟩
   exact⟨_,rfl,_, "str",_,_,rfl,.non,Zfu K,_,rfl,_, "str",_,_,rfl,.non,Zfu K,rfl,q _ sT⟩
  ·refine⟨_,tp,["list", "tuple"],_,_,rfl,Zd,.bl b,Zkr K,_,rfl,Zcc ?_⟩
   refine⟨_,rfl,rfl,_,rfl,Zck (by intro z;cases z) ?_⟩
   refine⟨_,rfl,_, "str",_,_,rfl,.bl b,Zki K,_,rfl,Zcc ?_⟩
   refine⟨_,rfl,_, "bool",_,_,rfl,.bl b,Ziw K,_,rfl,Ze6 ?_⟩
   refine⟨_,rfl,_, "bool",_,_,rfl,.bl b,Ziw K,_,rfl,Ze6 ?_⟩
   refine⟨_,rfl,_,rfl,rfl,?_⟩
   have e:decide (V.bl b=V.bl b)=true:=decide_eq_true rfl
   rw[e]
   exact q _ sT
  ·refine⟨_,tp,["list", "tuple"],_,_,rfl,Zd,.int i,Zi8 K,_,rfl,Zcc ?_⟩
   refine⟨_,rfl,rfl,_,rfl,Zck (by intro z;cases z) ?_⟩
   refine⟨_,rfl,_, "str",_,_,rfl,.int i,Zje K,_,rfl,Zcc ?_⟩
   refine⟨_,rfl,_, "bool",_,_,rfl,.int i,Zg8 K,_,rfl,Zcc ?_⟩
   refine⟨_,rfl,_, "int",_,_,rfl,.int i,ZiX K,_,rfl,Ze6 ?_⟩
   refine⟨_,rfl,_, "bool",_,_,rfl,.int i,Zg8 K,_,rfl,_,rfl,Ze6 ?_⟩
   refine⟨_,rfl,_,rfl,rfl,?_⟩
   have e:decide (V.int i=V.int i)=true:=decide_eq_true rfl
   rw[e]
   exact q _ sT
  ·refine⟨_,tp,["list", "tuple"],_,_,rfl,Zd,.str z,Zjv K,_,rfl,Zcc ?_⟩
   refine⟨_,rfl,rfl,_,rfl,Zck (by intro z;cases z) ?_⟩
   refine⟨_,rfl,_, "str",_,_,rfl,.str z,ZdR K,_,rfl,Ze6 ?_⟩
   refine⟨_,rfl,_,rfl,rfl,_,rfl,Zdz rfl ?_⟩
   exact⟨_,rfl,_, "str",_,_,rfl,.str z,ZdR K,_,rfl,_, "str",_,_,rfl,.str z,ZdR K,rfl,q _ sT⟩
  ·have hxT:(upd H tp (.tup (["list", "tuple"].map V.ty))) p=some (.lst xs):=by rw[Zc (Zb hp htp)];exact hp
   have hyT:(upd H tp (.tup (["list", "tuple"].map V.ty))) q2=some (.lst ys):=by rw[Zc (Zb hq htp)];exact hq
   refine⟨_,tp,["list", "tuple"],_,_,rfl,Zd,.lst hyT,ZiQ K,_,rfl,Ze6 ?_⟩
   refine⟨_,rfl,_, "list",_,_,rfl,.lst hxT,Zfs K,_,rfl,_, "list",_,_,rfl,.lst hyT,Zfs K,rfl,_,rfl,Zfz rfl ?_⟩
   refine⟨_,rfl,_, "tuple",_,_,rfl,.lst hxT,ZfE K,_,rfl,_, "tuple",_,_,rfl,.lst hyT,ZfE K,rfl,_,rfl,Zfz rfl ?_⟩
   refine⟨_,rfl,p,xs,rfl,.inl (SqL.of hxT),_,rfl,q2,ys,rfl,.inl (SqL.of hyT),rfl,_,rfl,Zdz (by rw[hl]) ?_⟩
   refine⟨_,rfl,_,rfl,.l p,.l q2,xs,ys,rfl,SqL.of hxT,SqL.of hyT,fun D hD=>?_⟩
   have sD:ZD H (upd H tp (.tup (["list", "tuple"].map V.ty))):=Zj htp _
   refine ZgJ (K:=K) (xs:=xs) (ys:=ys) (fun i zs σ H2=>(∃v1 v2,σ=[some (.ref p),some (.ref q2),v1,v2])∧zs=List.replicate i (.bl true)∧ZD H H2∧H2 D=some (.lst zs)∧i≤xs.length) ?_ ?_ ?_ ?_
   ·exact⟨⟨none,none,rfl⟩,rfl,sD.trans (Zj hD _),Zd,Qv _⟩
   ·rintro i zs σ H2 ⟨_,_,s2,_⟩
    exact⟨SqL.of (s2 _ _ hp),SqL.of (s2 _ _ hq)⟩
   ·rintro i zs σ H2 x' y' r hx' hy' ⟨⟨v1,v2,rfl⟩,rfl,s2,hD2,hiz⟩ hr
    have hil:i<xs.length:=(Qg.mp hx').1
    have nDr:D≠r:=Zb hD2 hr
    have s3:ZD H (upd H2 r (.tup [x',y'])):=s2.trans (Zj hr _)
    refine⟨r,_,rfl,SqT.of Zd,rfl,_,_,rfl,_,_,rfl,rfl,?_⟩
    refine⟨_,rfl,_,rfl,x',y',rfl,(hi i x' y' hx' hy').mono s3,fun H' s'=>?_⟩
    have hD':H' D=some (.lst (List.replicate i (.bl true))):=s' _ _ (by rw[Zc nDr];exact hD2)
    refine⟨hD',(by rw[Qau];exact Z5 (by omega)),⟨_,_,rfl⟩,?_,?_,Zd,hil⟩
    ·rw[List.replicate_succ']
    ·intro b o e
     have e1:=s' b o (s3 b o e)
     rw[Zc (fun z=>by subst z;exact nomatch (sD b o e).symm.trans hD)]
     exact e1
   ·rintro zs σ H2 ⟨_,rfl,s2,hD2,_⟩
    refine⟨D,List.replicate (min xs.length ys.length) true,rfl,SqL.of (by rw[List.map_replicate];exact hD2),?_⟩
    have e:(List.replicate (min xs.length ys.length) true).all id=true:=by rw[Qa3];intro b hb;exact(List.eq_of_mem_replicate hb)
    rw[e]
    exact q H2 s2
  ·have hxT:(upd H tp (.tup (["list", "tuple"].map V.ty))) p=some (.tup xs):=by rw[Zc (Zb hp htp)];exact hp
   have hyT:(upd H tp (.tup (["list", "tuple"].map V.ty))) q2=some (.tup ys):=by rw[Zc (Zb hq htp)];exact hq
   refine⟨_,tp,["list", "tuple"],_,_,rfl,Zd,.tup hyT,ZjA K,_,rfl,Ze6 ?_⟩
   refine⟨_,rfl,_, "list",_,_,rfl,.tup hxT,ZfG K,_,rfl,_, "list",_,_,rfl,.tup hyT,ZfG K,rfl,_,rfl,Zfz rfl ?_⟩
   refine⟨_,rfl,_, "tuple",_,_,rfl,.tup hxT,ZfS K,_,rfl,_, "tuple",_,_,rfl,.tup hyT,ZfS K,rfl,_,rfl,Zfz rfl ?_⟩
   refine⟨_,rfl,p,xs,rfl,.inr (SqT.of hxT),_,rfl,q2,ys,rfl,.inr (SqT.of hyT),rfl,_,rfl,Zdz (by rw[hl]) ?_⟩
   refine⟨_,rfl,_,rfl,.t p,.t q2,xs,ys,rfl,SqT.of hxT,SqT.of hyT,fun D hD=>?_⟩
   have sD:ZD H (upd H tp (.tup (["list", "tuple"].map V.ty))):=Zj htp _
   refine ZgJ (K:=K) (xs:=xs) (ys:=ys) (fun i zs σ H2=>(∃v1 v2,σ=[some (.ref p),some (.ref q2),v1,v2])∧zs=List.replicate i (.bl true)∧ZD H H2∧H2 D=some (.lst zs)∧i≤xs.length) ?_ ?_ ?_ ?_
   ·exact⟨⟨none,none,rfl⟩,rfl,sD.trans (Zj hD _),Zd,Qv _⟩
   ·rintro i zs σ H2 ⟨_,_,s2,_⟩
    exact⟨SqT.of (s2 _ _ hp),SqT.of (s2 _ _ hq)⟩
   ·rintro i zs σ H2 x' y' r hx' hy' ⟨⟨v1,v2,rfl⟩,rfl,s2,hD2,hiz⟩ hr
    have hil:i<xs.length:=(Qg.mp hx').1
    have nDr:D≠r:=Zb hD2 hr
    have s3:ZD H (upd H2 r (.tup [x',y'])):=s2.trans (Zj hr _)
    refine⟨r,_,rfl,SqT.of Zd,rfl,_,_,rfl,_,_,rfl,rfl,?_⟩
    refine⟨_,rfl,_,rfl,x',y',rfl,(hi i x' y' hx' hy').mono s3,fun H' s'=>?_⟩
    have hD':H' D=some (.lst (List.replicate i (.bl true))):=s' _ _ (by rw[Zc nDr];exact hD2)
    refine⟨hD',(by rw[Qau];exact Z5 (by omega)),⟨_,_,rfl⟩,?_,?_,Zd,hil⟩
    ·rw[List.replicate_succ']
    ·intro b o e
     have e1:=s' b o (s3 b o e)
     rw[Zc (fun z=>by subst z;exact nomatch (sD b o e).symm.trans hD)]
     exact e1
   ·rintro zs σ H2 ⟨_,rfl,s2,hD2,_⟩
    refine⟨D,List.replicate (min xs.length ys.length) true,rfl,SqL.of (by rw[List.map_replicate];exact hD2),?_⟩
    have e:(List.replicate (min xs.length ys.length) true).all id=true:=by rw[Qa3];intro b hb;exact(List.eq_of_mem_replicate hb)
    rw[e]
    exact q H2 s2
theorem Zar.new{H:Hp}{p l:Addr}{c:Int}{o:HO}(h:Zar H p c)(n:H l=none):Zar (upd H l o) p c:=by
 obtain⟨a,b,hp,c0⟩:=h
 exact⟨a,b,by rw[Zc (Zb hp n)];exact hp,c0⟩
theorem Zar.ge{H:Hp}{p:Addr}{c:Int}(h:Zar H p c):0≤c:=by obtain⟨a,b,hp,c0⟩:=h;exact c0
theorem Zar.here{H:Hp}{p:Addr}{c:Int}(h:Zar H p c):∃o,H p=some o:=by obtain⟨a,b,hp,c0⟩:=h;exact⟨_,hp⟩
theorem Zar.at{H:Hp}{p l:Addr}{c:Int}{o:HO}(h:Zar H p c)(n:p≠l):Zar (upd H l o) p c:=by
 obtain⟨a,b,hp,c0⟩:=h
 exact⟨a,b,by rw[Zc n];exact hp,c0⟩
theorem Zhd:∀ss:List Str,(∀s∈ss,AZ s)→PyData.canLayAll0 (ss.map PyData.str)=true
 | [],_=>rfl
 | x::r,h=>by simp[PyData.canLayAll0,PyData.canLay0,(h x (by simp)).ok,Zhd r fun s hs=>h s (List.mem_cons_of_mem _ hs)]
theorem ZeV:∀ss:List Str,PyData.depthAll (ss.map PyData.str)=0
 | []=>rfl
 | _::r=>by simp[PyData.depthAll,PyData.depth,ZeV r]
theorem ZgW(ss:List Str)(h:∀s∈ss,AZ s):SeqAt.shaped (.list (ss.map PyData.str))=true:=by simp[SeqAt.shaped,PyData.canLay0,PyData.depth,Zhd ss h,ZeV]
theorem Ziu{K:PySem.W.Frag}{H:Hp}:∀ss:List Str,DVs K H (ss.map V.str) (ss.map PyData.str)
 | []=>.nil
 | s::r=>.cons (.str s) (Ziu r)
def Zhy:Sp:=fun vs H Q _=>∃ (p l:Addr) (c most:Int) (ss:List Str),vs=[.ref p,.ref l,.int most]∧Zar H p c∧c<2 ^ 40∧0≤most∧most≤60∧H l=some (.lst (ss.map V.str))∧1≤ss.length∧ss.length≤4∧(∀s∈ss,s.length≤24∧AZ s) ∧
 ∀ (r:Addr) (ts:List Str) (c':Int) (H':Hp),H r=none→H' r=some (.lst (ts.map V.str))→(ts.length:Int)≤most→(∀s∈ts,s.length≤28∧AZ s)→Zar H' p c'→c≤c'→c'≤c+600→But p H H'→Q (.ref r) H'
theorem Zl5(T:Zay K mg cRow cMerge)(f_l_pick:Df P w K mg base 2 "_law_pick" ["_law_left_here", "_law_many_here"] Zc5)(f_l_key:Df P w K mg base 3 "_law_key" ["_law_left_here", "_law_stems_here"] ZkO):Df P w K mg base 4 "_law_keys" ["_law_left_here", "_law_stems_here", "_law_most"] Zhy:=by
 refine T.t_l_keys.df ZbX (fun vs H Q E h=>?_) (fun cdv f A outer s H vs Q E hr h=>?_)
 ·obtain⟨p,l,c,most,ss,rfl,_⟩:=h
  rfl
 obtain⟨p,l,c,most,ss,rfl,hL,c1,m0,m1,hl,n1,n4,h24,q⟩:=h
 refine⟨_,#[Zg,#[Zz,3,ZbX.nd,(Or.inl rfl),#[ZaJ,#[Ze]]],#[Zg,#[Zb4,PassesOwn.never,#[Zbm,T.b.n_range,#[Za,#[ZM,f_l_pick,hr,#[Za,‹0›,#[Za,#[ZW,ZaP,‹2›,#[Zh]],#[Ze]]],(by rfl)],#[Ze]]],#[ZJ,4,ZbX.nd,(Or.inl rfl)],#[Zg,#[Zz,5,ZbX.nd,(Or.inl rfl),#[ZM,f_l_key,hr,#[Za,‹0›,#[Za,‹1›,#[Ze]]],(by rfl)]],#[Zg,#[Zaz,(@PW.pt _ _ _ #[Zd0,#[Zs,(@neD _ K _ hr (by rfl)),‹3›,#[ZaJ,#[Ze]],(Zx _)],(@Zdl _ _ _ _ #[Zs,Zbw,#[ZM,f_l_pick,hr,#[Za,‹0›,#[Za,#[Zh],#[Ze]]],(by rfl)],#[Zh],(Zx _)])]),#[Zi,#[Zz,5,ZbX.nd,(Or.inl rfl),#[ZG,(ixL K),‹3›,#[ZM,f_l_pick,hr,#[Za,‹0›,#[Za,#[Zm,(Zc7 K),T.b.n_len,QD,#[Za,‹3›,#[Ze]]],#[Ze]]],(by rfl)]]]],(@ZU _)],#[Zi,#[ZaO,#[Zdu,QO,QW,QX,ZaR,‹3›,#[Za,‹5›,#[Ze]]]]]]]],#[Zi,#[Zr,‹3›]]]],?_⟩
 have c0:=hL.ge
 refine⟨(by show 0≤sizeLine;decide),fun r hr0=>?_⟩
 have npr:p≠r:=by obtain⟨o,ho⟩:=hL.here;exact Zb ho hr0
 have nlr:l≠r:=Zb hl hr0
 have npl:p≠l:=by
  obtain⟨a,b,hp,_⟩:=hL
  refine Zk3 hp hl fun e=>?_
  cases ss with
  | nil=>exact absurd (congrArg List.length (HO.lst.inj e)) (by simp)
  | cons x r=>exact absurd (HO.lst.inj e) (by intro z;cases z)
 refine⟨_,rfl,_,rfl,_,_,rfl,rfl,p,c,_,rfl,hL.new hr0,by omega,by omega,by omega,fun n H1 w0 w1 L1 B1=>?_⟩
 refine⟨_,rfl,by omega,by omega,?_⟩
 have hr1:H1 r=some (.lst []):=B1 r _ Zd npr.symm
 have B01:But p H H1:=(But.same (Zj hr0 _)).trans B1
 refine ZcK (fun i σ H2=>∃ (ts:List Str) (v1 v2:Option V) (c2:Int),σ=[some (.ref p),some (.ref l),some (.int most),some (.ref r),v1,v2]∧H2 r=some (.lst (ts.map V.str))∧ts.length=i∧(∀s∈ts,s.length≤28∧AZ s)∧Zar H2 p c2∧c+1≤c2∧c2≤c+1+8*i∧(∀b o,H b=some o→b≠p→H2 b=some o)) ⟨[],none,none,c+1,rfl,hr1,rfl,(fun s hs=>by cases hs),L1,by omega,by omega,B01⟩ ?_ ?_
 ·rintro i σ H2 hi ⟨ts,v1,v2,c2,rfl,hr2,hn,h28,L2,a1,a2,B2⟩
  have hi60:(i:Int)<61:=by omega
  have hl2:=B2 l _ hl npl.symm
  refine⟨_,rfl,_,rfl,p,l,c2,ss,rfl,L2,by omega,hl2,n1,n4,h24,fun key c3 H3 hkey hkaz L3 a3 a4 B3=>?_⟩
  have hr3:=B3 r _ hr2 npr.symm
  have fin:∀ (k2:Str) (c4:Int) (H4:Hp),k2.length≤28∧AZ k2→Zar H4 p c4→c2≤c4→c4≤c2+8→H4 r=some (.lst (ts.map V.str))→(∀b o,H b=some o→b≠p→H4 b=some o) →
    ∃ (ts':List Str) (v1 v2:Option V) (c5:Int),[some (V.ref p),some (V.ref l),some (V.int most),some (V.ref r),some (V.int (0+(i:Int))),some (V.str k2)]=[some (.ref p),some (.ref l),some (.int most),some (.ref r),v1,v2] ∧
     (upd H4 r (.lst (ts.map V.str++[.str k2]))) r=some (.lst (ts'.map V.str))∧ts'.length=i+1∧(∀s∈ts',s.length≤28∧AZ s)∧Zar (upd H4 r (.lst (ts.map V.str++[.str k2]))) p c5∧c+1≤c5∧c5≤c+1+8*((i+1:Nat):Int) ∧
     (∀b o,H b=some o→b≠p→(upd H4 r (.lst (ts.map V.str++[.str k2]))) b=some o):=fun k2 c4 H4 hk L4 b1 b2 hr4 B4=>by
   refine⟨ts++[k2],_,_,c4,rfl,?_,by rw[Qd,hn];rfl,?_,L4.at npr,by omega,by omega,fun b o e n=>?_⟩
   ·rw[Zd,Qj];rfl
   ·intro x hx
    rcases Qk.mp hx with hx|hx
    ·exact h28 x hx
    ·rw[Ql.mp hx];exact hk
   ·rw[Zc (Zb e hr0)]
    exact B4 b o e n
  have hlt:(ts.map V.str).length<sizeLine:=by rw[Qb,hn];exact Z5 (by omega)
  refine⟨_,rfl,(by show 0≤sizeLine;decide),fun e he=>?_⟩
  have hr3':(upd H3 e (.lst [])) r=some (.lst (ts.map V.str)):=by rw[Zc (Zb hr3 he)];exact hr3
  refine⟨.list (ts.map PyData.str),.list [],.lst (SqL.of hr3') (Ziu ts),.lst (SqL.of Zd) .nil,ZgW ts (fun s h=>(h28 s h).2),(by ac_rfl),_,rfl,?_⟩
  have B3':∀b o,H b=some o→b≠p→(upd H3 e (.lst [])) b=some o:=fun b o z n=>Zj he _ b o (B3 b o (B2 b o z n) n)
  cases ts with
  | nil =>
   have ev:(if true=true then !PyData.eqv (.list (([]:List Str).map PyData.str)) (.list []) else PyData.eqv (.list (([]:List Str).map PyData.str)) (.list []))=false:=by ac_rfl
   rw[ev]
   refine Zcc (Zcc ?_)
   refine⟨_,rfl,.inl ⟨rfl,_,SqL.of hr3'⟩,_,rfl,r,_,_,rfl,rfl,hr3',hlt,?_⟩
   exact fin key c3 _ ⟨hkey,hkaz⟩ (L3.new he) (by omega) (by omega) hr3' B3'
  | cons t0 tr =>
   have ev:(if true=true then !PyData.eqv (.list ((t0::tr).map PyData.str)) (.list []) else PyData.eqv (.list ((t0::tr).map PyData.str)) (.list []))=true:=by simp[PyData.eqv,PyData.eqvAll]
   rw[ev]
   refine Ze6 ⟨_,rfl,p,c3,_,rfl,L3.new he,by omega,by decide,by decide,fun d H5 d0 d1 L5 B5=>?_⟩
   have hr5:=B5 r _ hr3' npr.symm
   refine⟨rfl,_,rfl,Zbx (fun _=>?_) (fun _=>?_)⟩
   ·have hlen:((((t0::tr).map V.str).length:Nat):Int)=((t0::tr).length:Int):=by rw[Qb]
    have hpos:(0:Int)<((t0::tr).length:Int):=by simp
    refine⟨_,rfl,_,rfl,_,rfl,r,_,rfl,.inl (SqL.of hr5),p,c3+1,_,rfl,L5,by omega,by omega,by omega,fun d' H6 d0' d1' L6 B6=>?_⟩
    obtain⟨st,hs1,hs2⟩:=ZhA (ss:=t0::tr) d0' (by omega)
    have hr6:=B6 r _ hr5 npr.symm
    refine(xw4 r _ _ _ ⟨rfl,rfl,SqL.of hr6,hs2,?_⟩)
    refine⟨_,rfl,.inl ⟨rfl,_,SqL.of hr6⟩,_,rfl,r,_,_,rfl,rfl,hr6,hlt,?_⟩
    exact fin st _ _ (h28 st hs1) L6 (by omega) (by omega) hr6 fun b o z n=>B6 b o (B5 b o (B3' b o z n) n) n
   ·refine⟨_,rfl,.inl ⟨rfl,_,SqL.of hr5⟩,_,rfl,r,_,_,rfl,rfl,hr5,hlt,?_⟩
    exact fin key _ _ ⟨hkey,hkaz⟩ L5 (by omega) (by omega) hr5 fun b o z n=>B5 b o (B3' b o z n) n
 ·rintro σ H2 ⟨ts,v1,v2,c2,rfl,hr2,hn,h28,L2,a1,a2,B2⟩
  exact⟨_,rfl,q r ts c2 H2 hr0 hr2 (by omega) h28 L2 (by omega) (by omega) B2⟩
def ZbN(ss:List Str)(i:Nat):Int:=if i=0 then 0 else (lcp (cds (ss.getD (i-1) "")) (cds (ss.getD i "")):Nat)
def ZeB(K:PySem.W.Frag):Sp:=fun vs H Q _=>∃ (a:Addr) (ss:List Str),vs=[.ref a]∧SqL K H a (ss.map V.str)∧ss.length≤100∧(∀s∈ss,s.length≤1000) ∧
 ∀ (r:Addr) (H':Hp),H r=none→H' r=some (.lst ((List.range ss.length).map fun j=>.int (ZbN ss j)))→ZD H H'→Q (.ref r) H'
theorem Zi0(T:Zay K mg cRow cMerge)(f_alike:Df P w K mg base 2 "alike" ["one", "other"] Zer):Df P w K mg base 3 "alikes" ["row"] (ZeB K):=by
 refine T.t_alikes.df ZcM (fun vs H Q E h=>?_) (fun cdv f A outer s H vs Q E hr h=>?_)
 ·obtain⟨a,ss,rfl,_⟩:=h
  rfl
 obtain⟨a,ss,rfl,hS,hn,hlen,q⟩:=h
 refine⟨_,#[Zg,#[Zz,1,ZcM.nd,(Or.inl rfl),#[ZaJ,#[Ze]]],#[Zg,#[Zb4,PassesOwn.never,#[iE,K,T.b.n_enumerate,#[Za,‹0›,#[Ze]]],#[gT,K,2,#[ZB,#[ZJ,2,ZcM.nd,(Or.inl rfl)],#[ZB,#[ZJ,3,ZcM.nd,(Or.inl rfl)],(@ZaZ _)]]],#[Zi,#[ZaO,#[Zdu,QO,QW,QX,ZaR,‹1›,#[Za,#[Zbb,#[Zs,Zbw,‹2›,#[Zh],(Zx _)],#[Zh],#[ZM,f_alike,hr,#[Za,#[ZG,(ixL K),‹0›,#[ZW,Zga,‹2›,#[Zh]]],#[Za,‹3›,#[Ze]]],(by rfl)]],#[Ze]]]]]],#[Zi,#[Zr,‹1›]]]],?_⟩
 refine⟨(by show 0≤sizeLine;decide),fun r hr0=>?_⟩
 have s1:ZD H (upd H r (.lst [])):=Zj hr0 _
 refine⟨_,rfl,a,ss.map V.str,rfl,s1.seq hS,?_⟩
 refine Ze1 (K:=K) (a:=a) (xs:=ss.map V.str) (fun i σ H2=>(∃v1 v2:Option V,σ=[some (.ref a),some (.ref r),v1,v2])∧H2 r=some (.lst ((List.range i).map fun j=>.int (ZbN ss j)))∧ZD H H2∧i≤ss.length) ⟨⟨none,none,rfl⟩,Zd,s1,Qv _⟩ (fun _ _ _ hq=>by obtain⟨_,_,s2,_⟩:=hq;exact s2.seq hS) ?_ ?_
 ·rintro i x σ H2 p hx ⟨⟨v1,v2,rfl⟩,hr2,s2,hi⟩ hp
  rw[Qu]at hx
  cases hy:ss[i]? with
  | none=>rw[hy]at hx;cases hx
  | some y =>
   rw[hy]at hx
   cases hx
   have hil:i<ss.length:=(Qg.mp hy).1
   have npr:r≠p:=Zb hr2 hp
   have s3:ZD H (upd H2 p (.tup [.int i,.str y])):=s2.trans (Zj hp _)
   have hr3:(upd H2 p (.tup [.int i,.str y])) r=some (.lst ((List.range i).map fun j=>.int (ZbN ss j))):=by rw[Zc npr];exact hr2
   have hlt:((List.range i).map fun j=>V.int (ZbN ss j)).length<sizeLine:=by rw[Qb,List.length_range];exact Z5 (by omega)
   have fin:∀z:Int,z=ZbN ss i→(∃v1 v2:Option V,[some (V.ref a),some (V.ref r),some (V.int i),some (V.str y)]=[some (.ref a),some (.ref r),v1,v2]) ∧
     (upd (upd H2 p (.tup [.int i,.str y])) r (.lst (((List.range i).map fun j=>.int (ZbN ss j))++[.int z]))) r=some (.lst ((List.range (i+1)).map fun j=>.int (ZbN ss j))) ∧
     ZD H (upd (upd H2 p (.tup [.int i,.str y])) r (.lst (((List.range i).map fun j=>.int (ZbN ss j))++[.int z])))∧i+1≤ss.length:=fun z e=>by
    refine⟨⟨_,_,rfl⟩,?_,fun b o h=>?_,hil⟩
    ·rw[Zd,List.range_succ,Qj,e];rfl
    ·rw[Zc (Zb h hr0)];exact s3 b o h
   refine⟨p,_,rfl,SqT.of Zd,rfl,_,_,rfl,_,_,rfl,rfl,?_⟩
   refine⟨_,rfl,.inl ⟨rfl,_,SqL.of hr3⟩,_,rfl,rfl,_,rfl,?_⟩
   by_cases e0:i=0
   ·subst e0
    exact Zdz rfl ⟨r,_,_,rfl,rfl,hr3,hlt,fin 0 rfl⟩
   ·have hprev:i-1<ss.length:=by omega
    have ei:((i:Int)-1)=((i-1:Nat):Int):=by omega
    have hat:atI (ss.map V.str) ((i:Int)-1)=some (.str ss[i-1]):=by rw[ei];exact Zat (by rw[Qu,Qa hprev]<;>rfl)
    refine Zck (fun z=>by injection z with z;omega) ⟨_,rfl,_,rfl,_,_,rfl,rfl,xw4 a _ _ _ ⟨rfl,rfl,s3.seq hS,hat,_,rfl,ss[i-1],y,rfl,hlen _ (QS hprev),hlen _ (QM hy),r,_,_,rfl,rfl,hr3,hlt,fin _ ?_⟩⟩
    unfold ZbN
    rw[if_neg e0,QC,QC,Qa hprev,hy]
    rfl
 ·rintro σ H2 ⟨⟨v1,v2,rfl⟩,hr2,s2,hi⟩
  rw[Qb]at hr2
  exact⟨_,rfl,q r H2 hr0 hr2 s2⟩
def ZA:List Nat→List Nat→Int
 | [],[]=>0
 | [],_::_ =>-1
 | _::_,[]=>1
 | a::r,b::s=>if a=b then ZA r s else if a<b then -1 else 1
theorem ZfI:∀ (x y:List Nat),Spec.ltCps y x=false→ZA x y≤0
 | [],[],_=>by unfold ZA;omega
 | [],_::_,_=>by unfold ZA;omega
 | _::_,[],h=>by unfold Spec.ltCps at h;cases h
 | a::r,b::s,h=>by
  have ih:=ZfI r s
  unfold Spec.ltCps at h
  unfold ZA
  rw[Bool.or_eq_false_iff,Bool.and_eq_false_iff]at h
  obtain⟨h1,h2⟩:=h
  have h1':¬ b<a:=of_decide_eq_false h1
  by_cases e:a=b
  ·rw[if_pos e]
   rcases h2 with z|z
   ·rw[e]at z;simp at z
   ·exact ih z
  ·rw[if_neg e,if_pos (by omega)]
   omega
theorem Zbs:∀ (x y z:List Nat),ZA x y≤0→ZA y z≤0→ZA x z≤0
 | [],_,[],_,_=>by unfold ZA;omega
 | [],_,_::_,_,_=>by unfold ZA;omega
 | _::_,[],_,h,_=>by unfold ZA at h;omega
 | _::_,_::_,[],_,h=>by unfold ZA at h;omega
 | a::r,b::s,c::t,h1,h2=>by
  unfold ZA at h1 h2 ⊢
  have ih:=Zbs r s t
  by_cases e1:a=b
  ·rw[if_pos e1]at h1
   by_cases e2:b=c
   ·rw[if_pos e2]at h2
    rw[if_pos (e1.trans e2)]
    exact ih h1 h2
   ·rw[if_neg e2]at h2
    rw[if_neg (fun e=>e2 (e1.symm.trans e))]
    split at h2
    ·rw[if_pos (by omega)];omega
    ·omega
  ·rw[if_neg e1]at h1
   split at h1
   ·by_cases e2:b=c
    ·rw[if_neg (fun e=>e1 (e.trans e2.symm)),if_pos (by omega)];omega
    ·rw[if_neg e2]at h2
     split at h2
     ·rw[if_neg (by omega),if_pos (by omega)];omega
     ·omega
   ·omega
theorem ZfB:∀ (ss:List Str) (p:Str),risingS p ss=true→∀ (k:Nat) (x y:Str),(p::ss)[k]? = some x→ss[k]? = some y→ZA (cds x) (cds y)≤0
 | [],p,_,k,x,y,_,h=>by simp at h
 | z::r,p,h,0,x,y,h1,h2=>by
  unfold risingS at h
  rw[QaA]at h
  simp at h1 h2
  subst h1 h2
  exact ZfI _ _ (by simpa using h.1)
 | z::r,p,h,k+1,x,y,h1,h2=>by
  unfold risingS at h
  rw[QaA]at h
  exact ZfB r z h.2 k x y (by simpa using h1) (by simpa using h2)
theorem ZfD{ss:List Str}(h:sortedS ss=true)(k:Nat)(x y:Str)(h1:ss[k]? = some x)(h2:ss[k+1]? = some y):ZA (cds x) (cds y)≤0:=by
 cases ss with
 | nil=>simp at h1
 | cons p r=>exact ZfB r p h k x y h1 (by simpa using h2)
theorem Zid{ss:List Str}{k:Nat}(h:k<ss.length):atI (ss.map V.str) (k:Int)=some (.str ss[k]):=Zat (by rw[Qu,Qa h]<;>rfl)
def lawInv(H:Hp)(a p:Addr)(j:Nat)(σ:L2.St)(H4:Hp):Prop:=∃ (u1 u3 u4 u5 u6 u7 u8 u9:Option V) (c:Int),σ=[some (.ref a),u1,some (.ref p),u3,u4,u5,u6,u7,u8,u9]∧ZD H H4∧Zar H4 p c∧c≤700*j
theorem Zar.same{H H':Hp}{p:Addr}{c:Int}(h:Zar H p c)(s:ZD H H'):Zar H' p c:=by obtain⟨b1,b2,hb,c0⟩:=h;exact⟨b1,b2,s _ _ hb,c0⟩
def mid(ns:List Int):Nat:=(ns.length+1) / 2
def ZcT(ns:List Int):List Int:=ns.take (mid ns)
def Ze8(ns:List Int):List Int:=ns.drop (mid ns)
theorem ZlU(ns:List Int):((((ns.map V.int).length:Nat):Int)+1) / 2=((mid ns:Nat):Int):=by
 rw[Qb];unfold mid;omega
theorem Zes{ns:List Int}{k:Int}(h0:0≤k)(h:k<(ns.length:Int)):∃v∈ns,atI (ns.map V.int) k=some (.int v):=by
 have hk:k.toNat<ns.length:=by omega
 have ek:k=((k.toNat:Nat):Int):=by omega
 have q:atI (ns.map V.int) ((k.toNat:Nat):Int)=some (.int ns[k.toNat]):=Zat (by rw[Qu,Qa hk]<;>rfl)
 rw[← ek]at q
 exact⟨_,QS hk,q⟩
theorem ZnD(ns:List Int)(m:Nat)(h:m≤ns.length):ZcV (ns.map V.int) none (some (m:Int))=(ns.take m).map V.int:=by
 unfold ZcV
 have e:HT.sIx (ns.map V.int).length (ns.map V.int).length (some (m:Int))=m:=by
  unfold HT.sIx
  simp only[List.length_map]
  rw[if_neg (by omega)]
  omega
 have e0:HT.sIx (ns.map V.int).length 0 none=0:=rfl
 rw[e,e0,List.drop_zero,Nat.sub_zero,List.map_take]
theorem Zj1(ns:List Int)(m:Nat)(h:m≤ns.length):ZcV (ns.map V.int) (some (m:Int)) none=(ns.drop m).map V.int:=by
 unfold ZcV
 have e:HT.sIx (ns.map V.int).length 0 (some (m:Int))=m:=by
  unfold HT.sIx
  simp only[List.length_map]
  rw[if_neg (by omega)]
  omega
 have e0:HT.sIx (ns.map V.int).length (ns.map V.int).length none=(ns.map V.int).length:=rfl
 rw[e,e0,Qa5,Qx (by rw[Qp,Qb];omega)]
theorem Ziq(z:Str):(cds z).length=z.length:=by simp[Str.length]
theorem Zie:∀ (x y:List Nat),(lcp x y=x.length→lcp x y=y.length→ZA x y=0)∧(lcp x y=x.length→lcp x y≠y.length→ZA x y = -1)∧(lcp x y≠x.length→lcp x y=y.length→ZA x y=1) ∧
  ∀a b,x[lcp x y]? = some a→y[lcp x y]? = some b→ZA x y=if a<b then -1 else 1
 | [],[]=>⟨fun _ _=>rfl,fun _ h=>absurd rfl h,fun h _=>absurd rfl h,fun a b h _=>by simp at h⟩
 | [],_::_=>⟨fun _ h=>by unfold lcp at h;simp at h,fun _ _=>rfl,fun h _=>absurd rfl h,fun a b h _=>by simp at h⟩
 | _::_,[]=>⟨fun h _=>by unfold lcp at h;simp at h,fun h _=>by unfold lcp at h;simp at h,fun _ _=>rfl,fun a b _ h=>by simp at h⟩
 | a::r,b::s=>by
  obtain⟨h1,h2,h3,h4⟩:=Zie r s
  unfold lcp ZA
  by_cases e:a=b
  ·rw[if_pos e,if_pos e]
   simp only[List.length_cons,List.getElem?_cons_succ]
   exact⟨fun p q=>h1 (by omega) (by omega),fun p q=>h2 (by omega) (by omega),fun p q=>h3 (by omega) (by omega),h4⟩
  ·rw[if_neg e,if_neg e]
   simp only[List.length_cons,List.getElem?_cons_zero]
   refine⟨fun p=>by omega,fun p=>by omega,fun _ p=>by omega,fun c d p q=>?_⟩
   cases p;cases q
   rfl
theorem ZaK:∀ (x y:List Nat),ZA y x =-ZA x y
 | [],[]=>rfl
 | [],_::_=>rfl
 | _::_,[]=>rfl
 | a::r,b::s=>by
  have ih:=ZaK r s
  unfold ZA
  by_cases e:a=b
  ·rw[if_pos e,if_pos e.symm,ih]
  ·rw[if_neg e,if_neg fun z=>e z.symm]
   by_cases l:a<b
   ·rw[if_pos l,if_neg (by omega)];rfl
   ·rw[if_neg l,if_pos (by omega)]
theorem Zm1(a b:Nat):decide ((⟨#[a]⟩:Str).cps.toList<(⟨#[b]⟩:Str).cps.toList)=decide (a<b):=by
 have e:([a]:List Nat)<[b]↔a<b:=by
  constructor
  ·intro h
   cases h with
   | rel h=>exact h
   | cons h=>cases h
  ·exact fun h=>List.Lex.rel h
 exact decide_eq_decide.mpr e
theorem Zd2:∀x:List Nat,ZA x x=0
 | []=>rfl
 | a::r=>by unfold ZA;rw[if_pos rfl];exact Zd2 r
theorem ZbW:∀ (x y:List Nat),ZA x y=0→x=y
 | [],[],_=>rfl
 | [],_::_,h=>by unfold ZA at h;omega
 | _::_,[],h=>by unfold ZA at h;omega
 | a::r,b::s,h=>by
  unfold ZA at h
  by_cases e:a=b
  ·rw[if_pos e]at h
   rw[e,ZbW r s h]
  ·rw[if_neg e]at h
   split at h<;>omega
def Zf6:Sp:=fun vs H Q _=>∃x y:Str,vs=[.str x,.str y]∧x.length≤1000∧y.length≤1000∧Q (.int (ZA (cds x) (cds y))) H
def Zem:Sp:=fun vs H Q _=>∃x y:Str,vs=[.str x,.str y,.int (lcp (cds x) (cds y):Nat)]∧x.length≤1000∧y.length≤1000∧Q (.int (ZA (cds x) (cds y))) H
theorem ZjY(T:Zay K mg cRow cMerge):Df P w K mg base 1 "order_at" ["one", "other", "at"] Zem:=by
 refine T.t_order_at.df ZgE (fun vs H Q E h=>?_) (fun cdv f A outer s H vs Q E hr h=>?_)
 ·obtain⟨x,y,rfl,_⟩:=h
  rfl
 obtain⟨x,y,rfl,hx,hy,q⟩:=h
 refine⟨_,#[Zg,#[Zaz,(@PW.pt _ _ _ #[Zd0,#[Zs,Zbw,‹2›,#[Zm,ZaH,T.b.n_len,QD,#[Za,‹0›,#[Ze]]],(Zx _)],(@Zdl _ _ _ _ #[Zs,Zbw,‹2›,#[Zm,ZaH,T.b.n_len,QD,#[Za,‹1›,#[Ze]]],(Zx _)])]),#[Zi,#[Zr,#[Zh]]],(@ZU _)],#[Zg,#[Zaz,#[Zs,Zbw,‹2›,#[Zm,ZaH,T.b.n_len,QD,#[Za,‹0›,#[Ze]]],(Zx _)],#[Zi,#[Zr,(@ZiD _ _ _ _ _ _ Zgr #[Zh])]],(@ZU _)],#[Zg,#[Zaz,#[Zs,Zbw,‹2›,#[Zm,ZaH,T.b.n_len,QD,#[Za,‹1›,#[Ze]]],(Zx _)],#[Zi,#[Zr,#[Zh]]],(@ZU _)],#[Zi,#[Zr,#[Zbb,#[Zs,Zjk,#[ZG,ZeY,‹0›,‹2›],#[ZG,ZeY,‹1›,‹2›],(Zx _)],(@ZiD _ _ _ _ _ _ Zgr #[Zh]),#[Zh]]]]]]],?_⟩
 obtain⟨o1,o2,o3,o4⟩:=Zie (cds x) (cds y)
 have ll:=ZeR (cds x) (cds y)
 have lx:=Ziq x
 have ly:=Ziq y
 have inj:∀ {m n:Nat},V.int (m:Int)=V.int (n:Int)→m=n:=fun {m n} e=>by injection e with e;omega
 refine⟨_,rfl,_,rfl,x,rfl,Zci hx,rfl,_,rfl,Zbx (fun d=>?_) (fun d=>?_)⟩
 ·have d1:=inj (of_decide_eq_true d)
  refine⟨_,rfl,_,rfl,y,rfl,Zci hy,rfl,_,rfl,Zbx (fun d2=>?_) (fun d2=>?_)⟩
  ·have d2':=inj (of_decide_eq_true d2)
   rw[o1 (by omega) (by omega)]at q
   exact q
  ·have d2':¬ lcp (cds x) (cds y)=y.length:=fun e=>d2 (by rw[e];exact decide_eq_true rfl)
   refine⟨_,rfl,_,rfl,x,rfl,Zci hx,rfl,_,rfl,Zdz (by rw[d1]) ?_⟩
   rw[o2 (by omega) (by omega)]at q
   exact⟨_,rfl,q⟩
 ·have d1:¬ lcp (cds x) (cds y)=x.length:=fun e=>d (by rw[e];exact decide_eq_true rfl)
  refine Zcc ⟨_,rfl,_,rfl,x,rfl,Zci hx,rfl,_,rfl,Zck (fun e=>d1 (inj e)) ?_⟩
  refine⟨_,rfl,_,rfl,y,rfl,Zci hy,rfl,_,rfl,Zbx (fun d2=>?_) (fun d2=>?_)⟩
  ·have d2':=inj (of_decide_eq_true d2)
   rw[o3 (by omega) (by omega)]at q
   exact q
  ·have d2':¬ lcp (cds x) (cds y)=y.length:=fun e=>d2 (by rw[e];exact decide_eq_true rfl)
   obtain⟨a,ha,ha'⟩:=ZdD (z:=x) (k:=(lcp (cds x) (cds y):Nat)) (by omega) (by omega)
   obtain⟨b,hb,hb'⟩:=ZdD (z:=y) (k:=(lcp (cds x) (cds y):Nat)) (by omega) (by omega)
   rw[Int.toNat_natCast]at ha hb
   refine⟨_,rfl,_,rfl,x,_,a,rfl,rfl,Zci hx,ha',_,rfl,_,rfl,y,_,b,rfl,rfl,Zci hy,hb',_,_,rfl,rfl,_,rfl,?_⟩
   rw[Zm1]
   rw[o4 a b ha hb]at q
   refine Zbx (fun e=>?_) (fun e=>?_)
   ·rw[if_pos (of_decide_eq_true e)]at q
    exact⟨_,rfl,q⟩
   ·rw[if_neg (fun z=>e (decide_eq_true z))]at q
    exact q
theorem Zky(T:Zay K mg cRow cMerge)(f_alike:Df P w K mg base 2 "alike" ["one", "other"] Zer)(f_order_at:Df P w K mg base 1 "order_at" ["one", "other", "at"] Zem):Df P w K mg base 3 "liken" ["one", "other"] Zf6:=by
 refine T.t_liken.df ZjP (fun vs H Q E h=>?_) (fun cdv f A outer s H vs Q E hr h=>?_)
 ·obtain⟨x,y,rfl,_⟩:=h
  rfl
 obtain⟨x,y,rfl,hx,hy,q⟩:=h
 refine⟨_,#[Zi,#[Zr,#[ZM,f_order_at,hr,#[Za,‹0›,#[Za,‹1›,#[Za,#[ZM,f_alike,hr,#[Za,‹0›,#[Za,‹1›,#[Ze]]],(by rfl)],#[Ze]]]],(by rfl)]]],?_⟩
 exact⟨_,rfl,_,rfl,_,rfl,_,rfl,x,y,rfl,hx,hy,x,y,rfl,hx,hy,q⟩
theorem ZmD{c A B:Prop}[Decidable c](hc:¬ c)(h:A):if (!decide c)=true then A else B:=by
 rw[if_pos (by rw[decide_eq_false hc];rfl)]
 exact h
def Zcx:Sp:=fun vs H Q _=>∃ (x y:Str) (far:Nat),vs=[.str x,.str y,.int far]∧x.length≤1000∧y.length≤1000∧far≤lcp (cds x) (cds y) ∧
 ∀t,H t=none→Q (.ref t) (upd H t (.tup [.int (ZA (cds x) (cds y)),.int (lcp (cds x) (cds y):Nat),.int ((lcp (cds x) (cds y):Nat)-(far:Int)+1)]))
theorem Zfb(T:Zay K mg cRow cMerge)(f_alike_from:Df P w K mg base 1 "alike_from" ["one", "other", "far"] Zby)(f_order_at:Df P w K mg base 1 "order_at" ["one", "other", "at"] Zem):Df P w K mg base 2 "liken_from" ["one", "other", "far"] Zcx:=by
 refine T.t_liken_from.df ZcX (fun vs H Q E h=>?_) (fun cdv f A outer s H vs Q E hr h=>?_)
 ·obtain⟨x,y,far,rfl,_⟩:=h
  rfl
 obtain⟨x,y,far,rfl,hx,hy,hf,q⟩:=h
 refine⟨_,#[Zg,#[Zz,3,ZcX.nd,(Or.inl rfl),#[ZM,f_alike_from,hr,#[Za,‹0›,#[Za,‹1›,#[Za,‹2›,#[Ze]]]],(by rfl)]],#[Zi,#[Zr,#[ZaV,#[Za,#[ZM,f_order_at,hr,#[Za,‹0›,#[Za,‹1›,#[Za,‹3›,#[Ze]]]],(by rfl)],#[Za,‹3›,#[Za,#[ZW,ZaP,#[ZW,Zga,‹3›,‹2›],#[Zh]],#[Ze]]]]]]]],?_⟩
 refine⟨_,rfl,_,rfl,_,rfl,x,y,far,rfl,hx,hy,hf,?_⟩
 refine⟨_,rfl,_,rfl,_,rfl,x,y,rfl,hx,hy,?_⟩
 refine⟨_,rfl,_,rfl,_,rfl,_,_,rfl,rfl,_,_,rfl,rfl,(by show 3≤sizeLine;decide),fun t ht=>?_⟩
 exact q t ht
def Zhe(ss:List Str)(v:V):Prop :=
 (v=.non∧∀i x y,ss[i+1]? = some x→ss[i]? = some y→0≤ZA (cds x) (cds y)) ∨
 ∃k:Nat,v=.int ((k+1:Nat):Int)∧k+1<ss.length∧(∀x y,ss[k+1]? = some x→ss[k]? = some y→ZA (cds x) (cds y)<0)∧∀i,i<k→∀x y,ss[i+1]? = some x→ss[i]? = some y→0≤ZA (cds x) (cds y)
theorem Zlu{ss:List Str}{v v':V}(h:Zhe ss v)(h':Zhe ss v'):v=v':=by
 rcases h with⟨rfl,a⟩|⟨k,rfl,l,b,c⟩
 ·rcases h' with⟨rfl,_⟩|⟨k',rfl,l',b',_⟩
  ·rfl
  ·have:=a k' _ _ (Qa l') (Qa (by omega))
   have:=b' _ _ (Qa l') (Qa (by omega))
   omega
 ·rcases h' with⟨rfl,a⟩|⟨k',rfl,l',b',c'⟩
  ·have:=a k _ _ (Qa l) (Qa (by omega))
   have:=b _ _ (Qa l) (Qa (by omega))
   omega
  ·have e:k=k':=by
    rcases Nat.lt_trichotomy k k' with h|h|h
    ·have:=c' k h _ _ (Qa l) (Qa (by omega))
     have:=b _ _ (Qa l) (Qa (by omega))
     omega
    ·exact h
    ·have:=c k' h _ _ (Qa l') (Qa (by omega))
     have:=b' _ _ (Qa l') (Qa (by omega))
     omega
   rw[e]
def Zj2(K:PySem.W.Frag):Sp:=fun vs H Q _=>∃ (a:Addr) (ss:List Str),vs=[.ref a]∧SqL K H a (ss.map V.str)∧ss.length≤200∧(∀s∈ss,s.length≤1000)∧∀ (v:V) (H':Hp),Zhe ss v→ZD H H'→Q v H'
theorem ZkG(T:Zay K mg cRow cMerge)(f_liken:Df P w K mg base 3 "liken" ["one", "other"] Zf6):Df P w K mg base 4 "first_break" ["keys"] (Zj2 K):=by
 refine T.t_first_break.df Zcp (fun vs H Q E h=>?_) (fun cdv f A outer s H vs Q E hr h=>?_)
 ·obtain⟨a,ss,rfl,_⟩:=h
  rfl
 obtain⟨a,ss,rfl,hS,hn,hlen,q⟩:=h
 refine⟨_,#[Zg,#[Zb4,PassesOwn.never,(@Zjn _ _ _ _ _ _ _ rfl T.b.n_range #[Za,#[Zh],#[Za,#[Zm,(Zc7 K),T.b.n_len,QD,#[Za,‹0›,#[Ze]]],#[Ze]]] (by rfl) (by rfl)),#[ZJ,1,Zcp.nd,(Or.inl rfl)],#[Zi,#[Zaz,#[Zs,ZeT,#[ZM,f_liken,hr,#[Za,#[ZG,(ixL K),‹0›,‹1›],#[Za,#[ZG,(ixL K),‹0›,#[ZW,Zga,‹1›,#[Zh]]],#[Ze]]],(by rfl)],#[Zh],(Zx _)],#[Zi,#[Zr,‹1›]],(@ZU _)]]],#[Zi,#[Zr,#[Zad]]]],?_⟩
 have hl:(((ss.map V.str).length:Nat):Int)=(ss.length:Int):=by rw[Qb]
 refine⟨_,rfl,a,_,rfl,.inl hS,_,_,rfl,⟨by omega,by omega,by omega,by omega⟩,?_⟩
 refine ZcK (fun i σ H2=>(∃v:Option V,σ=[some (.ref a),v])∧ZD H H2∧∀j,j<i→∀x y,ss[j+1]? = some x→ss[j]? = some y→0≤ZA (cds x) (cds y)) ⟨⟨none,rfl⟩,ZD.refl H,fun j h=>by omega⟩ ?_ ?_
 ·rintro i σ H2 hi ⟨⟨v,rfl⟩,s2,h2⟩
  have hi1:i+1<ss.length:=by omega
  have e1:(1+(i:Int))=((i+1:Nat):Int):=by omega
  have e0:(1+(i:Int)-1)=((i:Nat):Int):=by omega
  refine⟨_,rfl,_,rfl,xw4 a _ _ _ ⟨rfl,rfl,s2.seq hS,(by rw[e1];exact Zid hi1),_,rfl,_,rfl,_,_,rfl,rfl,xw4 a _ _ _ ⟨rfl,rfl,s2.seq hS,(by rw[e0];exact Zid (by omega)),ss[i+1],ss[i],rfl,hlen _ (QS hi1),hlen _ (QS (by omega)),_,_,rfl,rfl,_,rfl,?_⟩⟩⟩
  refine Zbx (fun d=>?_) (fun d=>?_)
  ·have d':ZA (cds ss[i+1]) (cds ss[i])<0:=of_decide_eq_true d
   refine⟨_,rfl,q _ H2 (.inr ⟨i,by rw[e1],hi1,fun x y h1 h0=>?_,h2⟩) s2⟩
   rw[Qa hi1]at h1
   rw[Qa (by omega)]at h0
   cases h1;cases h0
   omega
  ·have d':¬ ZA (cds ss[i+1]) (cds ss[i])<0:=fun z=>d (decide_eq_true z)
   refine⟨⟨_,rfl⟩,s2,fun j hj x y h1 h0=>?_⟩
   by_cases ej:j=i
   ·subst ej
    rw[Qa hi1]at h1
    rw[Qa (by omega)]at h0
    cases h1;cases h0
    omega
   ·exact h2 j (by omega) x y h1 h0
 ·rintro σ H2 ⟨⟨v,rfl⟩,s2,h2⟩
  refine q _ H2 (.inl ⟨rfl,fun j x y h1 h0=>?_⟩) s2
  have:=(Qg.mp h1).1
  exact h2 j (by omega) x y h1 h0
def ZdH(K:PySem.W.Frag)(tup:Bool):Sp:=fun vs H Q _=>∃ (a:Addr) (ns:List Int),vs=[.ref a]∧SqL K H a (ns.map V.int)∧ns.length≤100 ∧
 ∀ (t f r:Addr) (H':Hp),H t=none→H f=none→H r=none→f≠r→H' t=some (if tup=true then .tup [.ref f,.ref r] else .lst [.ref f,.ref r])→H' f=some (.lst ((ZcT ns).map V.int))→H' r=some (.lst ((Ze8 ns).map V.int))→ZD H H'→t≠f→t≠r→Q (.ref t) H'
theorem ZkJ{H:Hp}{f r t:Addr}{A B T:HO}(hf:H f=none)(hr:(upd H f A) r=none)(ht:(upd (upd H f A) r B) t=none) :
  H r=none∧H t=none∧f≠r∧t≠f∧t≠r∧(upd (upd (upd H f A) r B) t T) f=some A∧(upd (upd (upd H f A) r B) t T) r=some B∧ZD H (upd (upd (upd H f A) r B) t T):=by
 have n1:f≠r:=Zb (H:=upd H f A) (o:=A) Zd hr
 have e1:(upd (upd H f A) r B) f=some A:=by rw[Zc n1];exact Zd
 have n2:f≠t:=Zb e1 ht
 have n3:r≠t:=Zb (H:=upd (upd H f A) r B) (o:=B) Zd ht
 have s1:ZD H (upd H f A):=Zj hf _
 have s2:=s1.trans (Zj hr B)
 have s3:=s2.trans (Zj ht T)
 exact⟨s1.free hr,s2.free ht,n1,n2.symm,n3.symm,by rw[Zc n2];exact e1,by rw[Zc n3];exact Zd,s3⟩
theorem Zjo(T:Zay K mg cRow cMerge):Df P w K mg base 1 "halves" ["numbers"] (ZdH K true):=by
 refine T.t_halves.df ZfM (fun vs H Q E h=>?_) (fun cdv f A outer s H vs Q E hr h=>?_)
 ·obtain⟨a,ns,rfl,_⟩:=h
  rfl
 obtain⟨a,ns,rfl,hS,hn,q⟩:=h
 refine⟨_,#[Zg,#[Zz,1,ZfM.nd,(Or.inl rfl),#[ZW,ZfU,#[ZW,ZaP,#[Zm,(Zc7 K),T.b.n_len,QD,#[Za,‹0›,#[Ze]]],#[Zh]],#[Zh]]],#[Zi,#[Zr,#[ZaV,#[Za,#[ZbV,(slL K),‹0›,(@Zdn _),(@Zb5 _ _ _ ‹1›)],#[Za,#[ZbV,(slL K),‹0›,(@Zb5 _ _ _ ‹1›),(@Zdn _)],#[Ze]]]]]]],?_⟩
 refine⟨_,rfl,a,_,rfl,.inl hS,_,_,rfl,rfl,_,_,rfl,rfl,⟨by decide,by decide⟩,?_⟩
 have hm:mid ns≤ns.length∨ns=[]:=by
  cases ns with
  | nil=>exact .inr rfl
  | cons x r=>left;unfold mid;rw[QH];omega
 have hml:mid ns≤ns.length:=by
  rcases hm with h|h
  ·exact h
  ·subst h;decide
 have em:=ZlU ns
 simp only[em]
 refine⟨_,rfl,_,rfl,_,rfl,a,_,rfl,hS,fun l hl=>?_⟩
 refine⟨_,rfl,_,rfl,_,rfl,a,_,rfl,(Zj hl _).seq hS,fun r hr0=>⟨(by show 2≤sizeLine;decide),fun t ht=>?_⟩⟩
 rw[ZnD ns _ hml]at hr0 ht ⊢
 rw[Zj1 ns _ hml]at ht ⊢
 obtain⟨z1,z2,z3,z4,z5,z6,z7,z8⟩:=ZkJ (T:=.tup [.ref l,.ref r]) hl hr0 ht
 exact q t l r _ z2 hl z1 z3 Zd z6 z7 z8 z4 z5
def ZhD:Sp:=fun vs H Q _=>∃ (p:Addr) (c:Int),vs=[.ref p]∧Zar H p c∧c<2 ^ 50∧∀ (v c':Int) (H':Hp),0≤v→v≤12→Zar H' p c'→c≤c'→c'≤c+3→But p H H'→Q (.int v) H'
theorem Zmo(T:Zay K mg cRow cMerge)(f_l_pick:Df P w K mg base 2 "_law_pick" ["_law_left_here", "_law_many_here"] Zc5):Df P w K mg base 3 "_law_many" ["_law_left_here"] ZhD:=by
 refine T.t_l_many.df Zfh (fun vs H Q E h=>?_) (fun cdv f A outer s H vs Q E hr h=>?_)
 ·obtain⟨p,c,rfl,_⟩:=h
  rfl
 obtain⟨p,c,rfl,hL,c1,q⟩:=h
 refine⟨_,#[Zg,#[Zz,1,Zfh.nd,(Or.inl rfl),#[ZM,f_l_pick,hr,#[Za,‹0›,#[Za,#[Zh],#[Ze]]],(by rfl)]],#[Zi,#[Zr,#[ZG,(ixL K),#[ZaJ,#[Za,#[Zh],#[Za,#[Zh],#[Za,#[Zh],#[Za,#[Zh],#[Za,#[Zh],#[Za,#[Zh],#[Za,#[ZM,f_l_pick,hr,#[Za,‹0›,#[Za,#[Zh],#[Ze]]],(by rfl)],#[Za,#[ZW,ZaP,#[Zh],#[ZM,f_l_pick,hr,#[Za,‹0›,#[Za,#[Zh],#[Ze]]],(by rfl)]],#[Ze]]]]]]]]]],‹1›]]]],?_⟩
 have c0:=hL.ge
 refine⟨_,rfl,p,c,_,rfl,hL,by omega,by decide,by decide,fun wy H1 w0 w1 L1 B1=>?_⟩
 refine⟨_,rfl,p,c+1,_,rfl,L1,by omega,by decide,by decide,fun d1 H2 d10 d11 L2 B2=>?_⟩
 refine⟨_,rfl,p,c+1+1,_,rfl,L2,by omega,by decide,by decide,fun d2 H3 d20 d21 L3 B3=>⟨_,_,rfl,rfl,(by show 8≤sizeLine;decide),fun e he=>?_⟩⟩
 obtain⟨v,hv,hat⟩:=Zes (ns:=[2,3,4,5,6,3,d1,7+d2]) w0 w1
 have hv1:0≤v∧v≤12:=by
  simp only[List.mem_cons,List.not_mem_nil,or_false]at hv
  omega
 exact⟨_,rfl,xw4 e _ _ _ ⟨rfl,rfl,SqL.of Zd,hat,q v _ _ hv1.1 hv1.2 (L3.new he) (by omega) (by omega) (((B1.trans B2).trans B3).trans (But.same (Zj he _)))⟩⟩
theorem Za8(f:Str)(v:V):∀fs:List (Str×V),(Zl f v fs).length≤fs.length+1
 | []=>Qf _
 | p::r=>by
  unfold Zl
  split
  ·exact Qay _
  ·exact Nat.succ_le_succ (Za8 f v r)
def ZbF(k f:Addr)(g:Int):List (Str×V):=Zl "gone" (.int g) (Zl "fars" (.ref f) (Zl "all_keys" (.ref k) []))
theorem nGF:¬ (("fars" : Str) = "gone"):=by ac_rfl
theorem nGK:¬ (("all_keys" : Str) = "gone"):=by ac_rfl
theorem nFK:¬ (("all_keys" : Str) = "fars"):=by ac_rfl
theorem Zd3(k f:Addr)(g:Int):(ZbF k f g).lookup ("all_keys" : Str)=some (.ref k):=by
 unfold ZbF
 rw[Zk,if_neg nGK,Zk,if_neg nFK,Zk,if_pos rfl]
theorem ZbO(k f:Addr)(g:Int):(ZbF k f g).lookup ("gone" : Str)=some (.int g):=by
 unfold ZbF
 rw[Zk,if_pos rfl]
theorem Zgg(k f:Addr)(g:Int){m:Str}(h1:¬ m = "gone")(h2:¬ m = "fars")(h3:¬ m = "all_keys"):(ZbF k f g).lookup m=none:=by
 unfold ZbF
 rw[Zk,if_neg h1,Zk,if_neg h2,Zk,if_neg h3]
 rfl
structure Ziv (C:Addr) (H:Hp) (p k f:Addr) (ss:List Str) (g:Nat):Prop where
 ob:∃dx,H p=some (.ins C dx (ZbF k f g))
 ks:H k=some (.lst (ss.map V.str))
 fs:H f=some (.lst ((List.range ss.length).map fun j=>.int (ZbN ss j)))
def ZhC(C:Addr):Sp:=fun vs H Q _=>∃ (p k f:Addr) (ss:List Str) (g:Nat),vs=[.ref p]∧Ziv C H p k f ss g∧Q (.int ((ss.length:Int)-(g:Int))) H
theorem ZlG(T:Zay K mg cRow cMerge):Mf P w K mg base 1 cRow "to_go" ["self"] (ZhC cRow):=by
 refine T.t_Row_to_go.mf Zgo (fun vs H Q E h=>?_) (fun cdv f A outer s H vs Q E hr h=>?_)
 ·obtain⟨p,k,f,ss,g,rfl,_⟩:=h
  rfl
 obtain⟨p,k,f,ss,g,rfl,R,q⟩:=h
 refine⟨_,#[Zi,#[Zr,#[ZW,Zga,#[Zm,(Zc7 K),T.b.n_len,QD,#[Za,#[Z0,‹0›],#[Ze]]],#[Z0,‹0›]]]],?_⟩
 obtain⟨⟨dx,ho⟩,hk,hf⟩:=R
 refine⟨_,rfl,xw5 p cRow dx _ _ ⟨rfl,ho,T.cl_Row,T.na_Row_all_keys,Zd3 _ _ _,k,_,rfl,.inl (SqL.of hk),_,rfl,xw5 p cRow dx _ _ ⟨rfl,ho,T.cl_Row,T.na_Row_gone,ZbO _ _ _,_,_,rfl,rfl,?_⟩⟩⟩
 rw[Qb]
 exact q
def ZdA(ss:List Str)(g:Nat):V:=match ss[g]? with
 | some z=>.str z
 | none=>.non
def ZeG(C:Addr):Sp:=fun vs H Q _=>∃ (p k f:Addr) (ss:List Str) (g:Nat),vs=[.ref p]∧Ziv C H p k f ss g∧Q (ZdA ss g) H
theorem Zmg(T:Zay K mg cRow cMerge)(f_Row_to_go:Mf P w K mg base 1 cRow "to_go" ["self"] (ZhC cRow)):Mf P w K mg base 2 cRow "head" ["self"] (ZeG cRow):=by
 refine T.t_Row_head.mf Zhm (fun vs H Q E h=>?_) (fun cdv f A outer s H vs Q E hr h=>?_)
 ·obtain⟨p,k,f,ss,g,rfl,_⟩:=h
  rfl
 obtain⟨p,k,f,ss,g,rfl,R,q⟩:=h
 refine⟨_,#[Zi,#[Zr,#[Zbb,#[Zs,Zg2,#[Zbo,f_Row_to_go,T.cl_Row,hr,‹0›],#[Zh],(Zx _)],#[ZG,(ixL K),#[Z0,‹0›],#[Z0,‹0›]],#[Zad]]]],?_⟩
 obtain⟨⟨dx,ho⟩,hk,hf⟩:=id R
 refine⟨_,rfl,p,dx,_,rfl,ho,Zgg _ _ _ (by ac_rfl) (by ac_rfl) (by ac_rfl),p,k,f,ss,g,rfl,R,_,_,rfl,rfl,_,rfl,?_⟩
 refine Zbx (fun d=>?_) (fun d=>?_)
 ·have d':(0:Int)<(ss.length:Int)-(g:Int):=of_decide_eq_true d
  have hg:g<ss.length:=by omega
  refine⟨_,rfl,xw5 p cRow dx _ _ ⟨rfl,ho,T.cl_Row,T.na_Row_all_keys,Zd3 _ _ _,_,rfl,xw5 p cRow dx _ _ ⟨rfl,ho,T.cl_Row,T.na_Row_gone,ZbO _ _ _,k,_,_,_,rfl,rfl,SqL.of hk,Zat (by rw[Qu,Qa hg]<;>rfl),?_⟩⟩⟩
  unfold ZdA at q
  rw[Qa hg]at q
  exact q
 ·have d':¬ (0:Int)<(ss.length:Int)-(g:Int):=fun z=>d (decide_eq_true z)
  unfold ZdA at q
  rw[Qai (by omega)]at q
  exact q
def ZfO(C:Addr):Sp:=fun vs H Q _=>∃ (p dx a:Addr) (ss:List Str),vs=[.ref p,.ref a]∧H p=some (.ins C dx [])∧H a=some (.lst (ss.map V.str))∧ss.length≤100∧(∀s∈ss,s.length≤1000) ∧
 ∀ (k f:Addr) (H':Hp),H k=none→H f=none→k≠f→Ziv C H' p k f ss 0→(∀b o,H b=some o→b≠p→H' b=some o)→Q .non H'
theorem ZhE(T:Zay K mg cRow cMerge)(f_alikes:Df P w K mg base 3 "alikes" ["row"] (ZeB K)):Cf P w K mg base 4 cRow "Row" ["self", "keys"] (ZfO cRow):=by
 refine T.t_Row_init.cf ZgS (fun vs H Q E h=>?_) (fun cdv f A outer s H vs Q E hr h=>?_)
 ·obtain⟨p,dx,a,ss,rfl,_⟩:=h
  rfl
 obtain⟨p,dx,a,ss,rfl,hp,ha,hn,hz,q⟩:=h
 refine⟨_,#[Zg,#[Zbc,‹0›,#[ZcN,(Zou K),T.b.n_list,boot_list,#[Za,‹1›,#[Ze]]]],#[Zg,#[Zbc,‹0›,#[ZM,f_alikes,hr,#[Za,‹1›,#[Ze]],(by rfl)]],#[Zi,#[Zbc,‹0›,#[Zh]]]]],?_⟩
 refine⟨_,rfl,a,_,rfl,.inl (SqL.of ha),fun k hk=>?_⟩
 have npk:p≠k:=Zb hp hk
 have nap:a≠p:=fun e=>by rw[e,hp]at ha;cases ha
 have nak:a≠k:=Zb ha hk
 refine⟨_,rfl,p,cRow,dx,[],rfl,(by rw[Zc npk];exact hp),T.cl_Row,T.na_Row_all_keys,(by show 0<1000;decide),?_⟩
 have ha2:(upd (upd H k (.lst (ss.map V.str))) p (.ins cRow dx (Zl "all_keys" (.ref k) []))) a=some (.lst (ss.map V.str)):=by rw[Zc nap,Zc nak];exact ha
 have hp2:(upd (upd H k (.lst (ss.map V.str))) p (.ins cRow dx (Zl "all_keys" (.ref k) []))) p=some (.ins cRow dx (Zl "all_keys" (.ref k) [])):=Zd
 have hk2:(upd (upd H k (.lst (ss.map V.str))) p (.ins cRow dx (Zl "all_keys" (.ref k) []))) k=some (.lst (ss.map V.str)):=by rw[Zc npk.symm];exact Zd
 have s2:∀b o,H b=some o→b≠p→(upd (upd H k (.lst (ss.map V.str))) p (.ins cRow dx (Zl "all_keys" (.ref k) []))) b=some o:=fun b o h n=>by rw[Zc n,Zc (Zb h hk)];exact h
 refine⟨_,rfl,a,ss,rfl,SqL.of ha2,hn,hz,fun f H3 hf0 hf3 s3=>?_⟩
 have hHf:H f=none:=by
  cases w':H f with
  | none=>rfl
  | some u =>
   by_cases e:f=p
   ·rw[e,hp2]at hf0;cases hf0
   ·rw[s2 f u w' e]at hf0;cases hf0
 have nkf:k≠f:=Zb hk2 hf0
 have npf:p≠f:=Zb hp2 hf0
 refine⟨_,rfl,xw4 p cRow dx _ ⟨rfl,s3 _ _ hp2,T.cl_Row,T.na_Row_fars,(by show 1<1000;decide),?_⟩⟩
 refine⟨_,rfl,xw4 p cRow dx _ ⟨rfl,Zd,T.cl_Row,T.na_Row_gone,?_,?_⟩⟩
 ·have h1:=Za8 "all_keys" (V.ref k) []
  have h2:=Za8 "fars" (V.ref f) (Zl "all_keys" (V.ref k) [])
  have h3:([]:List (Str×V)).length=0:=rfl
  omega
 ·refine q k f _ hk hHf nkf ⟨⟨dx,Zd⟩,?_,?_⟩ fun b o h n=>?_
  ·rw[Zc npk.symm,Zc npk.symm];exact s3 _ _ hk2
  ·rw[Zc npf.symm,Zc npf.symm];exact hf3
  ·rw[Zc n,Zc n];exact s3 _ _ (s2 b o h n)
theorem ZjH{K:PySem.W.Frag}{a:Addr}{xs:List V}{k:Nat}{D:Addr}{σ:L2.St}{H1:Hp}{g:TG}{te:TE}{Q:VK}(Pv:Nat→List V→L2.St→Hp→Prop)(h0:Pv 0 [] (σ++List.replicate k none) (upd H1 D (.lst [])))
  (hl:∀i ys σ H,Pv i ys σ H→SqL K H a xs)
  (hs:∀i x ys σ H,xs[i]? = some x→Pv i ys σ H→g x σ H fun σ4 H4=>te σ4 H4 fun y H6=>H6 D=some (.lst ys)∧ys.length<sizeLine∧Pv (i+1) (ys++[y]) σ4 (upd H6 D (.lst (ys++[y]))))
  (hd:∀ys σ H,Pv xs.length ys σ H→Q (.ref D) H):ZdN (Itl K a) D k σ H1 g Zh2 te Q:=by
 refine⟨fun i m ys σ H=>m=xs.length-i∧i≤xs.length∧Pv i ys σ H,⟨xs.length,by simp,Qv _,h0⟩,?_⟩
 rintro i m ys σ H ⟨rfl,hi,p⟩
 have q1:=hl i ys σ H p
 by_cases hlt:i<xs.length
 ·refine .inr ⟨⟨xs,xs[i],q1,Qa hlt⟩,Pv (i+1),fun ys' σ' H' p'=>⟨xs.length-(i+1),by omega,rfl,hlt,p'⟩,fun x H' y=>?_⟩
  obtain⟨rfl,e⟩:=y
  simp only[Zh2,↓reduceIte]
  exact hs i x ys σ _ (e xs q1) p
 ·have e:i=xs.length:=by omega
  exact .inl ⟨⟨xs,q1,by omega⟩,hd ys σ H (e ▸ p)⟩
theorem ZdY:∀x y:List Nat,x<y↔ZA x y<0
 | [],[]=>by unfold ZA;exact⟨fun h=>absurd h (by simp),fun h=>absurd h (by omega)⟩
 | [],_::_=>by unfold ZA;exact⟨fun _=>by omega,fun _=>List.nil_lt_cons _ _⟩
 | _::_,[]=>by unfold ZA;exact⟨fun h=>absurd h (List.not_lt_nil _),fun h=>absurd h (by omega)⟩
 | a::r,b::s=>by
  have ih:=ZdY r s
  unfold ZA
  rw[List.cons_lt_cons_iff]
  by_cases e:a=b
  ·rw[if_pos e,← ih]
   exact⟨fun h=>h.elim (fun z=>by omega) (fun z=>z.2),fun h=>.inr ⟨e,h⟩⟩
  ·rw[if_neg e]
   by_cases l:a<b
   ·rw[if_pos l];exact⟨fun _=>by omega,fun _=>.inl l⟩
   ·rw[if_neg l];exact⟨fun h=>h.elim (fun z=>absurd z l) (fun z=>absurd z.1 e),fun h=>absurd h (by omega)⟩
abbrev Hd:=Int→Option (List Nat)
def Btr(x:List Nat)(a:Int)(y:List Nat)(b:Int):Prop:=ZA x y<0∨(ZA x y=0∧a<b)
def Win(hd:Hd)(N:List Int):Option Int→Prop
 | none=>∀n∈N,hd n=none
 | some a=>a∈N∧∃x,hd a=some x∧∀b∈N,∀y,hd b=some y→b=a∨Btr x a y b
theorem Btr.asym{x y:List Nat}{a b:Int}(h:Btr x a y b)(g:Btr y b x a):False:=by
 have e:=ZaK x y
 rcases h with h|⟨h,h2⟩<;>rcases g with g|⟨g,g2⟩<;>omega
theorem Btr.total{x y:List Nat}{a b:Int}(h:a≠b):Btr x a y b∨Btr y b x a:=by
 have e:=ZaK x y
 unfold Btr
 omega
theorem Btr.trans{x y z:List Nat}{a b c:Int}(h:Btr x a y b)(g:Btr y b z c):Btr x a z c:=by
 have t1:=Zbs x y z
 have t2:=Zbs z x y
 have t3:=Zbs y z x
 have e1:=ZaK x y
 have e2:=ZaK y z
 have e3:=ZaK x z
 unfold Btr at *
 omega
theorem Win.one{hd:Hd}{N:List Int}{v w:Option Int}(h:Win hd N v)(g:Win hd N w):v=w:=by
 cases v with
 | none =>
  cases w with
  | none=>rfl
  | some b=>obtain⟨hb,y,hy,_⟩:=g;rw[h b hb]at hy;cases hy
 | some a =>
  obtain⟨ha,x,hx,h2⟩:=h
  cases w with
  | none=>rw[g a ha]at hx;cases hx
  | some b =>
   obtain⟨hb,y,hy,g2⟩:=g
   rcases h2 b hb y hy with e|e
   ·rw[e]
   ·rcases g2 a ha x hx with e'|e'
    ·rw[e']
    ·exact(e.asym e').elim
theorem Win.nil(hd:Hd):Win hd [] none:=fun n h=>by cases h
theorem Win.sing{hd:Hd}{n:Int}:Win hd [n] (if (hd n).isSome then some n else none):=by
 cases h:hd n with
 | none=>intro m hm;rw[Ql.mp hm];exact h
 | some x=>exact⟨by simp,x,h,fun b hb y hy=>.inl (Ql.mp hb)⟩
theorem Win.both{hd:Hd}{A B:List Int}{a b:Int}{x y:List Nat}(ha:Win hd A (some a))(hb:Win hd B (some b))(hx:hd a=some x)(hy:hd b=some y)(h:Btr x a y b):Win hd (A++B) (some a):=by
 obtain⟨a1,x',hx',a2⟩:=ha
 obtain⟨b1,y',hy',b2⟩:=hb
 rw[hx]at hx';cases hx'
 rw[hy]at hy';cases hy'
 refine⟨QB _ a1,x,hx,fun c hc z hz=>?_⟩
 rcases Qk.mp hc with hc|hc
 ·exact a2 c hc z hz
 ·rcases b2 c hc z hz with e|e
  ·subst e;rw[hy]at hz;cases hz;exact .inr h
  ·exact .inr (h.trans e)
theorem Win.both'{hd:Hd}{A B:List Int}{a b:Int}{x y:List Nat}(ha:Win hd A (some a))(hb:Win hd B (some b))(hx:hd a=some x)(hy:hd b=some y)(h:Btr y b x a):Win hd (A++B) (some b):=by
 have:=Win.both hb ha hy hx h
 obtain⟨h1,z,h2,h3⟩:=this
 exact⟨by rcases Qk.mp h1 with h|h<;>simp[h],z,h2,fun c hc=>h3 c (by rcases Qk.mp hc with h|h<;>simp[h])⟩
theorem Win.left{hd:Hd}{A B:List Int}{w:Option Int}(ha:Win hd A w)(hb:Win hd B none):Win hd (A++B) w:=by
 cases w with
 | none=>intro n hn;rcases Qk.mp hn with h|h;exact ha n h;exact hb n h
 | some a =>
  obtain⟨a1,x,hx,a2⟩:=ha
  refine⟨QB _ a1,x,hx,fun c hc z hz=>?_⟩
  rcases Qk.mp hc with hc|hc
  ·exact a2 c hc z hz
  ·rw[hb c hc]at hz;cases hz
theorem Win.right{hd:Hd}{A B:List Int}{w:Option Int}(ha:Win hd A none)(hb:Win hd B w):Win hd (A++B) w:=by
 cases w with
 | none=>intro n hn;rcases Qk.mp hn with h|h;exact ha n h;exact hb n h
 | some a =>
  obtain⟨a1,x,hx,a2⟩:=hb
  refine⟨Qh _ a1,x,hx,fun c hc z hz=>?_⟩
  rcases Qk.mp hc with hc|hc
  ·rw[ha c hc]at hz;cases hz
  ·exact a2 c hc z hz
theorem Win.ex(hd:Hd):∀N:List Int,N.Nodup→∃w,Win hd N w
 | [],_=>⟨none,Win.nil hd⟩
 | n::N,hn=>by
  obtain⟨n1,n2⟩:=Q3.mp hn
  obtain⟨w,hw⟩:=Win.ex hd N n2
  have hs:Win hd [n] (if (hd n).isSome then some n else none):=Win.sing
  cases h:hd n with
  | none =>
   rw[h]at hs
   exact⟨w,Win.right (A:=[n]) hs hw⟩
  | some x =>
   rw[h]at hs
   cases w with
   | none=>exact⟨some n,Win.left (A:=[n]) hs hw⟩
   | some b =>
    obtain⟨b1,y,hy,b2⟩:=id hw
    have hne:n≠b:=fun e=>n1 (e ▸ b1)
    rcases Btr.total (x:=x) (y:=y) hne with e|e
    ·exact⟨some n,Win.both (A:=[n]) hs hw h hy e⟩
    ·exact⟨some b,Win.both' (A:=[n]) hs hw h hy e⟩
theorem Win.congr{hd hd':Hd}{N:List Int}(h:∀n∈N,hd' n=hd n){w:Option Int}(hw:Win hd N w):Win hd' N w:=by
 cases w with
 | none=>intro n hn;rw[h n hn];exact hw n hn
 | some a =>
  obtain⟨a1,x,hx,a2⟩:=hw
  exact⟨a1,x,by rw[h a a1];exact hx,fun b hb y hy=>a2 b hb y (by rw[← h b hb];exact hy)⟩
def lo(N:List Int):List Int:=N.take (mid N)
def up(N:List Int):List Int:=N.drop (mid N)
theorem Zbr(N:List Int):lo N++up N=N:=QZ _ _
theorem Zcr{N:List Int}(h:2≤N.length):(lo N).length<N.length∧1≤(lo N).length:=by
 unfold lo mid
 rw[Qr]
 omega
theorem Zdf{N:List Int}(h:2≤N.length):(up N).length<N.length∧1≤(up N).length:=by
 unfold up mid
 rw[Qp]
 omega
def ZE(N:List Int):Int×Int:=(N.headD 0,N.getLastD 0)
abbrev StL:=List ((Int×Int)×Option (Addr×Int×Int))
def stV:Option (Addr×Int×Int)→V
 | none=>.non
 | some t=>.ref t.1
def kvS(s:StL):List (List Key×V):=s.map fun e=>([.inl e.1.1,.inl e.1.2],stV e.2)
def AtS(H:Hp)(s:StL):Prop:=∀e∈s,∀t,e.2=some t→H t.1=some (.tup [.int t.2.1,.int t.2.2])
def ZK(s:StL)(k:Int×Int):Option (Option (Addr×Int×Int)):=(s.find? fun e=>decide (e.1=k)).map (·.2)
def ZbQ(s:StL)(k:Int×Int)(v:Option (Addr×Int×Int)):StL:=if s.any (fun e=>decide (e.1=k)) then s.map (fun e=>if e.1=k then (e.1,v) else e) else s++[(k,v)]
theorem AtS.mono{H H':Hp}{s:StL}(h:AtS H s)(k:∀a xs,H a=some (.tup xs)→H' a=some (.tup xs)):AtS H' s:=fun e he t ht=>k _ _ (h e he t ht)
theorem ZhY{a b:Int×Int}(h:([.inl a.1,.inl a.2]:List Key)=[.inl b.1,.inl b.2]):a=b:=by
 obtain⟨a1,a2⟩:=a
 obtain⟨b1,b2⟩:=b
 injection h with h1 h2
 injection h2 with h2 _
 have e1:=Sum.inl.inj h1
 have e2:=Sum.inl.inj h2
 simp only at e1 e2
 rw[e1,e2]
theorem Zg1(k:Int×Int):∀s:StL,Za0 (kvS s) [.inl k.1,.inl k.2]=(ZK s k).map stV
 | []=>rfl
 | e::s=>by
  have ih:=Zg1 k s
  by_cases h:e.1=k
  ·unfold kvS ZK
   rw[Qe,ZcB (by rw[h])]
   simp[List.find?_cons,h]
  ·unfold kvS at ih ⊢
   rw[Qe,Zcy (fun z=>h (ZhY z)),ih]
   unfold ZK
   simp[List.find?_cons,h]
theorem Zmp(k:Int×Int)(s:StL):((kvS s).any fun kv=>decide (kv.1=([.inl k.1,.inl k.2]:List Key)))=s.any fun e=>decide (e.1=k):=by
 unfold kvS
 rw[List.any_map]
 congr 1
 funext e
 simp only[Function.comp]
 by_cases h:e.1=k
 ·rw[decide_eq_true h,decide_eq_true (by rw[h])]
 ·rw[decide_eq_false h,decide_eq_false (fun z=>h (ZhY z))]
theorem Zeo(s:StL)(k:Int×Int)(v:Option (Addr×Int×Int)):Zce (kvS s) [.inl k.1,.inl k.2] (stV v)=kvS (ZbQ s k v):=by
 unfold Zce ZbQ
 rw[Zmp]
 split
 ·unfold kvS
  rw[QF,QF]
  congr 1
  funext e
  simp only[Function.comp]
  by_cases h:e.1=k
  ·rw[if_pos h,if_pos (by rw[h])]
  ·rw[if_neg h,if_neg (fun z=>h (ZhY z))]
 ·unfold kvS;rw[Qj];rfl
theorem Zlk(s:StL)(k:Int×Int)(v:Option (Addr×Int×Int)):(ZbQ s k v).length≤s.length+1:=by
 unfold ZbQ
 split
 ·rw[Qb];omega
 ·rw[Qd];exact Qf _
theorem Zax(s:StL)(k j:Int×Int)(v:Option (Addr×Int×Int)):ZK (ZbQ s k v) j=if j=k then some v else ZK s j:=by
 unfold ZbQ
 split
 ·rename_i h
  induction s with
  | nil=>simp at h
  | cons e s ih =>
   unfold ZK at ih ⊢
   by_cases hek:e.1=k
   ·by_cases hj:j=k
    ·subst hj;simp[List.find?_cons,hek]
    ·have hj':¬ k=j:=fun z=>hj z.symm
     rw[Qe,if_pos hek,Qaq (by simp[hek,hj']),Qaq (by simp[hek,hj']),if_neg hj]
     by_cases ha:s.any (fun e=>decide (e.1=k))=true
     ·have:=ih ha;rw[if_neg hj]at this;exact this
     ·have:s.map (fun e=>if e.1=k then (e.1,v) else e)=s:=by
       rw[List.map_eq_iff]
       intro i
       cases hi:s[i]? with
       | none=>rfl
       | some x =>
        have hx:¬ x.1=k:=fun z=>ha (List.any_eq_true.mpr ⟨x,QM hi,by simpa using z⟩)
        simp[hx]
      rw[this]
   ·have ha:s.any (fun e=>decide (e.1=k))=true:=by simpa [hek] using h
    rw[Qe,if_neg hek]
    by_cases hj:e.1=j
    ·have:¬ j=k:=fun z=>hek (hj.trans z)
     rw[List.find?_cons_of_pos (by simpa using hj),List.find?_cons_of_pos (by simpa using hj),if_neg this]
    ·rw[Qaq (by simpa using hj),Qaq (by simpa using hj)]
     exact ih ha
 ·rename_i h
  unfold ZK
  rw[List.find?_append]
  by_cases hj:j=k
  ·subst hj
   have:s.find? (fun e=>decide (e.1=j))=none:=by
    rw[List.find?_eq_none]
    intro x hx z
    exact h (List.any_eq_true.mpr ⟨x,hx,z⟩)
   rw[this];simp
  ·have hj':¬ k=j:=fun z=>hj z.symm
   rw[if_neg hj]
   simp[hj']
theorem AtS.put{H:Hp}{s:StL}{k:Int×Int}{v:Option (Addr×Int×Int)}(h:AtS H s)(hv:∀t,v=some t→H t.1=some (.tup [.int t.2.1,.int t.2.2])):AtS H (ZbQ s k v):=by
 unfold ZbQ
 split
 ·intro e he t ht
  obtain⟨x,hx,rfl⟩:=QJ.mp he
  split at ht
  ·exact hv t ht
  ·exact h x hx t ht
 ·intro e he t ht
  rcases Qk.mp he with he|he
  ·exact h e he t ht
  ·rw[Ql.mp he]at ht;exact hv t ht
theorem Zfy{s:StL}{k:Int×Int}{v:Option (Addr×Int×Int)}(h:ZK s k=some v):(k,v)∈s:=by
 unfold ZK at h
 obtain⟨e,he,rfl⟩:=QaS.mp h
 have h1:=List.find?_some he
 have:e.1=k:=by simpa using h1
 rw[← this];exact List.mem_of_find?_eq_some he
def ZoP(hd:Hd)(s:StL)(N:List Int):Prop :=
 (∀a b x y,Win hd (lo N) (some a)→Win hd (up N) (some b)→hd a=some x→hd b=some y→∃t,ZK s (ZE N)=some (some (t,if ZA x y<0∨(ZA x y=0∧a<b) then b else a,((lcp x y:Nat):Int)))) ∧
 ((Win hd (lo N) none∨Win hd (up N) none)→ZK s (ZE N)=none∨ZK s (ZE N)=some none)
def Zea(hd:Hd)(s:StL):Nat→List Int→Prop
 | 0,_=>True
 | n+1,N=>2≤N.length→Zea hd s n (lo N)∧Zea hd s n (up N)∧ZoP hd s N
def Zdk:Nat→List Int→Int×Int→Prop
 | 0,_,_=>False
 | n+1,N,k=>2≤N.length∧(Zdk n (lo N) k∨Zdk n (up N) k∨k=ZE N)
abbrev Z8(N:List Int):Prop:=N.Pairwise (·<·)
theorem ZcO{N:List Int}(h:Z8 N):Z8 (lo N):=h.sublist (QaR _ _)
theorem ZcJ{N:List Int}(h:Z8 N):Z8 (up N):=h.sublist (QaV _ _)
theorem ZcR{N:List Int}(h:Z8 N):N.Nodup:=h.imp fun {a b} hab e=>by omega
theorem ZC{N:List Int}(h:Z8 N){a b:Int}(ha:a∈lo N)(hb:b∈up N):a<b:=by
 have:Z8 (lo N++up N):=by rw[Zbr];exact h
 exact(Q7.mp this).2.2 a ha b hb
theorem Zbi{N:List Int}(h:N≠[]):N.headD 0∈N:=by
 cases N with
 | nil=>exact absurd rfl h
 | cons a r=>simp
theorem Zbk{N:List Int}(h:N≠[]):N.getLastD 0∈N:=by
 rw[Qaj,QaJ h]
 exact List.getLast_mem h
theorem ZZ{N:List Int}(h:1≤N.length):N≠[]:=fun z=>by rw[z]at h;simp at h
theorem Zec{N:List Int}(h:2≤N.length):(ZE N).2=(up N).getLastD 0:=by
 have hu:=ZZ (Zdf h).2
 show N.getLastD 0=_
 rw[Qaj,Qaj]
 conv=>lhs;rw[← Zbr N]
 rw[List.getLast?_append,QaJ hu];rfl
theorem Zeb{N:List Int}(h:2≤N.length):(ZE N).1=(lo N).headD 0:=by
 have hl:=ZZ (Zcr h).2
 show N.headD 0=_
 conv=>lhs;rw[← Zbr N]
 cases hc:lo N with
 | nil=>exact absurd hc hl
 | cons a r=>rfl
theorem ZcH:∀ (n:Nat) (N:List Int) (k:Int×Int),Zdk n N k→k.1∈N∧k.2∈N
 | 0,_,_,h=>h.elim
 | n+1,N,k,⟨h2,h⟩=>by
  rcases h with h|h|rfl
  ·have:=ZcH n _ k h
   rw[← Zbr N]
   exact⟨QB _ this.1,QB _ this.2⟩
  ·have:=ZcH n _ k h
   rw[← Zbr N]
   exact⟨Qh _ this.1,Qh _ this.2⟩
  ·have hn:N≠[]:=ZZ (by omega)
   exact⟨Zbi hn,Zbk hn⟩
theorem Zgj{N:List Int}(hr:Z8 N)(h2:2≤N.length){n:Nat}{k:Int×Int}(h:Zdk n (lo N) k):k≠ZE N∧∀m,¬ Zdk m (up N) k:=by
 have:=ZcH n _ k h
 refine⟨fun z=>?_,fun m hm=>?_⟩
 ·have h1:=Zec h2
  rw[z,h1]at this
  have:=ZC hr this.2 (Zbk (ZZ (Zdf h2).2))
  omega
 ·have:=ZC hr this.1 (ZcH m _ k hm).1
  omega
theorem Zgu{N:List Int}(hr:Z8 N)(h2:2≤N.length){n:Nat}{k:Int×Int}(h:Zdk n (up N) k):k≠ZE N∧∀m,¬ Zdk m (lo N) k:=by
 have:=ZcH n _ k h
 refine⟨fun z=>?_,fun m hm=>?_⟩
 ·have h1:=Zeb h2
  rw[z,h1]at this
  have:=ZC hr (Zbi (ZZ (Zcr h2).2)) this.1
  omega
 ·have:=ZC hr (ZcH m _ k hm).1 this.1
  omega
theorem Zea.congr{hd hd':Hd}{s s':StL}:∀ (n:Nat) (N:List Int),(∀m∈N,hd' m=hd m)→(∀k,Zdk n N k→ZK s' k=ZK s k)→Zea hd s n N→Zea hd' s' n N
 | 0,_,_,_,_=>True.intro
 | n+1,N,hh,hk,h=>fun h2=>by
  obtain⟨a,b,c1,c2⟩:=h h2
  have hl:∀m∈lo N,hd' m=hd m:=fun m hm=>hh m (by rw[← Zbr N];exact QB _ hm)
  have hu:∀m∈up N,hd' m=hd m:=fun m hm=>hh m (by rw[← Zbr N];exact Qh _ hm)
  have hl':∀m∈lo N,hd m=hd' m:=fun m hm=>(hl m hm).symm
  have hu':∀m∈up N,hd m=hd' m:=fun m hm=>(hu m hm).symm
  refine⟨Zea.congr n _ hl (fun k hkk=>hk k ⟨h2,.inl hkk⟩) a,Zea.congr n _ hu (fun k hkk=>hk k ⟨h2,.inr (.inl hkk)⟩) b,fun a b x y ha hb hx hy=>?_,fun hw=>?_⟩
  ·rw[hk _ ⟨h2,.inr (.inr rfl)⟩]
   exact c1 a b x y (Win.congr hl' ha) (Win.congr hu' hb) (by rw[← hl a ha.1];exact hx) (by rw[← hu b hb.1];exact hy)
  ·rw[hk _ ⟨h2,.inr (.inr rfl)⟩]
   refine c2 ?_
   rcases hw with hw|hw
   ·exact .inl (Win.congr hl' hw)
   ·exact .inr (Win.congr hu' hw)
inductive Zds (hd:Hd):Nat→List Int→Int→Int→Prop
 | few {n:Nat} {N:List Int}:N.length<2→Zds hd n N 0 0
 | none {n:Nat} {N:List Int} {k l k' l':Int}:2≤N.length→Zds hd n (lo N) k l→Zds hd n (up N) k' l'→(Win hd (lo N) none∨Win hd (up N) none)→Zds hd (n+1) N (k+k') (l+l')
 | both {n:Nat} {N:List Int} {k l k' l':Int} {a b:Int} {x y:List Nat}:2≤N.length→Zds hd n (lo N) k l→Zds hd n (up N) k' l'→Win hd (lo N) (some a)→Win hd (up N) (some b)→hd a=some x→hd b=some y→Zds hd (n+1) N (k+k'+1) (l+l'+(lcp x y:Nat)+1)
def kk(e:Str×Int):List Key:=[.inr e.1,.inl e.2]
def oV:Option Str→V
 | none=>.non
 | some s=>.str s
def Zde:Option Int→V
 | none=>.non
 | some a=>.int a
def kvH(E:List (Int×Option Str)):List (Key×V):=E.map fun e=>(.inl e.1,oV e.2)
def lk(E:List (Int×Option Str))(n:Int):Option Str:=(E.find? fun e=>decide (e.1=n)).bind (·.2)
def hdE(E:List (Int×Option Str)):Hd:=fun n=>(lk E n).map cds
def prs(E:List (Int×Option Str))(N:List Int):List (Str×Int):=N.filterMap fun n=>(lk E n).map fun s=>(s,n)
def Zpq:Key→PyData
 | .inl i=>.int i
 | .inr s=>.str s
def tD(k:List Key):PyData:=.tuple (k.map Zpq)
structure Hds (H:Hp) (D:Addr) (E:List (Int×Option Str)):Prop where
 at':H D=some (.dK (kvH E))
 nd:(E.map (·.1)).Nodup
 ok:∀e∈E,∀s,e.2=some s→s.length≤1000∧AZ s
def spLeast(K:PySem.W.Frag):Sp:=fun vs H Q _=>∃ (D l:Addr) (E:List (Int×Option Str)) (N:List Int),vs=[.ref D,.ref l]∧Hds H D E∧SqL K H l (N.map V.int)∧N.length≤60∧(∀n∈N,n∈E.map (·.1)) ∧
 ∀ (v:Option Int) (H':Hp),Win (hdE E) N v→ZD H H'→Q (Zde v) H'
theorem ZmO(N:List Int):ZcT N=lo N:=rfl
theorem ZnK(N:List Int):Ze8 N=up N:=rfl
def spFP(K:PySem.W.Frag)(n:Nat):Sp:=fun vs H Q _=>∃ (D l:Addr) (E:List (Int×Option Str)) (N:List Int),vs=[.ref D,.ref l]∧Hds H D E∧SqL K H l (N.map V.int)∧N.length≤60∧0<n∧N.length≤2 ^ (n-1)∧(∀m∈N,m∈E.map (·.1)) ∧
 ∀ (t:Addr) (k q:Int) (H':Hp),Zds (hdE E) n N k q→H t=none→H' t=some (.tup [.int k,.int q])→ZD H H'→Q (.ref t) H'
abbrev ZaF:=Int×Addr×List Str×Nat
def kvR(L:List ZaF):List (Key×V):=L.map fun e=>(.inl e.1,.ref e.2.1)
def kvG(L:List ZaF):List (Key×V):=L.map fun e=>(.inl e.1,.int (e.2.2.2:Int))
def Zpm(ra ga:Addr)(nb li lo:Int):List (Key×V):=[(.inr "rows",.ref ra),(.inr "gone",.ref ga),(.inr "number",.int nb),(.inr "likenings",.int li),(.inr "looks",.int lo)]
structure Own (H:Hp) (o ra ga:Addr) (L:List ZaF) (nb li lo:Int):Prop where
 at':H o=some (.dK (Zpm ra ga nb li lo))
 rows:H ra=some (.dK (kvR L))
 gone:H ga=some (.dK (kvG L))
 nd:(L.map (·.1)).Nodup
 few:L.length≤60
 lst:∀e∈L,H e.2.1=some (.lst (e.2.2.1.map V.str))∧e.2.2.1.length≤100∧e.2.2.2≤e.2.2.1.length∧∀s∈e.2.2.1,s.length≤1000∧AZ s
theorem ZnO{ns:List Int}(h:ns.Nodup):(ns.map (Sum.inl:Int→Key)).Nodup:=List.Pairwise.map _ (fun a b hab z=>hab (Sum.inl.inj z)) h
theorem Zbe.k'{H:Hp}{a:Addr}{kvs:List (Key×V)}{k:Key}{r:Option V}(e:H a=some (.dK kvs))(h:Za0 kvs k=r):Zbe H a (kV k) r:=by rw[← h];exact Zbe.k e
structure Zo6 (L:List ZaF) (E:List (Int×Option Str)):Prop where
 per:(E.map (·.1)).Perm (L.map (·.1))
 up:(E.map (·.1)).Pairwise (·<·)
 hd:∀e∈L,(e.1,e.2.2.1[e.2.2.2]?)∈E
def spHeads:Sp:=fun vs H Q _=>∃ (o ra ga:Addr) (L:List ZaF) (nb li lo:Int),vs=[.ref o]∧Own H o ra ga L nb li lo ∧
 ∀ (D:Addr) (E:List (Int×Option Str)) (H':Hp),H D=none→Hds H' D E→Zo6 L E→ZD H H'→Q (.ref D) H'
def hdL(L:List ZaF):Hd:=fun n=>((L.find? fun e=>decide (e.1=n)).bind fun e=>e.2.2.1[e.2.2.2]?).map cds
theorem Zh4:∀ {L:List ZaF},(L.map (·.1)).Nodup→∀ {e:ZaF},e∈L→hdL L e.1=(e.2.2.1[e.2.2.2]?).map cds
 | [],_,_,h=>by cases h
 | x::r,nd,e,h=>by
  rw[Qe,Q3]at nd
  unfold hdL
  rw[QaL]
  rcases Qz.mp h with rfl|h
  ·rw[decide_eq_true rfl];rfl
  ·rw[decide_eq_false (fun z:x.1=e.1=>nd.1 (by rw[z];exact Qm (f:=fun x:ZaF=>x.1) h))]
   exact Zh4 nd.2 h
theorem Win.perm{hd:Hd}{N M:List Int}{v:Option Int}(h:Win hd N v)(p:N.Perm M):Win hd M v:=by
 cases v with
 | none=>exact fun n hn=>h n (p.mem_iff.mpr hn)
 | some a=>obtain⟨ha,x,hx,hb⟩:=h;exact⟨p.mem_iff.mp ha,x,hx,fun b hbm=>hb b (p.mem_iff.mpr hbm)⟩
def ZmK(L:List ZaF)(H:Hp)(x:V):Prop:=(x=.non∧Win (hdL L) (L.map (·.1)) none)∨∃ (t:Addr) (e:ZaF) (z:Str),x=.ref t∧e∈L∧e.2.2.1[e.2.2.2]? = some z∧H t=some (.tup [.int e.1,.int (e.2.2.2:Int),.str z])∧Win (hdL L) (L.map (·.1)) (some e.1)
def spLCom:Sp:=fun vs H Q _=>∃ (o ra ga:Addr) (L:List ZaF) (nb li lo:Int),vs=[.ref o]∧Own H o ra ga L nb li lo∧∀ (x:V) (H':Hp),ZmK L H' x→ZD H H'→Q x H'
def spLPlay:Sp:=fun vs H Q _=>∃ (o ra ga:Addr) (L:List ZaF) (nb li lo:Int),vs=[.ref o]∧Own H o ra ga L nb li lo∧(L.map (·.1)).Pairwise (·<·)∧(∀e∈L,e.2.1≠o) ∧
 ∀ (k q':Int) (H':Hp),Zds (hdL L) 8 (L.map (·.1)) k q'→Own H' o ra ga L nb (li+k) (lo+q')→But o H H'→Q .non H'
def Zcn(L:List ZaF):List Int:=L.map fun e=>(e.2.2.1.length:Int)-(e.2.2.2:Int)
def spLLeft:Sp:=fun vs H Q _=>∃ (o ra ga:Addr) (L:List ZaF) (nb li lo:Int),vs=[.ref o]∧Own H o ra ga L nb li lo∧∀H':Hp,ZD H H'→Q (.int (Zcn L).sum) H'
structure Zda (H:Hp) (r:Addr) (rs:List (Addr×List Str)):Prop where
 at':H r=some (.lst (rs.map fun x=>V.ref x.1))
 few:rs.length≤60
 lst:∀x∈rs,H x.1=some (.lst (x.2.map V.str))∧x.2.length≤100∧∀s∈x.2,s.length≤1000∧AZ s
theorem Zda.same{H H':Hp}{r:Addr}{rs:List (Addr×List Str)}(h:Zda H r rs)(s:ZD H H'):Zda H' r rs:=⟨s _ _ h.at',h.few,fun x hx=>let ⟨a,b⟩:=h.lst x hx;⟨s _ _ a,b⟩⟩
def ZoV(L:List ZaF)(rs:List (Addr×List Str)):Prop:=L.map (·.1)=Zcm 0 rs.length∧L.map (fun e=>e.2.2)=rs.map fun x=>(x.2,0)
theorem Zka(n:Nat):(Zcm 0 n).Pairwise (·<·):=by
 unfold Zcm
 exact List.Pairwise.map _ (fun a b h=>by omega) (List.pairwise_lt_range)
def spLWorld:Sp:=fun vs H Q _=>∃ (r:Addr) (rs:List (Addr×List Str)),vs=[.ref r]∧Zda H r rs ∧
 ∀ (o ra ga:Addr) (L:List ZaF) (k q':Int) (H':Hp),H o=none→H ra=none→H ga=none→ga≠ra→(∀e∈L,H e.2.1=none∧e.2.1≠o)→ZoV L rs→Own H' o ra ga L (rs.length:Int) k q'→Zds (hdL L) 8 (L.map (·.1)) k q'→ZD H H'→Q (.ref o) H'
def Zh5:Sp:=fun vs H Q _=>∃ (p l:Addr) (c most:Int) (ss:List Str),vs=[.ref p,.ref l,.int most]∧Zar H p c∧c<2 ^ 40∧0≤most∧most≤60∧H l=some (.lst (ss.map V.str))∧1≤ss.length∧ss.length≤4∧(∀s∈ss,s.length≤24∧AZ s) ∧
 ∀ (r:Addr) (ts:List Str) (c':Int) (H':Hp),H r=none→H' r=some (.lst (ts.map V.str))→(ts.length:Int)≤most→sortedS ts=true→(∀s∈ts,s.length≤28∧AZ s)→Zar H' p c'→c≤c'→c'≤c+600→But p H H'→Q (.ref r) H'
theorem ZlL(T:Zay K mg cRow cMerge)(f_l_keys:Df P w K mg base 4 "_law_keys" ["_law_left_here", "_law_stems_here", "_law_most"] Zhy):Df P w K mg base 5 "_law_row" ["_law_left_here", "_law_stems_here", "_law_most"] Zh5:=by
 refine T.t_l_row.df ZkL (fun vs H Q E h=>?_) (fun cdv f A outer s H vs Q E hr h=>?_)
 ·obtain⟨p,l,c,most,ss,rfl,_⟩:=h
  rfl
 obtain⟨p,l,c,most,ss,rfl,hL,hc,h0,h60,hl,h1,h4,h24,q⟩:=h
 refine⟨_,#[Zi,#[Zr,#[Zm,(Zpc K),T.b.n_sorted,boot_sorted,#[Za,#[ZM,f_l_keys,hr,#[Za,‹0›,#[Za,‹1›,#[Za,‹2›,#[Ze]]]],(by rfl)],#[Ze]]]]],?_⟩
 refine⟨_,rfl,_,rfl,_,rfl,p,l,c,most,ss,rfl,hL,hc,h0,h60,hl,h1,h4,h24,fun r ts c' H1 hr0 hr1 hts h28 L1 a1 a2 B1=>?_⟩
 refine⟨r,ts,rfl,SqL.of hr1,by omega,fun l2 ts' hl2 hper hsrt=>?_⟩
 obtain⟨ob,hob⟩:=hL.here
 have hl20:H l2=none:=by
  cases e:H l2 with
  | none=>rfl
  | some x =>
   by_cases z:l2=p
   ·obtain⟨o1,ho1⟩:=L1.here;rw[z,ho1]at hl2;cases hl2
   ·have:=B1 l2 x e z;rw[this]at hl2;cases hl2
 exact q l2 ts' c' _ hl20 Zd (by rw[hper.length_eq];exact hts) hsrt (fun s hs=>h28 s (hper.mem_iff.mp hs)) (L1.new hl2) a1 a2 (B1.trans (But.same (Zj hl2 _)))
def Zh9:Sp:=fun vs H Q _=>∃ (p:Addr) (c:Int),vs=[.ref p]∧Zar H p c∧c<2 ^ 30 ∧
 ∀ (r:Addr) (rs:List (Addr×List Str)) (c':Int) (H':Hp),H r=none→Zda H' r rs→(∀x∈rs,H x.1=none∧x.1≠r∧x.1≠p∧sortedS x.2=true∧x.2.length≤60)→rs.length≤12→Zar H' p c'→c≤c'→c'≤c+10000→But p H H'→Q (.ref r) H'
theorem Zko(T:Zay K mg cRow cMerge)(f_l_pick:Df P w K mg base 2 "_law_pick" ["_law_left_here", "_law_many_here"] Zc5)(f_l_stems:Df P w K mg base 3 "_law_stems" ["_law_left_here"] Zgk)(f_l_many:Df P w K mg base 3 "_law_many" ["_law_left_here"] ZhD)(f_l_row:Df P w K mg base 5 "_law_row" ["_law_left_here", "_law_stems_here", "_law_most"] Zh5):Df P w K mg base 6 "_law_rows" ["_law_left_here"] Zh9:=by
 refine T.t_l_rows.df ZdO (fun vs H Q E h=>?_) (fun cdv f A outer s H vs Q E hr h=>?_)
 ·obtain⟨p,c,rfl,_⟩:=h
  rfl
 obtain⟨p,c,rfl,hL,c1,q⟩:=h
 refine⟨_,#[Zg,#[Zz,1,ZdO.nd,(Or.inr rfl),#[ZM,f_l_stems,hr,#[Za,#[pv,0,(Or.inr (Or.inl rfl))],#[Ze]],(by rfl)]],#[Zg,#[Zz,2,ZdO.nd,(Or.inr rfl),#[ZG,(ixL K),#[ZaJ,#[Za,#[Zh],#[Za,#[Zh],#[Za,#[Zh],#[Za,#[Zh],#[Za,#[Zh],#[Za,#[Zh],#[Za,#[Zh],#[Za,#[Zh],#[Ze]]]]]]]]]],#[ZM,f_l_pick,hr,#[Za,#[pv,0,(Or.inr (Or.inl rfl))],#[Za,#[Zh],#[Ze]]],(by rfl)]]],#[Zi,#[Zr,#[ZcL,Zjz,#[Zbm,T.b.n_range,#[Za,#[ZM,f_l_many,hr,#[Za,#[pv,0,(Or.inr (Or.inl rfl))],#[Ze]],(by rfl)],#[Ze]]],(fun _ _ _ _=>#[cg,3,Zjz]),(fun _ _ _ _=>(@Zb8 _)),(fun _ _ _ _=>#[ZM,f_l_row,hr,#[Za,#[cv,0,Zjz],#[Za,#[cv,1,Zjz],#[Za,#[cv,2,Zjz],#[Ze]]]],(ZcG Zjz rfl (by ac_rfl))])]]]]],?_⟩
 have c0:=hL.ge
 refine⟨_,rfl,p,c,rfl,hL,by omega,fun l ss c2 H1 hl0 hl1 n1 n4 h24 L1 a1 a2 B1=>?_⟩
 have npl:p≠l:=by obtain⟨o,ho⟩:=hL.here;exact Zb ho hl0
 refine⟨(by show 8≤sizeLine;decide),fun e he=>?_⟩
 have npe:p≠e:=by obtain⟨o,ho⟩:=L1.here;exact Zb ho he
 refine⟨_,rfl,p,c2,_,rfl,L1.new he,by omega,by decide,by decide,fun i H2 i0 i1 L2 B2=>?_⟩
 obtain⟨m,hm,hat⟩:=Zes (ns:=[5,5,4,6,3,7,5,20]) i0 i1
 have he2:H2 e=some (.lst (([5,5,4,6,3,7,5,20]:List Int).map V.int)):=B2 e _ Zd npe.symm
 have hm1:0≤m∧m≤20:=by
  simp only[List.mem_cons,List.not_mem_nil,or_false]at hm
  omega
 have hl2:H2 l=some (.lst (ss.map V.str)):=B2 l _ (Zj he _ _ _ hl1) npl.symm
 have B02:But p H H2:=(B1.trans (But.same (Zj he _))).trans B2
 refine(xw4 e _ _ _ ⟨rfl,rfl,SqL.of he2,hat,?_⟩)
 refine⟨_,rfl,p,_,rfl,L2,by omega,fun mn c3 H3 m0 m12 L3 a3 a4 B3=>?_⟩
 have hl3:=B3 l _ hl2 npl.symm
 have B03:=B02.trans B3
 refine⟨_,rfl,by omega,by omega,fun D hD=>?_⟩
 have hD0:H D=none:=by
  cases e':H D with
  | none=>rfl
  | some x =>
   by_cases z:D=p
   ·obtain⟨o1,ho1⟩:=L3.here;rw[z,ho1]at hD;cases hD
   ·have:=B03 D x e' z;rw[this]at hD;cases hD
 have npD:p≠D:=by obtain⟨o,ho⟩:=L3.here;exact Zb ho hD
 have nlD:l≠D:=Zb hl3 hD
 refine Zdc (fun i zs σ H4=>(∃v:Option V,σ=[some (.ref p),some (.ref l),some (.int m),v])∧(∃rs:List (Addr×List Str),zs=rs.map (fun x=>V.ref x.1)∧rs.length=i∧∀x∈rs,H4 x.1=some (.lst (x.2.map V.str))∧H x.1=none∧x.1≠D∧x.1≠p∧sortedS x.2=true∧x.2.length≤60∧∀s∈x.2,s.length≤28∧AZ s)∧H4 D=some (.lst zs)∧(∃c4:Int,Zar H4 p c4∧c3≤c4∧c4≤c3+600*i)∧But p H3 H4) ?_ ?_ ?_
 ·exact⟨⟨none,rfl⟩,⟨[],rfl,rfl,(fun x h=>by cases h)⟩,Zd,⟨c3,L3.new hD,by omega,by omega⟩,But.same (Zj hD _)⟩
 ·rintro i zs σ H4 hi ⟨⟨v,rfl⟩,⟨rs,rfl,hrl,hrs⟩,hD4,⟨c4,L4,b1,b2⟩,B4⟩
  have hi12:i<12:=by omega
  refine⟨_,rfl,_,rfl,_,rfl,xw5 p l c4 m ss ⟨rfl,L4,by omega,hm1.1,by omega,B4 l _ hl3 npl.symm,n1,n4,h24,fun r ts c5 H5 hr0 hr5 hts hsrt h28 L5 d1 d2 B5=>?_⟩⟩
  have hD5:=B5 D _ hD4 npD.symm
  have nDr:D≠r:=Zb hD4 hr0
  have npr:p≠r:=by obtain⟨o,ho⟩:=L4.here;exact Zb ho hr0
  have hr00:H r=none:=by
   cases e':H r with
   | none=>rfl
   | some x=>have:=B4 r x (B03 r x e' npr.symm) npr.symm;rw[this]at hr0;cases hr0
  refine⟨hD5,(by rw[Qb];exact Z5 (by omega)),⟨_,rfl⟩,⟨rs++[(r,ts)],by rw[Qj];rfl,by rw[Qd,QK];omega,fun x hx=>?_⟩,Zd,⟨c5,L5.at npD,by omega,by omega⟩,fun b x hb nb=>?_⟩
  ·rcases Qk.mp hx with hx|hx
   ·obtain⟨g1,g2,g3,g4,g5⟩:=hrs x hx
    exact⟨by rw[Zc g3];exact B5 _ _ g1 g4,g2,g3,g4,g5⟩
   ·rw[Ql.mp hx]
    exact⟨by rw[Zc nDr.symm];exact hr5,hr00,nDr.symm,npr.symm,hsrt,by show ts.length≤60;omega,h28⟩
  ·rw[Zc (Zb hb hD)];exact B5 b x (B4 b x hb nb) nb
 rintro zs σ H4 ⟨⟨v,rfl⟩,⟨rs,rfl,hrl,hrs⟩,hD4,⟨c4,L4,b1,b2⟩,B4⟩
 refine q D rs c4 H4 hD0 ⟨hD4,by omega,fun x hx=>?_⟩ (fun x hx=>?_) (by omega) L4 (by omega) (by omega) (B03.trans B4)
 ·obtain⟨g1,_,_,_,_,g6,g7⟩:=hrs x hx
  exact⟨g1,by omega,fun s hs=>⟨by have:=(g7 s hs).1;omega,(g7 s hs).2⟩⟩
 ·obtain⟨_,g2,g3,g4,g5,g6,_⟩:=hrs x hx
  exact⟨g2,g3,g4,g5,g6⟩
def Ze2(K:PySem.W.Frag):Sp:=fun vs H Q _=>∃ (n:Int) (a:Addr) (ss:List Str),vs=[.int n,.ref a]∧SqL K H a (ss.map V.str)∧ss.length≤200∧(∀s∈ss,s.length≤1000)∧Zhe ss .non∧∀H',ZD H H'→Q .non H'
theorem Zjh(T:Zay K mg cRow cMerge)(f_first_break:Df P w K mg base 4 "first_break" ["keys"] (Zj2 K)):Df P w K mg base 5 "refuse_break" ["number", "keys"] (Ze2 K):=by
 refine T.t_refuse_break.df Zcf (fun vs H Q E h=>?_) (fun cdv f A outer s H vs Q E hr h=>?_)
 ·obtain⟨n,a,ss,rfl,_⟩:=h
  rfl
 obtain⟨n,a,ss,rfl,hS,h200,h1000,hnon,q⟩:=h
 refine⟨_,#[Zg,#[Zz,2,Zcf.nd,(Or.inl rfl),#[ZM,f_first_break,hr,#[Za,‹1›,#[Ze]],(by rfl)]],#[Zi,#[Zaz,#[Zs,Zgq,‹2›,#[Zad],(Zx _)],#[Zi,(@Zmm _ _)],(@ZU _)]]],?_⟩
 refine⟨_,rfl,a,ss,rfl,hS,h200,h1000,fun v H1 hb s1=>?_⟩
 have e:=Zlu hb hnon
 subst e
 exact⟨_,rfl,rfl,_,rfl,Zcc (q H1 s1)⟩
structure Zu where
 n:Int
 p:Addr
 k:Addr
 f:Addr
 ss:List Str
 g:Nat
def toL(e:Zu):ZaF:=(e.n,e.p,e.ss,e.g)
def hdM(L:List Zu):Hd:=hdL (L.map toL)
def Zv(L:List Zu):List Int:=L.map (·.n)
theorem Zdq(L:List Zu):(L.map toL).map (·.1)=Zv L:=by rw[QF];rfl
def kvM(L:List Zu):List (Key×V):=L.map fun e=>(.inl e.n,.ref e.p)
theorem Zdg{L:List Zu}(nd:(Zv L).Nodup){e:Zu}(he:e∈L):hdM L e.n=(e.ss[e.g]?).map cds :=
 Zh4 (L:=L.map toL) (by rw[Zdq];exact nd) (Qm (f:=toL) he)
theorem ZkD(L:List Zu):(kvM L).map (·.1)=(Zv L).map (Sum.inl:Int→Key):=by unfold kvM Zv;rw[QF,QF];rfl
theorem ZeO{L:List Zu}(nd:(Zv L).Nodup){e:Zu}(he:e∈L):Za0 (kvM L) (.inl e.n)=some (.ref e.p):=Zhh (by rw[ZkD];exact ZnO nd) (Qm (f:=fun e:Zu=>((.inl e.n:Key),V.ref e.p)) he)
theorem ZcD{L:List Zu}{n:Int}(h:n∈Zv L):∃e∈L,e.n=n:=QJ.mp h
def mgF(rd:Addr)(nb li lo:Int)(sd:Addr)(best:V):List (Str×V):=[("rows",.ref rd),("next_number",.int nb),("likened",.int li),("looked",.int lo),("stays",.ref sd),("best",best)]
theorem ZnR:¬ (("rows" : Str) = "next_number"):=by ac_rfl
theorem Znf:¬ (("rows" : Str) = "likened"):=by ac_rfl
theorem Zna:¬ (("rows" : Str) = "looked"):=by ac_rfl
theorem Znq:¬ (("rows" : Str) = "stays"):=by ac_rfl
theorem ZnC:¬ (("rows" : Str) = "best"):=by ac_rfl
theorem ZoG:¬ (("next_number" : Str) = "likened"):=by ac_rfl
theorem Zoj:¬ (("next_number" : Str) = "looked"):=by ac_rfl
theorem Zot:¬ (("next_number" : Str) = "stays"):=by ac_rfl
theorem ZoM:¬ (("next_number" : Str) = "best"):=by ac_rfl
theorem ZmP:¬ (("likened" : Str) = "looked"):=by ac_rfl
theorem ZmW:¬ (("likened" : Str) = "stays"):=by ac_rfl
theorem ZnL:¬ (("likened" : Str) = "best"):=by ac_rfl
theorem ZnE:¬ (("looked" : Str) = "stays"):=by ac_rfl
theorem ZmV:¬ (("looked" : Str) = "best"):=by ac_rfl
theorem Znh:¬ (("stays" : Str) = "best"):=by ac_rfl
theorem ZcE(f:Str)(v x:V)(r:List (Str×V)):Zl f v ((f,x)::r)=(f,v)::r:=by unfold Zl;rw[if_pos rfl]
theorem Zn{f g:Str}(h:¬ g=f)(v x:V)(r:List (Str×V)):Zl f v ((g,x)::r)=(g,x)::Zl f v r:=by
 show (if g=f then (g,v)::r else (g,x)::Zl f v r)=_
 rw[if_neg h]
theorem ZaT(f:Str)(v:V):Zl f v []=[(f,v)]:=rfl
theorem Za4(rd:Addr)(nb li lo:Int)(sd:Addr)(best:V):mgF rd nb li lo sd best=Zl "best" best (Zl "stays" (.ref sd) (Zl "looked" (.int lo) (Zl "likened" (.int li) (Zl "next_number" (.int nb) (Zl "rows" (.ref rd) []))))):=by
 rw[ZaT,Zn ZnR,ZaT,Zn Znf,Zn ZoG,ZaT,Zn Zna,Zn Zoj,Zn ZmP,ZaT,Zn Znq,Zn Zot,Zn ZmW,Zn ZnE,ZaT,Zn ZnC,Zn ZoM,Zn ZnL,Zn ZmV,Zn Znh,ZaT]
 rfl
section
variable (rd:Addr) (nb li lo:Int) (sd:Addr) (best:V)
theorem ZaY:(mgF rd nb li lo sd best).lookup ("rows" : Str)=some (.ref rd):=by
 rw[Za4,Zk,if_neg ZnC,Zk,if_neg Znq,Zk,if_neg Zna,Zk,if_neg Znf,Zk,if_neg ZnR,Zk,if_pos rfl]
theorem Zeg:(mgF rd nb li lo sd best).lookup ("likened" : Str)=some (.int li):=by
 rw[Za4,Zk,if_neg ZnL,Zk,if_neg ZmW,Zk,if_neg ZmP,Zk,if_pos rfl]
theorem Zhz:(mgF rd nb li lo sd best).lookup ("looked" : Str)=some (.int lo):=by
 rw[Za4,Zk,if_neg ZmV,Zk,if_neg ZnE,Zk,if_pos rfl]
theorem Zb0:(mgF rd nb li lo sd best).lookup ("stays" : Str)=some (.ref sd):=by
 rw[Za4,Zk,if_neg Znh,Zk,if_pos rfl]
theorem Zcw:(mgF rd nb li lo sd best).lookup ("best" : Str)=some best:=by
 rw[Za4,Zk,if_pos rfl]
theorem ZbH{m:Str}(h1:¬ m = "rows")(h2:¬ m = "next_number")(h3:¬ m = "likened")(h4:¬ m = "looked")(h5:¬ m = "stays")(h6:¬ m = "best"):(mgF rd nb li lo sd best).lookup m=none:=by
 rw[Za4,Zk,if_neg h6,Zk,if_neg h5,Zk,if_neg h4,Zk,if_neg h3,Zk,if_neg h2,Zk,if_neg h1]
 rfl
theorem Zch(v:Int):Zl "likened" (.int v) (mgF rd nb li lo sd best)=mgF rd nb v lo sd best:=by unfold mgF;rw[Zn Znf,Zn ZoG,ZcE]
theorem ZeK(v:Int):Zl "looked" (.int v) (mgF rd nb li lo sd best)=mgF rd nb li v sd best:=by unfold mgF;rw[Zn Zna,Zn Zoj,Zn ZmP,ZcE]
theorem Zfa(x:Addr):Zl "stays" (.ref x) (mgF rd nb li lo sd best)=mgF rd nb li lo x best:=by unfold mgF;rw[Zn Znq,Zn Zot,Zn ZmW,Zn ZnE,ZcE]
theorem Zbg(x:V):Zl "best" x (mgF rd nb li lo sd best)=mgF rd nb li lo sd x:=by unfold mgF;rw[Zn ZnC,Zn ZoM,Zn ZnL,Zn ZmV,Zn Znh,ZcE]
theorem ZbA:(mgF rd nb li lo sd best).length<1000:=by show 6<1000;decide
end
structure ZcY (C:Addr) (H:Hp) (e:Zu):Prop where
 at':Ziv C H e.p e.k e.f e.ss e.g
 le:e.g≤e.ss.length
 len:e.ss.length≤100
 srt:sortedS e.ss=true
 str:∀s∈e.ss,s.length≤1000∧AZ s
structure ZR (cR cM:Addr) (H:Hp) (m rd sd:Addr) (L:List Zu) (s:StL) (nb li lo:Int) (best:V):Prop where
 ob:∃dx,H m=some (.ins cM dx (mgF rd nb li lo sd best))
 rows:H rd=some (.dK (kvM L))
 stays:H sd=some (.dT (kvS s))
 ats:AtS H s
 each:∀e∈L,ZcY cR H e
 up:Z8 (Zv L)
 pd:(L.map (·.p)).Nodup
 few:L.length≤60
 sfew:s.length≤100
def Fp(m rd sd:Addr)(L:List Zu)(b:Addr):Prop:=b=m∨b=rd∨b=sd∨∃e∈L,b=e.p∨b=e.k∨b=e.f
theorem ZcY.keep{C:Addr}{H H':Hp}{e:Zu}(h:ZcY C H e)(hp:H' e.p=H e.p)(hk:H' e.k=H e.k)(hf:H' e.f=H e.f):ZcY C H' e :=
 ⟨⟨by rw[hp];exact h.at'.ob,by rw[hk];exact h.at'.ks,by rw[hf];exact h.at'.fs⟩,h.le,h.len,h.srt,h.str⟩
section
variable {cR cM:Addr} {H H':Hp} {m rd sd:Addr} {L:List Zu} {s:StL} {nb li lo:Int} {best:V}
theorem ZR.nd(h:ZR cR cM H m rd sd L s nb li lo best):(Zv L).Nodup:=ZcR h.up
theorem ZR.keep(h:ZR cR cM H m rd sd L s nb li lo best)(k:∀b o,H b=some o→Fp m rd sd L b∨(∃xs,o=.tup xs)→H' b=some o):ZR cR cM H' m rd sd L s nb li lo best:=by
 refine⟨?_,k _ _ h.rows (.inl (.inr (.inl rfl))),k _ _ h.stays (.inl (.inr (.inr (.inl rfl)))),fun e he t ht=>k _ _ (h.ats e he t ht) (.inr ⟨_,rfl⟩),fun e he=>?_,h.up,h.pd,h.few,h.sfew⟩
 ·obtain⟨dx,hd⟩:=h.ob
  exact⟨dx,k _ _ hd (.inl (.inl rfl))⟩
 ·have r:=h.each e he
  obtain⟨dx,hd⟩:=r.at'.ob
  exact⟨⟨⟨dx,k _ _ hd (.inl (.inr (.inr (.inr ⟨e,he,.inl rfl⟩))))⟩,k _ _ r.at'.ks (.inl (.inr (.inr (.inr ⟨e,he,.inr (.inl rfl)⟩)))),k _ _ r.at'.fs (.inl (.inr (.inr (.inr ⟨e,he,.inr (.inr rfl)⟩))))⟩,r.le,r.len,r.srt,r.str⟩
theorem ZR.same(h:ZR cR cM H m rd sd L s nb li lo best)(k:ZD H H'):ZR cR cM H' m rd sd L s nb li lo best:=h.keep fun b o hb _=>k b o hb
theorem ZR.ne_p(h:ZR cR cM H m rd sd L s nb li lo best){e:Zu}(he:e∈L):m≠e.p∧m≠e.k∧m≠e.f:=by
 obtain⟨dx,hd⟩:=h.ob
 have r:=h.each e he
 obtain⟨dy,hy⟩:=r.at'.ob
 refine⟨fun z=>?_,fun z=>?_,fun z=>?_⟩
 ·rw[z,hy]at hd
  injection hd with hd
  injection hd with _ _ hd
  have a:=Zd3 e.k e.f (e.g:Int)
  rw[hd,ZbH _ _ _ _ _ _ (by ac_rfl) (by ac_rfl) (by ac_rfl) (by ac_rfl) (by ac_rfl) (by ac_rfl)]at a
  cases a
 ·rw[z,r.at'.ks]at hd;cases hd
 ·rw[z,r.at'.fs]at hd;cases hd
theorem ZR.ne_m(h:ZR cR cM H m rd sd L s nb li lo best):m≠rd∧m≠sd∧rd≠sd:=by
 obtain⟨dx,hd⟩:=h.ob
 refine⟨fun z=>?_,fun z=>?_,fun z=>?_⟩
 ·rw[z,h.rows]at hd;cases hd
 ·rw[z,h.stays]at hd;cases hd
 ·have:=h.rows;rw[z,h.stays]at this;cases this
theorem ZR.ne_sd(h:ZR cR cM H m rd sd L s nb li lo best){e:Zu}(he:e∈L):sd≠e.p∧sd≠e.k∧sd≠e.f∧rd≠e.p∧rd≠e.k∧rd≠e.f:=by
 have r:=h.each e he
 obtain⟨dy,hy⟩:=r.at'.ob
 have a:=h.stays
 have b:=h.rows
 refine⟨fun z=>?_,fun z=>?_,fun z=>?_,fun z=>?_,fun z=>?_,fun z=>?_⟩
 ·rw[z,hy]at a;cases a
 ·rw[z,r.at'.ks]at a;cases a
 ·rw[z,r.at'.fs]at a;cases a
 ·rw[z,hy]at b;cases b
 ·rw[z,r.at'.ks]at b;cases b
 ·rw[z,r.at'.fs]at b;cases b
theorem ZR.obj(h:ZR cR cM H m rd sd L s nb li lo best){nb' li' lo':Int}{best':V}{dx:Addr}:ZR cR cM (upd H m (.ins cM dx (mgF rd nb' li' lo' sd best'))) m rd sd L s nb' li' lo' best':=by
 obtain⟨n1,n2,n3⟩:=h.ne_m
 obtain⟨dy,hd⟩:=h.ob
 refine⟨⟨dx,Zd⟩,by rw[Zc n1.symm];exact h.rows,by rw[Zc n2.symm];exact h.stays,fun e he t ht=>?_,fun e he=>?_,h.up,h.pd,h.few,h.sfew⟩
 ·have:=h.ats e he t ht
  rw[Zc (fun z=>by rw[z,hd]at this;cases this)];exact this
 ·obtain⟨a,b,c⟩:=h.ne_p he
  exact(h.each e he).keep (Zc a.symm) (Zc b.symm) (Zc c.symm)
theorem ZR.put(h:ZR cR cM H m rd sd L s nb li lo best){k:Int×Int}{v:Option (Addr×Int×Int)}(hv:∀t,v=some t→H t.1=some (.tup [.int t.2.1,.int t.2.2]))(hs:(ZbQ s k v).length≤100):ZR cR cM (upd H sd (.dT (kvS (ZbQ s k v)))) m rd sd L (ZbQ s k v) nb li lo best:=by
 obtain⟨n1,n2,n3⟩:=h.ne_m
 obtain⟨dy,hd⟩:=h.ob
 have tup:∀a xs,H a=some (.tup xs)→(upd H sd (.dT (kvS (ZbQ s k v)))) a=some (.tup xs):=fun a xs ha=>by rw[Zc (fun z=>by rw[z,h.stays]at ha;cases ha)];exact ha
 refine⟨⟨dy,by rw[Zc n2];exact hd⟩,by rw[Zc n3];exact h.rows,Zd,(h.ats.put hv).mono tup,fun e he=>?_,h.up,h.pd,h.few,hs⟩
 obtain⟨a,b,c,_⟩:=h.ne_sd he
 exact(h.each e he).keep (Zc a.symm) (Zc b.symm) (Zc c.symm)
end
def ZhN(cR cM:Addr):Sp:=fun vs H Q _=>∃ (m rd sd:Addr) (L:List Zu) (s:StL) (nb li lo:Int) (best:V) (a b:Zu) (x y:Str) (far:Nat),vs=[.ref m,.int a.n,.int b.n,.int (far:Int)]∧ZR cR cM H m rd sd L s nb li lo best∧a∈L∧b∈L∧a.ss[a.g]? = some x∧b.ss[b.g]? = some y∧far≤lcp (cds x) (cds y) ∧
 ∀ (t:Addr) (wi lz:Int) (H':Hp),(Btr (cds x) a.n (cds y) b.n∧wi=a.n∧lz=b.n∨¬ Btr (cds x) a.n (cds y) b.n∧wi=b.n∧lz=a.n)→H t=none→H' t=some (.tup [.int wi,.int lz,.int ((lcp (cds x) (cds y):Nat):Int)]) →
  ZR cR cM H' m rd sd L s nb (li+1) (lo+((lcp (cds x) (cds y):Nat)-(far:Int)+1)) best→(∀b o,H b=some o→b≠m→H' b=some o)→Q (.ref t) H'
theorem Zdp{ss:List Str}{g:Nat}{x:Str}(h:ss[g]? = some x):ZdA ss g=.str x:=by unfold ZdA;rw[h]
theorem Za9(k f:Addr)(g:Int):(ZbF k f g).lookup ("head" : Str)=none:=Zgg _ _ _ (by ac_rfl) (by ac_rfl) (by ac_rfl)
theorem ZlW(T:Zay K mg cRow cMerge)(f_Row_head:Mf P w K mg base 2 cRow "head" ["self"] (ZeG cRow))(f_liken_from:Df P w K mg base 2 "liken_from" ["one", "other", "far"] Zcx):Mf P w K mg base 3 cMerge "meet" ["self", "one", "other", "far"] (ZhN cRow cMerge):=by
 refine T.t_Merge_meet.mf Za5 (fun vs H Q E h=>?_) (fun cdv f A outer s H vs Q E hr h=>?_)
 ·obtain⟨m,rd,sd,L,s,nb,li,lo,best,a,b,x,y,far,rfl,_⟩:=h
  rfl
 obtain⟨m,rd,sd,L,s,nb,li,lo,best,a,b,x,y,far,rfl,M,ha,hb,hx,hy,hf,q⟩:=h
 refine⟨_,#[Zg,#[Zbd,#[ZM,f_liken_from,hr,#[Za,#[Zbo,f_Row_head,T.cl_Row,hr,#[ZG,(ixG hr),#[Z0,‹0›],‹1›]],#[Za,#[Zbo,f_Row_head,T.cl_Row,hr,#[ZG,(ixG hr),#[Z0,‹0›],‹2›]],#[Za,‹3›,#[Ze]]]],(by rfl)],#[gT,K,3,#[ZB,#[ZJ,4,Za5.nd,(Or.inl rfl)],#[ZB,#[ZJ,5,Za5.nd,(Or.inl rfl)],#[ZB,#[ZJ,6,Za5.nd,(Or.inl rfl)],(@ZaZ _)]]]]],#[Zg,(@ZcI _ _ _ _ _ _ _ _ _ _ ‹0› #[Zh] Zf2),#[Zg,(@ZcI _ _ _ _ _ _ _ _ _ _ ‹0› ‹6› Zf2),#[Zg,#[Zaz,(@PW.pt _ _ _ (@Zh8 _ _ _ _ _ _ _ #[Zs,ZeT,‹4›,#[Zh],(Zx _)] (@Zgh _ _ _ _ (@PW.pt _ _ _ #[Zd0,#[Zs,Zbw,‹4›,#[Zh],(Zx _)],(@Zdl _ _ _ _ #[Zs,ZeT,‹1›,‹2›,(Zx _)])])))),#[Zi,#[Zr,#[ZaV,#[Za,‹1›,#[Za,‹2›,#[Za,‹5›,#[Ze]]]]]]],(@ZU _)],#[Zi,#[Zr,#[ZaV,#[Za,‹2›,#[Za,‹1›,#[Za,‹5›,#[Ze]]]]]]]]]]],?_⟩
 obtain⟨dx,hm⟩:=M.ob
 have Ra:=M.each a ha
 have Rb:=M.each b hb
 obtain⟨da,hpa⟩:=Ra.at'.ob
 obtain⟨db,hpb⟩:=Rb.at'.ob
 have lx:=(Ra.str x (QM hx)).1
 have ly:=(Rb.str y (QM hy)).1
 refine⟨_,rfl,xw5 m cMerge dx _ _ ⟨rfl,hm,T.cl_Merge,T.na_Merge_rows,ZaY ..,_,rfl,rd,_,rfl,Zbe.k' (k:=.inl a.n) M.rows (ZeO M.nd ha),a.p,da,_,rfl,hpa,Za9 ..,xw5 a.p a.k a.f a.ss a.g ⟨rfl,Ra.at',?_⟩⟩⟩
 refine⟨_,rfl,xw5 m cMerge dx _ _ ⟨rfl,hm,T.cl_Merge,T.na_Merge_rows,ZaY ..,_,rfl,rd,_,rfl,Zbe.k' (k:=.inl b.n) M.rows (ZeO M.nd hb),b.p,db,_,rfl,hpb,Za9 ..,xw5 b.p b.k b.f b.ss b.g ⟨rfl,Rb.at',?_⟩⟩⟩
 rw[Zdp hx,Zdp hy]
 refine⟨_,rfl,x,y,far,rfl,lx,ly,hf,fun t ht=>?_⟩
 have s1:=Zj ht (.tup [.int (ZA (cds x) (cds y)),.int (lcp (cds x) (cds y):Nat),.int ((lcp (cds x) (cds y):Nat)-(far:Int)+1)])
 have ht1:(upd H t (.tup [.int (ZA (cds x) (cds y)),.int (lcp (cds x) (cds y):Nat),.int ((lcp (cds x) (cds y):Nat)-(far:Int)+1)])) t=some (.tup [.int (ZA (cds x) (cds y)),.int (lcp (cds x) (cds y):Nat),.int ((lcp (cds x) (cds y):Nat)-(far:Int)+1)]):=Zd
 generalize upd H t (.tup [.int (ZA (cds x) (cds y)),.int (lcp (cds x) (cds y):Nat),.int ((lcp (cds x) (cds y):Nat)-(far:Int)+1)])=H1 at s1 ht1 ⊢
 have M1:=M.same s1
 refine⟨t,_,rfl,SqT.of ht1,rfl,_,_,rfl,_,_,rfl,_,_,rfl,rfl,?_⟩
 have hm1:=s1 _ _ hm
 refine⟨_,rfl,xw5 m cMerge dx _ _ ⟨rfl,hm1,T.cl_Merge,T.na_Merge_likened,Zeg ..,_,_,rfl,rfl,dx,_,hm1,ZbA ..,?_⟩⟩
 rw[Zch]
 have M2:=M1.obj (nb':=nb) (li':=li+1) (lo':=lo) (best':=best) (dx:=dx)
 have k2:∀b o,H b=some o→b≠m→(upd H1 m (.ins cMerge dx (mgF rd nb (li+1) lo sd best))) b=some o:=fun b o hb n=>by rw[Zc n];exact s1 b o hb
 have hm2:(upd H1 m (.ins cMerge dx (mgF rd nb (li+1) lo sd best))) m=some (.ins cMerge dx (mgF rd nb (li+1) lo sd best)):=Zd
 generalize upd H1 m (.ins cMerge dx (mgF rd nb (li+1) lo sd best))=H2 at M2 k2 hm2 ⊢
 refine⟨_,rfl,xw5 m cMerge dx _ _ ⟨rfl,hm2,T.cl_Merge,T.na_Merge_looked,Zhz ..,_,rfl,_,_,rfl,rfl,dx,_,hm2,ZbA ..,?_⟩⟩
 rw[ZeK]
 have M3:=M2.obj (nb':=nb) (li':=li+1) (lo':=lo+((lcp (cds x) (cds y):Nat)-(far:Int)+1)) (best':=best) (dx:=dx)
 have k3:∀b o,H b=some o→b≠m→(upd H2 m (.ins cMerge dx (mgF rd nb (li+1) (lo+((lcp (cds x) (cds y):Nat)-(far:Int)+1)) sd best))) b=some o:=fun b o hb n=>by rw[Zc n];exact k2 b o hb n
 generalize upd H2 m (.ins cMerge dx (mgF rd nb (li+1) (lo+((lcp (cds x) (cds y):Nat)-(far:Int)+1)) sd best))=H3 at M3 k3 ⊢
 have fin:∀wi lz:Int,(Btr (cds x) a.n (cds y) b.n∧wi=a.n∧lz=b.n∨¬ Btr (cds x) a.n (cds y) b.n∧wi=b.n∧lz=a.n)→∀t2,H3 t2=none→Q (.ref t2) (upd H3 t2 (.tup [.int wi,.int lz,.int ((lcp (cds x) (cds y):Nat):Int)])):=fun wi lz hw t2 ht2=>by
  have hfree:H t2=none:=by
   cases e:H t2 with
   | none=>rfl
   | some o =>
    by_cases z:t2=m
    ·obtain⟨dz,hz⟩:=M3.ob;rw[z,hz]at ht2;cases ht2
    ·rw[k3 t2 o e z]at ht2;cases ht2
  exact q t2 wi lz _ hw hfree Zd (M3.same (Zj ht2 _)) (fun b o hb n=>Zj ht2 _ _ _ (k3 b o hb n))
 have sz3:3≤sizeLine:=by decide
 refine⟨_,rfl,_,_,rfl,rfl,_,rfl,Zbx (fun d=>?_) (fun d=>?_)⟩
 ·have d':ZA (cds x) (cds y)<0:=of_decide_eq_true d
  exact Ze6 ⟨_,rfl,_,rfl,_,rfl,sz3,fun t2 ht2=>fin _ _ (.inl ⟨.inl d',rfl,rfl⟩) t2 ht2⟩
 have d1:¬ ZA (cds x) (cds y)<0:=fun z=>d (decide_eq_true z)
 refine⟨_,rfl,rfl,_,rfl,Zbx (fun e=>?_) (fun e=>?_)⟩
 ·have e':ZA (cds x) (cds y)=0:=by have:=of_decide_eq_true e;injection this
  refine⟨_,rfl,_,rfl,_,_,rfl,rfl,_,rfl,Zbx (fun g=>?_) (fun g=>?_)⟩
  ·have g':a.n<b.n:=of_decide_eq_true g
   exact⟨_,rfl,_,rfl,_,rfl,sz3,fun t2 ht2=>fin _ _ (.inl ⟨.inr ⟨e',g'⟩,rfl,rfl⟩) t2 ht2⟩
  ·have g':¬ a.n<b.n:=fun z=>g (decide_eq_true z)
   exact⟨_,rfl,_,rfl,_,rfl,sz3,fun t2 ht2=>fin _ _ (.inr ⟨fun z=>by rcases z with z|z;exact d1 z;exact g' z.2,rfl,rfl⟩) t2 ht2⟩
 ·have e':ZA (cds x) (cds y)≠0:=fun z=>e (decide_eq_true (by rw[z]))
  exact Zcc ⟨_,rfl,_,rfl,_,rfl,sz3,fun t2 ht2=>fin _ _ (.inr ⟨fun z=>by rcases z with z|z;exact d1 z;exact e' z.1,rfl,rfl⟩) t2 ht2⟩
theorem ZR.cast{cR cM:Addr}{H:Hp}{m rd sd:Addr}{L:List Zu}{s:StL}{nb li lo li' lo':Int}{best:V}(h:ZR cR cM H m rd sd L s nb li lo best)(e1:li=li')(e2:lo=lo'):ZR cR cM H m rd sd L s nb li' lo' best:=by subst e1;subst e2;exact h
theorem Zg0{N:List Int}(h:N≠[]):atI (N.map V.int) (-1)=some (.int (N.getLastD 0)):=by
 have e:N=N.dropLast++[N.getLast h]:=(List.dropLast_concat_getLast h).symm
 have:=ZkE (N.dropLast.map V.int) (V.int (N.getLast h))
 rw[Qaj,QaJ h]
 conv=>lhs;rw[e,Qj]
 exact this
theorem Zhi{N:List Int}(h:N≠[]):atI (N.map V.int) 0=some (.int (N.headD 0)):=by
 cases N with
 | nil=>exact absurd rfl h
 | cons a r=>exact Zat (j:=0) rfl
theorem Zc6(rd:Addr)(nb li lo:Int)(sd:Addr)(best:V):(mgF rd nb li lo sd best).lookup ("play" : Str)=none:=ZbH _ _ _ _ _ _ (by ac_rfl) (by ac_rfl) (by ac_rfl) (by ac_rfl) (by ac_rfl) (by ac_rfl)
theorem Zev(rd:Addr)(nb li lo:Int)(sd:Addr)(best:V):(mgF rd nb li lo sd best).lookup ("meet" : Str)=none:=ZbH _ _ _ _ _ _ (by ac_rfl) (by ac_rfl) (by ac_rfl) (by ac_rfl) (by ac_rfl) (by ac_rfl)
def Zkv(K:PySem.W.Frag)(cR cM:Addr)(n:Nat):Sp:=fun vs H Q _=>∃ (m rd sd:Addr) (L:List Zu) (s:StL) (nb li lo:Int) (best:V) (l:Addr) (N:List Int),vs=[.ref m,.ref l]∧ZR cR cM H m rd sd L s nb li lo best∧H l=some (.lst (N.map V.int))∧1≤N.length∧N.length≤60∧0<n∧N.length≤2 ^ (n-1)∧(∀x∈N,x∈Zv L)∧Z8 N∧(∀k,Zdk n N k→ZK s k=none)∧s.length+N.length≤100 ∧
 ∀ (w:Option Int) (s':StL) (k q:Int) (H':Hp),Win (hdM L) N w→Zea (hdM L) s' n N→Zds (hdM L) n N k q→(∀j,¬ Zdk n N j→ZK s' j=ZK s j)→s'.length+1≤s.length+N.length→ZR cR cM H' m rd sd L s' nb (li+k) (lo+q) best→(∀b o,H b=some o→b≠m→b≠sd→H' b=some o)→Q (Zde w) H'
theorem ZiA(T:Zay K mg cRow cMerge)(f_Row_head:Mf P w K mg base 2 cRow "head" ["self"] (ZeG cRow))(f_halves:Df P w K mg base 1 "halves" ["numbers"] (ZdH K true))(f_Merge_meet:Mf P w K mg base 3 cMerge "meet" ["self", "one", "other", "far"] (ZhN cRow cMerge)) :
  ∀n:Nat,Mf P w K mg base (n+4) cMerge "play" ["self", "numbers"] (Zkv K cRow cMerge n)
 | 0=>by
  refine T.t_Merge_play.mf Z2 (fun vs H Q E h=>?_) (fun cdv f A outer s H vs Q E hr h=>?_)
  ·obtain⟨m,rd,sd,L,s,nb,li,lo,best,l,N,rfl,_⟩:=h
   rfl
  obtain⟨m,rd,sd,L,s,nb,li,lo,best,l,N,rfl,_,_,_,_,z,_⟩:=h
  exact absurd z (by omega)
 | n+1=>by
  have f_Merge_play:=ZiA T f_Row_head f_halves f_Merge_meet n
  refine T.t_Merge_play.mf Z2 (fun vs H Q E h=>?_) (fun cdv f A outer s H vs Q E hr h=>?_)
  ·obtain⟨m,rd,sd,L,s,nb,li,lo,best,l,N,rfl,_⟩:=h
   rfl
  obtain⟨m,rd,sd,L,s,nb,li,lo',best,l,N,rfl,M,hl,h1,h60,_,hp2,hmem,hup,hfree,hsz,q⟩:=h
  rw[Qar]at hp2
  refine⟨_,#[Zg,#[Zaz,#[Zs,Zbw,#[Zm,(Zc7 K),T.b.n_len,QD,#[Za,‹1›,#[Ze]]],#[Zh],(Zx _)],#[Zi,#[Zr,#[Zbb,#[Zs,Zcb,#[Zbo,f_Row_head,T.cl_Row,hr,#[ZG,(ixG hr),#[Z0,‹0›],#[ZG,(ixL K),‹1›,#[Zh]]]],#[Zad],(Zx _)],#[Zad],#[ZG,(ixL K),‹1›,#[Zh]]]]],(@ZU _)],#[Zg,#[Zbd,#[ZM,f_halves,hr,#[Za,‹1›,#[Ze]],(by rfl)],#[gT,K,2,#[ZB,#[ZJ,2,Z2.nd,(Or.inl rfl)],#[ZB,#[ZJ,3,Z2.nd,(Or.inl rfl)],(@ZaZ _)]]]],#[Zg,#[Zz,4,Z2.nd,(Or.inl rfl),#[ZcZ,f_Merge_play,T.cl_Merge,hr,‹0›,#[Za,‹2›,#[Ze]]]],#[Zg,#[Zz,5,Z2.nd,(Or.inl rfl),#[ZcZ,f_Merge_play,T.cl_Merge,hr,‹0›,#[Za,‹3›,#[Ze]]]],#[Zg,#[Zaz,#[Zs,Zcb,‹4›,#[Zad],(Zx _)],#[Zi,#[Zr,‹5›]],(@ZU _)],#[Zg,#[Zaz,#[Zs,Zcb,‹5›,#[Zad],(Zx _)],#[Zi,#[Zr,‹4›]],(@ZU _)],#[Zg,#[Zbd,#[ZcZ,f_Merge_meet,T.cl_Merge,hr,‹0›,#[Za,‹4›,#[Za,‹5›,#[Za,#[Zh],#[Ze]]]]],#[gT,K,3,#[ZB,#[ZJ,6,Z2.nd,(Or.inl rfl)],#[ZB,#[ZJ,7,Z2.nd,(Or.inl rfl)],#[ZB,#[ZJ,8,Z2.nd,(Or.inl rfl)],(@ZaZ _)]]]]],#[Zg,#[Zbd,#[ZaV,#[Za,‹7›,#[Za,‹8›,#[Ze]]]],#[Zdh,#[Z0,‹0›],#[ZaV,#[Za,#[ZG,(ixL K),‹1›,#[Zh]],#[Za,#[ZG,(ixL K),‹1›,(@ZiD _ _ _ _ _ _ Zgr #[Zh])],#[Ze]]]],(ZkF hr)]],#[Zi,#[Zr,‹6›]]]]]]]]]],?_⟩
  obtain⟨dx,hm⟩:=M.ob
  have hN:N≠[]:=ZZ h1
  have nml:l≠m:=fun z=>by rw[z,hm]at hl;cases hl
  have nsl:l≠sd:=fun z=>by rw[z,M.stays]at hl;cases hl
  have hll:(((N.map V.int).length:Nat):Int)=(N.length:Int):=by rw[Qb]
  refine⟨_,rfl,l,_,rfl,.inl (SqL.of hl),rfl,_,rfl,Zbx (fun d=>?_) (fun d=>?_)⟩
  ·have hone:N.length=1:=by have:=of_decide_eq_true d;injection this with this;rw[hll]at this;omega
   obtain⟨n0,rfl⟩:∃n0,N=[n0]:=QaW.mp hone
   obtain⟨e,he,rfl⟩:=ZcD (hmem n0 (by simp))
   have R:=M.each e he
   obtain⟨dp,hp⟩:=R.at'.ob
   have hat:atI (([e.n]:List Int).map V.int) 0=some (.int e.n):=Zat (j:=0) rfl
   refine⟨_,rfl,xw5 m cMerge dx _ _ ⟨rfl,hm,T.cl_Merge,T.na_Merge_rows,ZaY ..,_,rfl,xw4 l _ _ _ ⟨rfl,rfl,SqL.of hl,hat,rd,_,rfl,Zbe.k' (k:=.inl e.n) M.rows (ZeO M.nd he),e.p,dp,_,rfl,hp,Za9 ..,xw5 e.p e.k e.f e.ss e.g ⟨rfl,R.at',rfl,_,rfl,?_⟩⟩⟩⟩
   have hst:Zea (hdM L) s (n+1) [e.n]:=fun h2=>by simp at h2
   have hpl:Zds (hdM L) (n+1) [e.n] 0 0:=.few (by show 1<2;decide)
   have hwin:=Win.sing (hd:=hdM L) (n:=e.n)
   have hd:=Zdg M.nd he
   have M':=M.cast (li':=li+0) (lo':=lo'+0) (by omega) (by omega)
   cases hx:e.ss[e.g]? with
   | none =>
    rw[show ZdA e.ss e.g=.non by unfold ZdA;rw[hx]]
    rw[hd,hx]at hwin
    exact Zdz rfl (q none s 0 0 H hwin hst hpl (fun _ _=>rfl) (Qf _) M' (fun b o h _ _=>h))
   | some x =>
    rw[Zdp hx]
    rw[hd,hx]at hwin
    exact Zck (fun z=>nomatch z) ⟨_,rfl,xw4 l _ _ _ ⟨rfl,rfl,SqL.of hl,hat,q (some e.n) s 0 0 H hwin hst hpl (fun _ _=>rfl) (Qf _) M' (fun b o h _ _=>h)⟩⟩
  have hge:2≤N.length:=by
   have:¬ ((N.length:Int)=1):=fun z=>d (decide_eq_true (by rw[hll,z]))
   omega
  have hn1:1≤n:=by
   cases n with
   | zero=>simp at hp2;omega
   | succ m=>omega
  have hpow:2 ^ n=2*2 ^ (n-1):=by
   obtain⟨m,rfl⟩:∃m,n=m+1:=⟨n-1,by omega⟩
   rw[Nat.pow_succ,Qar];omega
  have hlo:(lo N).length≤2 ^ (n-1)∧(lo N).length≤60:=by unfold lo mid;rw[Qr];omega
  have hupl:(up N).length≤2 ^ (n-1)∧(up N).length≤60:=by unfold up mid;rw[Qp];omega
  have hsum:(lo N).length+(up N).length=N.length:=by rw[← Qd,Zbr]
  have hmlo:∀x∈lo N,x∈Zv L:=fun x hx=>hmem x (Qae hx)
  have hmup:∀x∈up N,x∈Zv L:=fun x hx=>hmem x (Q0 hx)
  refine⟨_,rfl,l,N,rfl,SqL.of hl,by omega,fun t f r H2 ht hf hr' nfr ht2 hf2 hr2 s2 ntf ntr=>?_⟩
  rw[if_pos rfl]at ht2
  rw[ZmO]at hf2
  rw[ZnK]at hr2
  refine⟨t,_,rfl,SqT.of ht2,rfl,_,_,rfl,_,_,rfl,rfl,?_⟩
  have M2:=M.same s2
  have hm2:=s2 _ _ hm
  have nfm:r≠m:=(Zb hm hr').symm
  have nfs:r≠sd:=(Zb M.stays hr').symm
  refine⟨_,rfl,m,dx,_,rfl,hm2,Zc6 ..,_,rfl,m,rd,sd,L,s,nb,li,lo',best,f,lo N,rfl,M2,hf2,(Zcr hge).2,hlo.2,hn1,hlo.1,hmlo,ZcO hup,fun k hk=>hfree k ⟨hge,.inl hk⟩,by omega,fun w1 s1 k1 q1 H3 W1 S1 P1 o1 l1 M3 b3=>?_⟩
  have hr3:=b3 _ _ hr2 nfm nfs
  obtain⟨dx3,hm3⟩:=M3.ob
  refine⟨_,rfl,m,dx3,_,rfl,hm3,Zc6 ..,_,rfl,m,rd,sd,L,s1,nb,_,_,best,r,up N,rfl,M3,hr3,(Zdf hge).2,hupl.2,hn1,hupl.1,hmup,ZcJ hup,fun k hk=>?_,by omega,fun w2 s2' k2 q2 H4 W2 S2 P2 o2 l2 M4 b4=>?_⟩
  ·rw[o1 k ((Zgu hup hge hk).2 n)]
   exact hfree k ⟨hge,.inr (.inl hk)⟩
  have key_n:¬ Zdk n (lo N) (ZE N)∧¬ Zdk n (up N) (ZE N):=⟨fun z=>(Zgj hup hge z).1 rfl,fun z=>(Zgu hup hge z).1 rfl⟩
  have S1':Zea (hdM L) s2' n (lo N):=S1.congr n _ (fun _ _=>rfl) (fun k hk=>o2 k ((Zgj hup hge hk).2 n))
  have hk2:ZK s2' (ZE N)=none:=by rw[o2 _ key_n.2,o1 _ key_n.1];exact hfree _ ⟨hge,.inr (.inr rfl)⟩
  have oth:∀j,¬ Zdk (n+1) N j→ZK s2' j=ZK s j:=fun j hj=>by
   rw[o2 j (fun z=>hj ⟨hge,.inr (.inl z)⟩),o1 j (fun z=>hj ⟨hge,.inl z⟩)]
  have b04:∀b o,H b=some o→b≠m→b≠sd→H4 b=some o:=fun b o hb n1 n2=>b4 b o (b3 b o (s2 b o hb) n1 n2) n1 n2
  have none':∀wn,Win (hdM L) N wn→(Win (hdM L) (lo N) none∨Win (hdM L) (up N) none)→Q (Zde wn) H4:=fun wn hw hno=>by
   refine q wn s2' (k1+k2) (q1+q2) H4 hw (fun _=>⟨S1',S2,fun a b x y wa wb _ _=>?_,fun _=>.inl hk2⟩) (.none hge P1 P2 hno) oth (by omega) (M4.cast (by omega) (by omega)) b04
   rcases hno with z|z
   ·exact nomatch z.one wa
   ·exact nomatch z.one wb
  cases w1 with
  | none=>exact⟨_,rfl,rfl,_,rfl,Zdz rfl ⟨_,rfl,none' w2 (by have:=Win.right W1 W2;rwa [Zbr]at this) (.inl W1)⟩⟩
  | some a =>
  refine⟨_,rfl,rfl,_,rfl,Zck (fun z=>nomatch z) ?_⟩
  cases w2 with
  | none=>exact⟨_,rfl,rfl,_,rfl,Zdz rfl ⟨_,rfl,none' (some a) (by have:=Win.left W1 W2;rwa [Zbr]at this) (.inr W2)⟩⟩
  | some b =>
  refine⟨_,rfl,rfl,_,rfl,Zck (fun z=>nomatch z) ?_⟩
  obtain⟨ea,hea,ea'⟩:=ZcD (hmlo a W1.1)
  obtain⟨eb,heb,eb'⟩:=ZcD (hmup b W2.1)
  subst ea'
  subst eb'
  have hda:=Zdg M.nd hea
  have hdb:=Zdg M.nd heb
  cases hx:ea.ss[ea.g]? with
  | none=>obtain⟨_,z,hz,_⟩:=W1;rw[hda,hx]at hz;cases hz
  | some x =>
  cases hy:eb.ss[eb.g]? with
  | none=>obtain⟨_,z,hz,_⟩:=W2;rw[hdb,hy]at hz;cases hz
  | some y =>
  rw[hx]at hda
  rw[hy]at hdb
  obtain⟨dx4,hm4⟩:=M4.ob
  refine⟨_,rfl,m,dx4,_,rfl,hm4,Zev ..,_,rfl,_,rfl,m,rd,sd,L,s2',nb,_,_,best,ea,eb,x,y,0,rfl,M4,hea,heb,hx,hy,Qv _,fun t5 wi lz H5 hw ht5 ht5' M5 b5=>?_⟩
  refine⟨t5,_,rfl,SqT.of ht5',rfl,_,_,rfl,_,_,rfl,_,_,rfl,rfl,?_⟩
  have sz2:2≤sizeLine:=by decide
  refine⟨_,rfl,_,rfl,sz2,fun t6 ht6=>?_⟩
  have s6:=Zj ht6 (.tup [.int lz,.int ((lcp (cds x) (cds y):Nat):Int)])
  have ht66:(upd H5 t6 (.tup [.int lz,.int ((lcp (cds x) (cds y):Nat):Int)])) t6=some (.tup [.int lz,.int ((lcp (cds x) (cds y):Nat):Int)]):=Zd
  have M6:=M5.same s6
  generalize upd H5 t6 (.tup [.int lz,.int ((lcp (cds x) (cds y):Nat):Int)])=H6 at s6 ht66 M6 ⊢
  obtain⟨dx6,hm6⟩:=M6.ob
  have hl6:H6 l=some (.lst (N.map V.int)):=s6 _ _ (b5 _ _ (b04 _ _ hl nml nsl) nml)
  refine⟨_,rfl,xw5 m cMerge dx6 _ _ ⟨rfl,hm6,T.cl_Merge,T.na_Merge_stays,Zb0 ..,_,rfl,xw4 l _ _ _ ⟨rfl,rfl,SqL.of hl6,Zhi hN,_,rfl,_,rfl,xw4 l _ _ _ ⟨rfl,rfl,SqL.of hl6,Zg0 hN,sz2,fun t7 ht7=>?_⟩⟩⟩⟩
  have s7:=Zj ht7 (.tup [.int (N.headD 0),.int (N.getLastD 0)])
  have ht77:(upd H6 t7 (.tup [.int (N.headD 0),.int (N.getLastD 0)])) t7=some (.tup ([.inl (ZE N).1,.inl (ZE N).2].map kV)):=Zd
  have M7:=M6.same s7
  generalize upd H6 t7 (.tup [.int (N.headD 0),.int (N.getLastD 0)])=H7 at s7 ht77 M7 ⊢
  have hsl:(kvS s2').length<sizeLine:=by unfold kvS;rw[Qb];exact Z5 (by omega)
  refine⟨sd,_,rfl,ZdV.t (k:=[.inl (ZE N).1,.inl (ZE N).2]) M7.stays ht77 hsl,?_⟩
  rw[show V.ref t6=stV (some (t6,lz,((lcp (cds x) (cds y):Nat):Int))) from rfl,Zeo]
  have hpl:=Zlk s2' (ZE N) (some (t6,lz,((lcp (cds x) (cds y):Nat):Int)))
  have l1':=(Zcr hge).2
  have M8:=M7.put (k:=ZE N) (v:=some (t6,lz,((lcp (cds x) (cds y):Nat):Int))) (fun t ht=>by injection ht with ht;rw[← ht];exact s7 _ _ ht66) (by omega)
  have hne:ea.n≠eb.n:=fun z=>by have:=ZC hup W1.1 W2.1;omega
  have b08:∀b o,H b=some o→b≠m→b≠sd→(upd H7 sd (.dT (kvS (ZbQ s2' (ZE N) (some (t6,lz,((lcp (cds x) (cds y):Nat):Int))))))) b=some o:=fun b o hb n1 n2=>by
   rw[Zc n2];exact s7 _ _ (s6 _ _ (b5 _ _ (b04 _ _ hb n1 n2) n1))
  have hwin:Win (hdM L) N (some wi):=by
   rcases hw with⟨w0,rfl,_⟩|⟨w0,rfl,_⟩
   ·have:=Win.both W1 W2 hda hdb w0;rwa [Zbr]at this
   ·have:=Win.both' W1 W2 hda hdb ((Btr.total hne).resolve_left w0);rwa [Zbr]at this
  have hlz:lz=if ZA (cds x) (cds y)<0∨(ZA (cds x) (cds y)=0∧ea.n<eb.n) then eb.n else ea.n:=by
   rcases hw with⟨w0,_,rfl⟩|⟨w0,_,rfl⟩
   ·exact(if_pos (show ZA (cds x) (cds y)<0∨(ZA (cds x) (cds y)=0∧ea.n<eb.n) from w0)).symm
   ·exact(if_neg (show ¬ (ZA (cds x) (cds y)<0∨(ZA (cds x) (cds y)=0∧ea.n<eb.n)) from w0)).symm
  refine⟨_,rfl,q (some wi) _ (k1+k2+1) (q1+q2+(lcp (cds x) (cds y):Nat)+1) _ hwin (fun _=>⟨?_,?_,?_,fun hno=>?_⟩) (.both hge P1 P2 W1 W2 hda hdb) (fun j hj=>?_) (by omega) (M8.cast (by omega) (by omega)) b08⟩
  ·exact S1'.congr n _ (fun _ _=>rfl) (fun k hk=>by rw[Zax,if_neg (Zgj hup hge hk).1])
  ·exact S2.congr n _ (fun _ _=>rfl) (fun k hk=>by rw[Zax,if_neg (Zgu hup hge hk).1])
  ·intro a' b' x' y' wa wb hxa hyb
   have e1:=Qo (wa.one W1)
   have e2:=Qo (wb.one W2)
   subst e1
   subst e2
   have e3:=Qo (hxa.symm.trans hda)
   have e4:=Qo (hyb.symm.trans hdb)
   subst e3
   subst e4
   exact⟨t6,by rw[Zax,if_pos rfl,hlz]⟩
  ·rcases hno with z|z
   ·exact nomatch z.one W1
   ·exact nomatch z.one W2
  ·rw[Zax,if_neg (fun z=>hj ⟨hge,.inr (.inr z)⟩)]
   exact oth j hj
theorem ZcY.mono{C:Addr}{H H':Hp}{e:Zu}(h:ZcY C H e)(k:∀b o,H b=some o→b=e.p∨b=e.k∨b=e.f→H' b=some o):ZcY C H' e:=by
 obtain⟨dx,hd⟩:=h.at'.ob
 exact⟨⟨⟨dx,k _ _ hd (.inl rfl)⟩,k _ _ h.at'.ks (.inr (.inl rfl)),k _ _ h.at'.fs (.inr (.inr rfl))⟩,h.le,h.len,h.srt,h.str⟩
theorem ZjN(L:List Zu):(kvM L).map (fun kv=>kV kv.1)=(Zv L).map V.int:=by unfold kvM Zv;rw[QF,QF];rfl
theorem Zll{n:Nat}{N:List Int}{k:Int×Int}(_:Zdk n N k):ZK [] k=none:=rfl
def Zfk(cR cM:Addr):Sp:=fun vs H Q _=>∃ (m rd sd:Addr) (L:List Zu) (s:StL) (nb li lo:Int) (best:V),vs=[.ref m]∧ZR cR cM H m rd sd L s nb li lo best ∧
 ∀ (sd':Addr) (s':StL) (w:Option Int) (k q:Int) (H':Hp),H sd'=none→Win (hdM L) (Zv L) w→Zea (hdM L) s' 8 (Zv L)→Zds (hdM L) 8 (Zv L) k q→ZR cR cM H' m rd sd' L s' nb (li+k) (lo+q) (Zde w)→(∀b o,H b=some o→b≠m→H' b=some o)→Q .non H'
theorem Zhg(T:Zay K mg cRow cMerge)(f_Merge_play:Mf P w K mg base 12 cMerge "play" ["self", "numbers"] (Zkv K cRow cMerge 8)):Mf P w K mg base 13 cMerge "play_all" ["self"] (Zfk cRow cMerge):=by
 refine T.t_Merge_play_all.mf ZdF (fun vs H Q E h=>?_) (fun cdv f A outer s H vs Q E hr h=>?_)
 ·obtain⟨m,rd,sd,L,s,nb,li,lo,best,rfl,_⟩:=h
  rfl
 obtain⟨m,rd,sd,L,s,nb,li,lo',best,rfl,M,q⟩:=h
 refine⟨_,#[Zg,#[Zbc,‹0›,(@ZiI _ _)],#[Zi,#[Zbc,‹0›,#[Zbb,#[Zs,Zg2,#[Zm,Zpi,T.b.n_len,QD,#[Za,#[Z0,‹0›],#[Ze]]],#[Zh],(Zx _)],#[ZcZ,f_Merge_play,T.cl_Merge,hr,‹0›,#[Za,#[ZcN,ZoI,T.b.n_list,boot_list,#[Za,#[Z0,‹0›],#[Ze]]],#[Ze]]],#[Zad]]]]],?_⟩
 refine fun sd' hsd=>?_
 obtain⟨dx,hm⟩:=M.ob
 have s1:=Zj hsd (.dT [])
 have hs1:(upd H sd' (.dT [])) sd'=some (.dT (kvS [])):=Zd
 have M1:=M.same s1
 have hm1:=s1 _ _ hm
 have nms:m≠sd':=Zb hm hsd
 have nrs:rd≠sd':=Zb M.rows hsd
 generalize upd H sd' (.dT [])=H1 at s1 hs1 M1 hm1 ⊢
 refine⟨_,rfl,xw4 m cMerge dx _ ⟨rfl,hm1,T.cl_Merge,T.na_Merge_stays,ZbA ..,?_⟩⟩
 rw[Zfa]
 obtain⟨n1,n2,n3⟩:=M.ne_m
 have M2:ZR cRow cMerge (upd H1 m (.ins cMerge dx (mgF rd nb li lo' sd' best))) m rd sd' L [] nb li lo' best:=by
  refine⟨⟨dx,Zd⟩,by rw[Zc n1.symm];exact M1.rows,by rw[Zc nms.symm];exact hs1,(fun e he=>by cases he),fun e he=>?_,M.up,M.pd,M.few,by decide⟩
  obtain⟨a,b,c⟩:=M1.ne_p he
  exact(M1.each e he).keep (Zc a.symm) (Zc b.symm) (Zc c.symm)
 have k2:∀b o,H b=some o→b≠m→(upd H1 m (.ins cMerge dx (mgF rd nb li lo' sd' best))) b=some o:=fun b o hb n=>by rw[Zc n];exact s1 b o hb
 generalize upd H1 m (.ins cMerge dx (mgF rd nb li lo' sd' best))=H2 at M2 k2 ⊢
 obtain⟨dx2,hm2⟩:=M2.ob
 have hlen:(((kvM L).length:Nat):Int)=(L.length:Int):=by unfold kvM;rw[Qb]
 have hnl:(Zv L).length=L.length:=by unfold Zv;rw[Qb]
 have hfew:=M.few
 refine⟨_,rfl,xw5 m cMerge dx2 _ _ ⟨rfl,hm2,T.cl_Merge,T.na_Merge_rows,ZaY ..,rd,_,rfl,M2.rows,_,_,rfl,rfl,_,rfl,Zbx (fun d=>?_) (fun d=>?_)⟩⟩
 ·have hpos:0<L.length:=by have:(0:Int)<(((kvM L).length:Nat):Int):=of_decide_eq_true d;omega
  refine⟨_,rfl,m,dx2,_,rfl,hm2,Zc6 ..,_,rfl,xw5 m cMerge dx2 _ _ ⟨rfl,hm2,T.cl_Merge,T.na_Merge_rows,ZaY ..,rd,_,rfl,M2.rows,fun l hl=>?_⟩⟩
  rw[ZjN]
  have s3:=Zj hl (.lst ((Zv L).map V.int))
  have hl3:(upd H2 l (.lst ((Zv L).map V.int))) l=some (.lst ((Zv L).map V.int)):=Zd
  have M3:=M2.same s3
  generalize upd H2 l (.lst ((Zv L).map V.int))=H3 at s3 hl3 M3 ⊢
  refine⟨m,rd,sd',L,[],nb,li,lo',best,l,Zv L,rfl,M3,hl3,by omega,by omega,by decide,QP (by omega:(Zv L).length≤60) (by decide),fun x hx=>hx,M.up,fun k hk=>Zll hk,by show 0+_≤_;omega,fun w1 s' k q' H4 W S Pl _ _ M4 b4=>?_⟩
  obtain⟨dx4,hm4⟩:=M4.ob
  refine⟨_,rfl,xw4 m cMerge dx4 _ ⟨rfl,hm4,T.cl_Merge,T.na_Merge_best,ZbA ..,?_⟩⟩
  rw[Zbg]
  exact q sd' s' w1 k q' _ hsd W S Pl M4.obj (fun b o hb n=>by rw[Zc n];exact b4 b o (s3 b o (k2 b o hb n)) n (Zb hb hsd))
 ·have hnil:L=[]:=by
   cases L with
   | nil=>rfl
   | cons e r=>exact absurd (decide_eq_true (show (0:Int)<(((kvM (e::r)).length:Nat):Int) by rw[hlen];simp only[List.length_cons];omega)) d
  subst hnil
  refine⟨_,rfl,xw4 m cMerge dx2 _ ⟨rfl,hm2,T.cl_Merge,T.na_Merge_best,ZbA ..,?_⟩⟩
  rw[Zbg]
  exact q sd' [] none 0 0 _ hsd (Win.nil _) (fun h2=>absurd h2 (by decide)) (.few (by decide)) (M2.obj.cast (by omega) (by omega)) (fun b o hb n=>by rw[Zc n];exact k2 b o hb n)
def Zm8(L:List Zu)(rs:List (Addr×List Str)):Prop:=Zv L=Zcm 0 rs.length∧L.map (fun e=>(e.ss,e.g))=rs.map fun x=>(x.2,0)
def Zhk(cR cM:Addr):Sp:=fun vs H Q _=>∃ (m dx r:Addr) (rs:List (Addr×List Str)),vs=[.ref m,.ref r]∧H m=some (.ins cM dx [])∧Zda H r rs∧(∀x∈rs,sortedS x.2=true) ∧
 ∀ (rd sd:Addr) (L:List Zu) (s:StL) (w:Option Int) (k q:Int) (H':Hp),ZR cR cM H' m rd sd L s (rs.length:Int) k q (Zde w)→Zm8 L rs→Win (hdM L) (Zv L) w→Zea (hdM L) s 8 (Zv L)→Zds (hdM L) 8 (Zv L) k q→(∀b,Fp m rd sd L b→b=m∨H b=none)→(∀b o,H b=some o→b≠m→H' b=some o)→Q .non H'
theorem Zew(rd:Addr)(nb li lo:Int)(sd:Addr)(best:V):(mgF rd nb li lo sd best).lookup ("play_all" : Str)=none:=ZbH _ _ _ _ _ _ (by ac_rfl) (by ac_rfl) (by ac_rfl) (by ac_rfl) (by ac_rfl) (by ac_rfl)
theorem Zmd{ss:List Str}(h:sortedS ss=true):Zhe ss .non:=by
 refine .inl ⟨rfl,fun i x y hx hy=>?_⟩
 have:=ZfD h i y x hy hx
 have:=ZaK (cds y) (cds x)
 omega
theorem Ze4(T:Zay K mg cRow cMerge)(f_refuse_break:Df P w K mg base 5 "refuse_break" ["number", "keys"] (Ze2 K))(f_Row_init:Cf P w K mg base 4 cRow "Row" ["self", "keys"] (ZfO cRow))(f_Merge_play_all:Mf P w K mg base 13 cMerge "play_all" ["self"] (Zfk cRow cMerge)):Cf P w K mg base 14 cMerge "Merge" ["self", "rows"] (Zhk cRow cMerge):=by
 refine T.t_Merge_init.cf ZbD (fun vs H Q E h=>?_) (fun cdv f A outer s H vs Q E hr h=>?_)
 ·obtain⟨m,dx,r,rs,rfl,_⟩:=h
  rfl
 obtain⟨m,dx,r,rs,rfl,hm,hrs,hsrt,q⟩:=h
 refine⟨_,#[Zg,#[Zbc,‹0›,(@ZjV _ _)],#[Zg,#[Zb4,PassesOwn.never,#[iE,K,T.b.n_enumerate,#[Za,‹1›,#[Ze]]],#[gT,K,2,#[ZB,#[ZJ,2,ZbD.nd,(Or.inl rfl)],#[ZB,#[ZJ,3,ZbD.nd,(Or.inl rfl)],(@ZaZ _)]]],#[Zg,#[ZaO,#[ZM,f_refuse_break,hr,#[Za,‹2›,#[Za,‹3›,#[Ze]]],(by rfl)]],#[Zi,#[Zbd,#[ZmL,f_Row_init,hr,#[Za,‹3›,#[Ze]]],#[Zdh,#[Z0,‹0›],‹2›,(ZkF hr)]]]]],#[Zg,#[Zbc,‹0›,#[Zm,(Zc7 K),T.b.n_len,QD,#[Za,‹1›,#[Ze]]]],#[Zg,#[Zbc,‹0›,#[Zh]],#[Zg,#[Zbc,‹0›,#[Zh]],#[Zg,#[Zbc,‹0›,(@ZiI _ _)],#[Zg,#[Zbc,‹0›,#[Zad]],#[Zi,#[ZaO,#[Zbo,f_Merge_play_all,T.cl_Merge,hr,‹0›]]]]]]]]]],?_⟩
 refine fun rd hrd=>?_
 have nmr:m≠rd:=Zb hm hrd
 have s1:=Zj hrd (.dK [])
 have hr1:(upd H rd (.dK [])) rd=some (.dK (kvM [])):=Zd
 have hm1:=s1 _ _ hm
 generalize upd H rd (.dK [])=H1 at s1 hr1 hm1 ⊢
 refine⟨_,rfl,xw4 m cMerge dx _ ⟨rfl,hm1,T.cl_Merge,T.na_Merge_rows,(by show 0<1000;decide),?_⟩⟩
 have nrm:r≠m:=fun z=>by have:=hrs.at';rw[z,hm]at this;cases this
 have k2:∀b o,H b=some o→b≠m→(upd H1 m (.ins cMerge dx (Zl "rows" (.ref rd) []))) b=some o:=fun b o hb n=>by rw[Zc n];exact s1 b o hb
 have hm2:(upd H1 m (.ins cMerge dx (Zl "rows" (.ref rd) []))) m=some (.ins cMerge dx (Zl "rows" (.ref rd) [])):=Zd
 have hr2:(upd H1 m (.ins cMerge dx (Zl "rows" (.ref rd) []))) rd=some (.dK (kvM [])):=by rw[Zc nmr.symm];exact hr1
 generalize upd H1 m (.ins cMerge dx (Zl "rows" (.ref rd) []))=H2 at k2 hm2 hr2 ⊢
 have hfew:=hrs.few
 have lkr:(Zl "rows" (.ref rd) []).lookup ("rows" : Str)=some (V.ref rd):=by rw[Zk,if_pos rfl]
 refine⟨_,rfl,r,_,rfl,SqL.of (k2 _ _ hrs.at' nrm),?_⟩
 refine Ze1 (K:=K) (a:=r) (xs:=rs.map fun x=>V.ref x.1) (fun i σ H5=>∃ (L:List Zu) (v2 v3:Option V),σ=[some (.ref m),some (.ref r),v2,v3]∧H5 m=some (.ins cMerge dx (Zl "rows" (.ref rd) []))∧H5 rd=some (.dK (kvM L))∧(∀e∈L,ZcY cRow H5 e)∧Zm8 L (rs.take i)∧(L.map (·.p)).Nodup∧(∀e∈L,H e.p=none∧H e.k=none∧H e.f=none)∧(∀b o,H b=some o→b≠m→H5 b=some o)) ⟨[],_,_,rfl,hm2,hr2,(fun e h=>by cases h),⟨rfl,rfl⟩,List.nodup_nil,(fun e h=>by cases h),k2⟩ (fun i σ H5 hq=>by obtain⟨_,_,_,_,_,_,_,_,_,_,k5⟩:=hq;exact SqL.of (k5 _ _ hrs.at' nrm)) ?_ ?_
 ·rintro i y σ H5 p hy ⟨L,v2,v3,rfl,hm5,hr5,each,⟨n1,n2⟩,pd,hfr,k5⟩ hp
  rw[Qu]at hy
  cases hz:rs[i]? with
  | none=>rw[hz]at hy;cases hy
  | some x =>
  rw[hz]at hy
  cases hy
  have hil:i<rs.length:=(Qg.mp hz).1
  have hxm:=QM hz
  obtain⟨lx,l100,laz⟩:=hrs.lst x hxm
  have nxm:x.1≠m:=fun z=>by rw[z,hm]at lx;cases lx
  have hLl:L.length=i:=by have:=congrArg List.length n1;unfold Zv at this;rw[Qb,ZeD,Qr]at this;omega
  have hlt:∀e∈L,e.n≠(i:Int):=fun e he z=>by
   have h1:e.n∈Zcm 0 (rs.take i).length:=by rw[← n1];exact Qm (f:=fun e:Zu=>e.n) he
   unfold Zcm at h1
   obtain⟨j,hj,ej⟩:=QJ.mp h1
   have:=List.mem_range.mp hj
   rw[Qr]at this
   omega
  have sp:=Zj hp (.tup [.int (i:Int),.ref x.1])
  have hp6:(upd H5 p (.tup [.int (i:Int),.ref x.1])) p=some (.tup [.int (i:Int),.ref x.1]):=Zd
  generalize upd H5 p (.tup [.int (i:Int),.ref x.1])=H6 at sp hp6 ⊢
  refine⟨p,_,rfl,SqT.of hp6,rfl,_,_,rfl,_,_,rfl,rfl,?_⟩
  have lx6:H6 x.1=some (.lst (x.2.map V.str)):=sp _ _ (k5 _ _ lx nxm)
  refine⟨_,rfl,_,rfl,(i:Int),x.1,x.2,rfl,SqL.of lx6,by omega,fun s hs=>(laz s hs).1,Zmd (hsrt x hxm),fun H7 s7=>?_⟩
  have s57:=sp.trans s7
  refine⟨_,rfl,fun u dy hu hdy ndu=>?_⟩
  have hu5:H5 u=none:=s57.free hu
  have lx8:(upd (upd H7 dy (.own u)) u (.ins cRow dy [])) x.1=some (.lst (x.2.map V.str)):=by
   have:=s7 _ _ lx6
   rw[Zc (Zb this hu),Zc (Zb this hdy)];exact this
  have s8:∀b o,H5 b=some o→(upd (upd H7 dy (.own u)) u (.ins cRow dy [])) b=some o:=fun b o hb=>by
   have:=s57 _ _ hb
   rw[Zc (Zb this hu),Zc (Zb this hdy)];exact this
  have hu8:(upd (upd H7 dy (.own u)) u (.ins cRow dy [])) u=some (.ins cRow dy []):=Zd
  generalize upd (upd H7 dy (.own u)) u (.ins cRow dy [])=H8 at lx8 s8 hu8 ⊢
  refine⟨u,dy,x.1,x.2,rfl,hu8,lx8,l100,fun s hs=>(laz s hs).1,fun k f H9 hk hf nkf R k9=>⟨rfl,?_⟩⟩
  have s9:∀b o,H5 b=some o→H9 b=some o:=fun b o hb=>k9 b o (s8 b o hb) (Zb hb hu5)
  have free5:∀b,H8 b=none→H5 b=none:=fun b hb=>by
   cases e:H5 b with
   | none=>rfl
   | some o=>rw[s8 b o e]at hb;cases hb
  have free0:∀b,b≠m→H5 b=none→H b=none:=fun b nb hb=>by
   cases e:H b with
   | none=>rfl
   | some o=>rw[k5 b o e nb]at hb;cases hb
  have num:u≠m:=fun z=>by rw[z,hm5]at hu5;cases hu5
  have nkm:k≠m:=fun z=>by have:=free5 k hk;rw[z,hm5]at this;cases this
  have nfm:f≠m:=fun z=>by have:=free5 f hf;rw[z,hm5]at this;cases this
  have nrd:rd≠u∧rd≠k∧rd≠f:=⟨Zb hr5 hu5,Zb hr5 (free5 k hk),Zb hr5 (free5 f hf)⟩
  have hsz:(kvM L).length<sizeLine:=by unfold kvM;rw[Qb];exact Z5 (by omega)
  have hn1:Za0 (kvM L) (.inl (i:Int))=none:=by
   cases hv:Za0 (kvM L) (.inl (i:Int)) with
   | none=>rfl
   | some v=>obtain⟨e,he,z⟩:=QJ.mp (Zlh hv);injection z with z _;exact absurd (Sum.inl.inj z) (hlt e he)
  refine⟨_,rfl,xw5 m cMerge dx _ _ ⟨rfl,s9 _ _ hm5,T.cl_Merge,T.na_Merge_rows,lkr,_,rfl,rd,_,rfl,ZdV.k (k:=.inl (i:Int)) (s9 _ _ hr5) hsz,?_⟩⟩
  rw[ZkU _ hn1,show kvM L++[((.inl (i:Int):Key),V.ref u)]=kvM (L++[⟨(i:Int),u,k,f,x.2,0⟩]) by unfold kvM;rw[Qj];rfl]
  refine⟨L++[⟨(i:Int),u,k,f,x.2,0⟩],_,_,rfl,by rw[Zc nmr];exact s9 _ _ hm5,Zd,fun e he=>?_,⟨?_,?_⟩,?_,fun e he=>?_,fun b o hb n=>?_⟩
  ·rcases Qk.mp he with he|he
   ·have re:=each e he
    obtain⟨de,hde⟩:=re.at'.ob
    refine re.mono fun b o hb hor=>?_
    have nb:b≠rd:=fun z=>by
     rw[z,hr5]at hb
     injection hb with hb
     subst hb
     rcases hor with z2|z2|z2
     ·rw[← z2,z,hr5]at hde;cases hde
     ·have:=re.at'.ks;rw[← z2,z,hr5]at this;cases this
     ·have:=re.at'.fs;rw[← z2,z,hr5]at this;cases this
    rw[Zc nb];exact s9 b o hb
   ·rw[Ql.mp he]
    refine ZcY.keep (H:=H9) ⟨R,Qv _,l100,hsrt x hxm,laz⟩ (Zc nrd.1.symm) (Zc nrd.2.1.symm) (Zc nrd.2.2.symm)
  ·unfold Zv at n1 ⊢
   rw[Qj,n1,Qr,Qr,Q6 (by omega),Q6 (by omega)]
   unfold Zcm
   rw[List.range_succ,Qj]
   simp
  ·rw[Qj,n2,Qaa,hz,Qj];rfl
  ·rw[Qj]
   refine List.nodup_append.mpr ⟨pd,by simp,fun a ha b hb=>?_⟩
   obtain⟨e,he,rfl⟩:=QJ.mp ha
   have:b=u:=by simpa using hb
   rw[this]
   obtain⟨de,hde⟩:=(each e he).at'.ob
   exact Zb hde hu5
  ·rcases Qk.mp he with he|he
   ·exact hfr e he
   ·rw[Ql.mp he]
    exact⟨free0 u num hu5,free0 k nkm (free5 k hk),free0 f nfm (free5 f hf)⟩
  ·rw[Zc (Zb hb hrd)];exact s9 b o (k5 b o hb n)
 ·rintro σ H5 ⟨L,v2,v3,rfl,hm5,hr5,each,hnew,pd,hfr,k5⟩
  rw[Qb,Qx (Qf _)]at hnew
  have p1:=Za8 "rows" (V.ref rd) []
  have p2:=Za8 "next_number" (V.int (rs.length:Int)) (Zl "rows" (.ref rd) [])
  have p3:=Za8 "likened" (V.int 0) (Zl "next_number" (.int (rs.length:Int)) (Zl "rows" (.ref rd) []))
  have p4:=Za8 "looked" (V.int 0) (Zl "likened" (.int 0) (Zl "next_number" (.int (rs.length:Int)) (Zl "rows" (.ref rd) [])))
  have p0:([]:List (Str×V)).length=0:=rfl
  refine⟨_,rfl,r,_,rfl,.inl (SqL.of (k5 _ _ hrs.at' nrm)),_,rfl,xw4 m cMerge dx _ ⟨rfl,hm5,T.cl_Merge,T.na_Merge_next_number,by omega,?_⟩⟩
  rw[Qb]
  refine⟨_,rfl,xw4 m cMerge dx _ ⟨rfl,Zd,T.cl_Merge,T.na_Merge_likened,by omega,?_⟩⟩
  refine⟨_,rfl,xw4 m cMerge dx _ ⟨rfl,Zd,T.cl_Merge,T.na_Merge_looked,by omega,?_⟩⟩
  have k8:∀b,b≠m→(upd (upd (upd H5 m (.ins cMerge dx (Zl "next_number" (.int (rs.length:Int)) (Zl "rows" (.ref rd) [])))) m (.ins cMerge dx (Zl "likened" (.int 0) (Zl "next_number" (.int (rs.length:Int)) (Zl "rows" (.ref rd) []))))) m (.ins cMerge dx (Zl "looked" (.int 0) (Zl "likened" (.int 0) (Zl "next_number" (.int (rs.length:Int)) (Zl "rows" (.ref rd) [])))))) b=H5 b:=fun b n=>by rw[Zc n,Zc n,Zc n]
  have hm8:(upd (upd (upd H5 m (.ins cMerge dx (Zl "next_number" (.int (rs.length:Int)) (Zl "rows" (.ref rd) [])))) m (.ins cMerge dx (Zl "likened" (.int 0) (Zl "next_number" (.int (rs.length:Int)) (Zl "rows" (.ref rd) []))))) m (.ins cMerge dx (Zl "looked" (.int 0) (Zl "likened" (.int 0) (Zl "next_number" (.int (rs.length:Int)) (Zl "rows" (.ref rd) [])))))) m=some (.ins cMerge dx (Zl "looked" (.int 0) (Zl "likened" (.int 0) (Zl "next_number" (.int (rs.length:Int)) (Zl "rows" (.ref rd) []))))):=Zd
  generalize (upd (upd (upd H5 m (.ins cMerge dx (Zl "next_number" (.int (rs.length:Int)) (Zl "rows" (.ref rd) [])))) m (.ins cMerge dx (Zl "likened" (.int 0) (Zl "next_number" (.int (rs.length:Int)) (Zl "rows" (.ref rd) []))))) m (.ins cMerge dx (Zl "looked" (.int 0) (Zl "likened" (.int 0) (Zl "next_number" (.int (rs.length:Int)) (Zl "rows" (.ref rd) []))))))=H8 at k8 hm8 ⊢
  refine fun sd hsd=>?_
  have nms:m≠sd:=Zb hm8 hsd
  have p5:=Za8 "stays" (V.ref sd) (Zl "looked" (.int 0) (Zl "likened" (.int 0) (Zl "next_number" (.int (rs.length:Int)) (Zl "rows" (.ref rd) []))))
  refine⟨_,rfl,xw4 m cMerge dx _ ⟨rfl,by rw[Zc nms];exact hm8,T.cl_Merge,T.na_Merge_stays,by omega,?_⟩⟩
  refine⟨_,rfl,xw4 m cMerge dx _ ⟨rfl,Zd,T.cl_Merge,T.na_Merge_best,by omega,?_⟩⟩
  have hsd5:H5 sd=none:=by rw[← k8 sd nms.symm];exact hsd
  have hm9:(upd (upd (upd H8 sd (.dT [])) m (.ins cMerge dx (Zl "stays" (.ref sd) (Zl "looked" (.int 0) (Zl "likened" (.int 0) (Zl "next_number" (.int (rs.length:Int)) (Zl "rows" (.ref rd) []))))))) m (.ins cMerge dx (Zl "best" .non (Zl "stays" (.ref sd) (Zl "looked" (.int 0) (Zl "likened" (.int 0) (Zl "next_number" (.int (rs.length:Int)) (Zl "rows" (.ref rd) [])))))))) m=some (.ins cMerge dx (mgF rd (rs.length:Int) 0 0 sd .non)):=by rw[Za4];exact Zd
  have hs9:(upd (upd (upd H8 sd (.dT [])) m (.ins cMerge dx (Zl "stays" (.ref sd) (Zl "looked" (.int 0) (Zl "likened" (.int 0) (Zl "next_number" (.int (rs.length:Int)) (Zl "rows" (.ref rd) []))))))) m (.ins cMerge dx (Zl "best" .non (Zl "stays" (.ref sd) (Zl "looked" (.int 0) (Zl "likened" (.int 0) (Zl "next_number" (.int (rs.length:Int)) (Zl "rows" (.ref rd) [])))))))) sd=some (.dT (kvS [])):=by rw[Zc nms.symm,Zc nms.symm];exact Zd
  have k9:∀b o,H5 b=some o→b≠m→(upd (upd (upd H8 sd (.dT [])) m (.ins cMerge dx (Zl "stays" (.ref sd) (Zl "looked" (.int 0) (Zl "likened" (.int 0) (Zl "next_number" (.int (rs.length:Int)) (Zl "rows" (.ref rd) []))))))) m (.ins cMerge dx (Zl "best" .non (Zl "stays" (.ref sd) (Zl "looked" (.int 0) (Zl "likened" (.int 0) (Zl "next_number" (.int (rs.length:Int)) (Zl "rows" (.ref rd) [])))))))) b=some o:=fun b o hb n=>by rw[Zc n,Zc n,Zc (Zb hb hsd5),k8 b n];exact hb
  generalize (upd (upd (upd H8 sd (.dT [])) m (.ins cMerge dx (Zl "stays" (.ref sd) (Zl "looked" (.int 0) (Zl "likened" (.int 0) (Zl "next_number" (.int (rs.length:Int)) (Zl "rows" (.ref rd) []))))))) m (.ins cMerge dx (Zl "best" .non (Zl "stays" (.ref sd) (Zl "looked" (.int 0) (Zl "likened" (.int 0) (Zl "next_number" (.int (rs.length:Int)) (Zl "rows" (.ref rd) []))))))))=H9 at hm9 hs9 k9 ⊢
  have hLl:L.length=rs.length:=by have:=congrArg List.length hnew.1;unfold Zv at this;rw[Qb,ZeD]at this;exact this
  have M9:ZR cRow cMerge H9 m rd sd L [] (rs.length:Int) 0 0 .non:=by
   refine⟨⟨dx,hm9⟩,k9 _ _ hr5 nmr.symm,hs9,(fun e he=>by cases he),fun e he=>?_,by rw[hnew.1];exact Zka _,pd,by omega,by decide⟩
   have re:=each e he
   obtain⟨de,hde⟩:=re.at'.ob
   refine re.mono fun b o hb hor=>k9 b o hb fun z=>?_
   have hf:=hfr e he
   have hm':=hm
   rw[← z]at hm'
   rcases hor with z2|z2|z2
   ·rw[z2,hf.1]at hm';cases hm'
   ·rw[z2,hf.2.1]at hm';cases hm'
   ·rw[z2,hf.2.2]at hm';cases hm'
  refine⟨_,rfl,m,dx,_,rfl,hm9,Zew ..,m,rd,sd,L,[],_,0,0,.non,rfl,M9,fun sd' s' w1 k q' H10 hsd' W S Pl M10 b10=>?_⟩
  have free0:∀b,b≠m→H9 b=none→H b=none:=fun b nb hb=>by
   cases e:H b with
   | none=>rfl
   | some o=>rw[k9 b o (k5 b o e nb) nb]at hb;cases hb
  refine q rd sd' L s' w1 k q' H10 (M10.cast (by omega) (by omega)) hnew W S Pl (fun b hb=>?_) (fun b o hb n=>b10 b o (k9 b o (k5 b o hb n) n) n)
  rcases hb with rfl|rfl|rfl|⟨e,he,hb⟩
  ·exact .inl rfl
  ·exact .inr hrd
  ·exact .inr (free0 _ (fun z=>by rw[z,hm9]at hsd';cases hsd') hsd')
  ·have hf:=hfr e he
   rcases hb with rfl|rfl|rfl
   ·exact .inr hf.1
   ·exact .inr hf.2.1
   ·exact .inr hf.2.2
def spLik(cR cM:Addr):Sp:=fun vs H Q _=>∃ (m rd sd:Addr) (L:List Zu) (s:StL) (nb li lo:Int) (best:V),vs=[.ref m]∧ZR cR cM H m rd sd L s nb li lo best∧Q (.int li) H
def spLks(cR cM:Addr):Sp:=fun vs H Q _=>∃ (m rd sd:Addr) (L:List Zu) (s:StL) (nb li lo:Int) (best:V),vs=[.ref m]∧ZR cR cM H m rd sd L s nb li lo best∧Q (.int lo) H
def Zhq(cR cM:Addr):Sp:=fun vs H Q _=>∃ (m rd sd:Addr) (L:List Zu) (s:StL) (nb li lo:Int) (w:Option Int),vs=[.ref m]∧ZR cR cM H m rd sd L s nb li lo (Zde w)∧Win (hdM L) (Zv L) w∧∀ (x:V) (H':Hp),ZmK (L.map toL) H' x→ZD H H'→Q x H'
theorem ZiV(T:Zay K mg cRow cMerge)(f_Row_head:Mf P w K mg base 2 cRow "head" ["self"] (ZeG cRow)):Mf P w K mg base 3 cMerge "coming" ["self"] (Zhq cRow cMerge):=by
 refine T.t_Merge_coming.mf Zcg (fun vs H Q E h=>?_) (fun cdv f A outer s H vs Q E hr h=>?_)
 ·obtain⟨m,rd,sd,L,s,nb,li,lo,w,rfl,_⟩:=h
  rfl
 obtain⟨m,rd,sd,L,s,nb,li,lo,w,rfl,M,W,q⟩:=h
 refine⟨_,#[Zg,#[Zaz,#[Zs,Zcb,#[Z0,‹0›],#[Zad],(Zx _)],#[Zi,#[Zr,#[Zad]]],(@ZU _)],#[Zg,#[Zz,1,Zcg.nd,(Or.inl rfl),#[ZG,(ixG hr),#[Z0,‹0›],#[Z0,‹0›]]],#[Zi,#[Zr,#[ZaV,#[Za,#[Z0,‹0›],#[Za,#[Z0,‹1›],#[Za,#[Zbo,f_Row_head,T.cl_Row,hr,‹1›],#[Ze]]]]]]]]],?_⟩
 obtain⟨dx,hm⟩:=M.ob
 refine⟨_,rfl,xw5 m cMerge dx _ _ ⟨rfl,hm,T.cl_Merge,T.na_Merge_best,Zcw ..,rfl,_,rfl,?_⟩⟩
 have W':Win (hdL (L.map toL)) ((L.map toL).map (·.1)) w:=by rw[Zdq];exact W
 cases w with
 | none=>exact Zdz rfl (q _ H (.inl ⟨rfl,W'⟩) (ZD.refl H))
 | some a =>
  obtain⟨e,he,rfl⟩:=ZcD W.1
  have R:=M.each e he
  obtain⟨dp,hp⟩:=R.at'.ob
  have hd:=Zdg M.nd he
  cases hx:e.ss[e.g]? with
  | none=>obtain⟨_,z,hz,_⟩:=W;rw[hd,hx]at hz;cases hz
  | some x =>
  refine Zck (fun z=>nomatch z) ?_
  refine⟨_,rfl,xw5 m cMerge dx _ _ ⟨rfl,hm,T.cl_Merge,T.na_Merge_rows,ZaY ..,_,rfl,xw5 m cMerge dx _ _ ⟨rfl,hm,T.cl_Merge,T.na_Merge_best,Zcw ..,rd,_,rfl,Zbe.k' (k:=.inl e.n) M.rows (ZeO M.nd he),?_⟩⟩⟩
  refine⟨_,rfl,xw5 m cMerge dx _ _ ⟨rfl,hm,T.cl_Merge,T.na_Merge_best,Zcw ..,_,rfl,e.p,cRow,dp,_,_,rfl,hp,T.cl_Row,T.na_Row_gone,ZbO ..,_,rfl,e.p,dp,_,rfl,hp,Za9 ..,xw5 e.p e.k e.f e.ss e.g ⟨rfl,R.at',(by show 3≤sizeLine;decide),fun t ht=>?_⟩⟩⟩
  rw[Zdp hx]
  exact q _ _ (.inr ⟨t,toL e,x,rfl,Qm he,hx,Zd,W'⟩) (Zj ht _)
def ZlV(cR cM:Addr):Sp:=fun vs H Q _=>∃ (m rd sd:Addr) (L:List Zu) (s:StL) (nb li lo:Int) (best:V),vs=[.ref m]∧ZR cR cM H m rd sd L s nb li lo best∧∀H':Hp,ZD H H'→Q (.int (Zcn (L.map toL)).sum) H'
theorem Zgt(k f:Addr)(g:Int):(ZbF k f g).lookup ("to_go" : Str)=none:=Zgg _ _ _ (by ac_rfl) (by ac_rfl) (by ac_rfl)
theorem ZjW(T:Zay K mg cRow cMerge)(f_Row_to_go:Mf P w K mg base 1 cRow "to_go" ["self"] (ZhC cRow)):Mf P w K mg base 2 cMerge "left" ["self"] (ZlV cRow cMerge):=by
 refine T.t_Merge_left.mf Ze7 (fun vs H Q E h=>?_) (fun cdv f A outer s H vs Q E hr h=>?_)
 ·obtain⟨m,rd,sd,L,s,nb,li,lo,best,rfl,_⟩:=h
  rfl
 obtain⟨m,rd,sd,L,s,nb,li,lo,best,rfl,M,q⟩:=h
 refine⟨_,#[Zi,#[Zr,#[Zm,(Zpa K),T.b.n_sum,boot_sum,#[Za,(@Zl3 _ _ _ #[ZcL,Zm4,(@Zl6 _ _ _ _ _ _ #[Z0,‹0›] (by rfl) (by rfl)),(fun _ _ _ _=>#[cg,1,Zm4]),(fun _ _ _ _=>(@Zb8 _)),(fun _ _ _ _=>#[Zbo,f_Row_to_go,T.cl_Row,hr,#[cw,1,Zm4]])]),#[Ze]]]]],?_⟩
 obtain⟨dx,hm⟩:=M.ob
 have hfew:=M.few
 refine⟨rd,_,M.rows,True.intro,_,rfl,xw5 m cMerge dx _ _ ⟨rfl,hm,T.cl_Merge,T.na_Merge_rows,ZaY ..,rd,_,rfl,M.rows,fun ob B hB=>?_⟩⟩
 have hfz:(upd H rd (.frz ob (.dK (kvM L)))) rd=some (.frz ob (.dK (kvM L))):=Zd
 have k1:∀b x,H b=some x→b≠rd→(upd H rd (.frz ob (.dK (kvM L)))) b=some x:=fun b x h n=>by rw[Zc n];exact h
 generalize upd H rd (.frz ob (.dK (kvM L)))=H1 at hfz k1 hB ⊢
 refine ZlO (d:=rd) (o:=ob) (kvs:=kvM L) (fun i zs σ H2=>(∃v:Option V,σ=[some (.ref m),v])∧zs=(Zcn ((L.take i).map toL)).map V.int∧i≤L.length∧H2 B=some (.lst zs)∧ZD H1 H2) ?_ (fun _ _ _ _ h=>h.2.2.2.2 _ _ hfz) ?_ ?_
 ·exact⟨⟨none,rfl⟩,rfl,Qv _,Zd,Zj hB _⟩
 ·rintro i k x zs σ H2 hkx ⟨⟨v,rfl⟩,rfl,hi,hB2,s2⟩
  unfold kvM at hkx
  rw[Qu]at hkx
  cases hu:L[i]? with
  | none=>rw[hu]at hkx;cases hkx
  | some e =>
  rw[hu]at hkx
  cases hkx
  have hil:i<L.length:=(Qg.mp hu).1
  have he:=QM hu
  have R:=M.each e he
  obtain⟨_,_,_,n1,n2,n3⟩:=M.ne_sd he
  have R2:ZcY cRow H2 e:=R.mono fun b o hb hor=>s2 _ _ (k1 b o hb (by rcases hor with z|z|z<;>rw[z];exact n1.symm;exact n2.symm;exact n3.symm))
  obtain⟨dp,hp⟩:=R2.at'.ob
  refine⟨_,rfl,e.p,dp,_,rfl,hp,Zgt ..,xw5 e.p e.k e.f e.ss e.g ⟨rfl,R2.at',hB2,(by unfold Zcn;rw[Qb,Qb,Qb,Qr];exact Z5 (by omega)),⟨_,rfl⟩,?_,hil,Zd,fun b x hb=>?_⟩⟩
  ·rw[Qaa,hu,Qj]
   unfold Zcn
   rw[Qj,Qj];rfl
  ·rw[Zc (Zb hb hB)];exact s2 b x hb
 rintro zs σ H2 ⟨⟨v,rfl⟩,rfl,_,hB2,s2⟩
 have hkl:(kvM L).length=L.length:=by unfold kvM;rw[Qb]
 rw[hkl,Qx (Qf _)]at hB2
 refine⟨ob,s2 _ _ hfz,?_⟩
 have hB3:(upd H2 rd (.dK (kvM L))) B=some (.lst ((Zcn (L.map toL)).map V.int)):=by rw[Zc (Zb hfz hB).symm];exact hB2
 have s3:ZD H (upd H2 rd (.dK (kvM L))):=fun b x hb=>by
  by_cases e:b=rd
  ·rw[e,M.rows]at hb;rw[e,Zd];exact hb
  ·rw[Zc e];exact s2 _ _ (k1 b x hb e)
 generalize upd H2 rd (.dK (kvM L))=H3 at hB3 s3 ⊢
 refine⟨B,Zcn (L.map toL),rfl,SqL.of hB3,(by unfold Zcn;rw[Qb,Qb];omega),fun n hn=>?_,q H3 s3⟩
 unfold Zcn at hn
 obtain⟨e',he',rfl⟩:=QJ.mp hn
 obtain⟨e,he,rfl⟩:=QJ.mp he'
 have R:=M.each e he
 have a1:=R.le
 have a2:=R.len
 show 0≤((e.ss.length:Int)-(e.g:Int))∧((e.ss.length:Int)-(e.g:Int))≤_
 omega
def ZoR(L:List ZaF):List (Int×Option Str):=L.map fun e=>(e.1,e.2.2.1[e.2.2.2]?)
def Zn4(H:Hp)(l:Addr)(E:List (Int×Option Str)):Prop:=∃ts:List (Addr×Int×Option Str),ts.map (·.2)=E∧H l=some (.lst (ts.map fun t=>V.ref t.1))∧∀t∈ts,H t.1=some (.tup [.int t.2.1,oV t.2.2])
theorem Zkl(ss:List Str)(g:Nat):ZdA ss g=oV ss[g]?:=by unfold ZdA oV;cases ss[g]?<;>rfl
def spHeadsM(cR cM:Addr):Sp:=fun vs H Q _=>∃ (m rd sd:Addr) (L:List Zu) (s:StL) (nb li lo:Int) (best:V),vs=[.ref m]∧ZR cR cM H m rd sd L s nb li lo best∧∀ (l:Addr) (H':Hp),H l=none→Zn4 H' l (ZoR (L.map toL))→ZD H H'→Q (.ref l) H'
def Agr(Lo:List ZaF)(L:List Zu):Prop:=Lo.map (fun e=>(e.1,e.2.2))=L.map (fun e=>(e.n,(e.ss,e.g)))
theorem Zic:∀ (A B:List ZaF),A.map (fun e=>(e.1,e.2.2))=B.map (fun e=>(e.1,e.2.2))→hdL A=hdL B
 | [],[],_=>rfl
 | [],_::_,h=>by cases h
 | _::_,[],h=>by cases h
 | a::A,b::B,h=>by
  rw[Qe,Qe]at h
  injection h with h1 h2
  injection h1 with h3 h4
  have ih:=Zic A B h2
  funext n
  have ihn:=congrFun ih n
  unfold hdL at ihn ⊢
  rw[QaL,QaL,h3]
  split
  ·simp only[Option.bind_some];rw[h4]
  ·exact ihn
theorem ZdC{α β:Type}:∀ {P:List (α×β)},(P.map (·.1)).Nodup→∀ {p q:α×β},p∈P→q∈P→p.1=q.1→p=q
 | [],_,_,_,h,_,_=>by cases h
 | x::r,nd,p,q,hp,hq,e=>by
  rw[Qe,Q3]at nd
  rcases Qz.mp hp with h1|h1
  ·rcases Qz.mp hq with h2|h2
   ·rw[h1,h2]
   ·exact absurd (show x.1∈r.map (·.1) by rw[← h1,e];exact Qm (f:=fun x:α×β=>x.1) h2) nd.1
  ·rcases Qz.mp hq with h2|h2
   ·exact absurd (show x.1∈r.map (·.1) by rw[← h2,← e];exact Qm (f:=fun x:α×β=>x.1) h1) nd.1
   ·exact ZdC nd.2 h1 h2 e
def ZnY(x:V):Prop:=x=.non∨(∃b,x=.bl b)∨(∃i,x=.int i)∨∃s,x=.str s
structure F2 (R:V→V→Prop) (xs ys:List V):Prop where
 len:xs.length=ys.length
 at':∀ (i:Nat) (x y:V),xs[i]? = some x→ys[i]? = some y→R x y
theorem F2.nil{R:V→V→Prop}:F2 R [] []:=⟨rfl,fun i x y h=>by simp at h⟩
theorem F2.cons{R:V→V→Prop}{x y:V}{xs ys:List V}(h:R x y)(t:F2 R xs ys):F2 R (x::xs) (y::ys):=by
 refine⟨by rw[QH,QH,t.len],fun i a b ha hb=>?_⟩
 cases i with
 | zero=>simp at ha hb;rw[← ha,← hb];exact h
 | succ i=>exact t.at' i a b (by simpa using ha) (by simpa using hb)
theorem Zg6{H:Hp}{n:Nat}{x:V}(h:ZnY x):IsD H (n+1) x x:=.inl ⟨rfl,h⟩
theorem Zge{H:Hp}{n:Nat}(i:Int):IsD H (n+1) (.int i) (.int i):=Zg6 (.inr (.inr (.inl ⟨i,rfl⟩)))
theorem Zeq{H:Hp}{n:Nat}{p q:Addr}{xs ys:List V}(hp:H p=some (.lst xs))(hq:H q=some (.lst ys))(h:xs.length≤1000)(f:F2 (IsD H n) xs ys):IsD H (n+1) (.ref p) (.ref q):=.inr ⟨p,q,xs,ys,rfl,rfl,.inl ⟨hp,hq⟩,f.len,h,f.at'⟩
theorem Zmh{H:Hp}{n:Nat}{p q:Addr}{xs ys:List V}(hp:H p=some (.tup xs))(hq:H q=some (.tup ys))(h:xs.length≤1000)(f:F2 (IsD H n) xs ys):IsD H (n+1) (.ref p) (.ref q):=.inr ⟨p,q,xs,ys,rfl,rfl,.inr ⟨hp,hq⟩,f.len,h,f.at'⟩
theorem Zgn(rd:Addr)(nb li lo:Int)(sd:Addr)(best:V):(mgF rd nb li lo sd best).lookup ("coming" : Str)=none:=ZbH _ _ _ _ _ _ (by ac_rfl) (by ac_rfl) (by ac_rfl) (by ac_rfl) (by ac_rfl) (by ac_rfl)
theorem Zhx(rd:Addr)(nb li lo:Int)(sd:Addr)(best:V):(mgF rd nb li lo sd best).lookup ("left" : Str)=none:=ZbH _ _ _ _ _ _ (by ac_rfl) (by ac_rfl) (by ac_rfl) (by ac_rfl) (by ac_rfl) (by ac_rfl)
def spStands(cR cM:Addr):Sp:=fun vs H Q _=>∃ (m rd sd:Addr) (L:List Zu) (s:StL) (nb li lo:Int) (w:Option Int) (o ra ga:Addr) (Lo:List ZaF) (nb':Int),vs=[.ref m,.ref o]∧ZR cR cM H m rd sd L s nb li lo (Zde w)∧Win (hdM L) (Zv L) w∧Own H o ra ga Lo nb' li lo∧Agr Lo L∧∀H',ZD H H'→Q (.bl true) H'
def rowsD(rs:List (Addr×List Str)):PyData:=.list (rs.map fun x=>.list (x.2.map PyData.str))
def Z4(M:List Int)(n:Int):List Int:=if n∈lo M then lo M else up M
def Zac(M:List Int)(n:Int):List Int:=if n∈lo M then up M else lo M
def ZL:Nat→List Int→Int→List (List Int)
 | 0,_,_=>[]
 | k+1,M,n=>if 2≤M.length then ZL k (Z4 M n) n++[M] else []
inductive Sub (N:List Int):List Int→Prop
 | top:Sub N N
 | lo {M:List Int}:Sub N M→2≤M.length→Sub N (lo M)
 | up {M:List Int}:Sub N M→2≤M.length→Sub N (up M)
theorem Sub.trans{A B C:List Int}(h:Sub A B)(k:Sub B C):Sub A C:=by
 induction k with
 | top=>exact h
 | lo _ h2 ih=>exact ih.lo h2
 | up _ h2 ih=>exact ih.up h2
theorem Sub.rise{N M:List Int}(h:Sub N M)(r:Z8 N):Z8 M:=by
 induction h with
 | top=>exact r
 | lo _ _ ih=>exact ZcO ih
 | up _ _ ih=>exact ZcJ ih
theorem Sub.mem{N M:List Int}(h:Sub N M){x:Int}(hx:x∈M):x∈N:=by
 induction h with
 | top=>exact hx
 | lo _ _ ih=>exact ih (Qae hx)
 | up _ _ ih=>exact ih (Q0 hx)
theorem ZgG{M:List Int}(h:2≤M.length)(n:Int):Sub M (Z4 M n):=by
 unfold Z4
 split
 ·exact Sub.top.lo h
 ·exact Sub.top.up h
theorem Zco{M:List Int}{n:Int}(h:n∈M):n∈Z4 M n:=by
 unfold Z4
 split
 ·assumption
 ·rename_i hn
  rw[← Zbr M]at h
  exact(Qk.mp h).resolve_left hn
theorem ZeP{M:List Int}(r:Z8 M){n:Int}(hn:n∈Z4 M n):n ∉ Zac M n:=by
 intro h
 unfold Zac Z4 at *
 split at h
 ·rename_i hl
  have:=ZC r hl h
  omega
 ·rename_i hl;exact hl h
theorem ZdT(M:List Int)(n:Int):(Z4 M n++Zac M n).Perm M:=by
 unfold Z4 Zac
 split
 ·rw[Zbr]
 ·exact List.perm_append_comm.trans (by rw[Zbr])
def Kys(M:List Int)(k:Int×Int):Prop:=∃M',Sub M M'∧2≤M'.length∧k=ZE M'
theorem Zf1{M:List Int}{k:Int×Int}(h:Kys M k):k.1∈M∧k.2∈M:=by
 obtain⟨M',s,h2,rfl⟩:=h
 have hn:M'≠[]:=ZZ (by omega)
 exact⟨s.mem (Zbi hn),s.mem (Zbk hn)⟩
theorem Zk8{M:List Int}(r:Z8 M)(h2:2≤M.length){k:Int×Int}(h:Kys (lo M) k):k≠ZE M∧¬ Kys (up M) k:=by
 have:=Zf1 h
 refine⟨fun z=>?_,fun m=>?_⟩
 ·have h1:=Zec h2
  rw[z,h1]at this
  have:=ZC r this.2 (Zbk (ZZ (Zdf h2).2))
  omega
 ·have:=ZC r this.1 (Zf1 m).1
  omega
theorem Zk1{M:List Int}(r:Z8 M)(h2:2≤M.length){k:Int×Int}(h:Kys (up M) k):k≠ZE M∧¬ Kys (lo M) k:=by
 have:=Zf1 h
 refine⟨fun z=>?_,fun m=>?_⟩
 ·have h1:=Zeb h2
  rw[z,h1]at this
  have:=ZC r (Zbi (ZZ (Zcr h2).2)) this.1
  omega
 ·have:=ZC r (Zf1 m).1 this.1
  omega
theorem ZgM{M:List Int}(r:Z8 M)(h2:2≤M.length){n:Int}{k:Int×Int}(h:Kys (Z4 M n) k):k≠ZE M∧¬ Kys (Zac M n) k:=by
 unfold Z4 at h
 unfold Zac
 split
 ·rename_i hl;rw[if_pos hl]at h;exact Zk8 r h2 h
 ·rename_i hl;rw[if_neg hl]at h;exact Zk1 r h2 h
theorem ZgI{M:List Int}(r:Z8 M)(h2:2≤M.length){n:Int}{k:Int×Int}(h:Kys (Zac M n) k):k≠ZE M∧¬ Kys (Z4 M n) k:=by
 unfold Zac at h
 unfold Z4
 split
 ·rename_i hl;rw[if_pos hl]at h;exact Zk1 r h2 h
 ·rename_i hl;rw[if_neg hl]at h;exact Zk8 r h2 h
theorem ZdL{M M':List Int}(h:Sub M M'):M'=M∨(2≤M.length∧(Sub (lo M) M'∨Sub (up M) M')):=by
 induction h with
 | top=>exact .inl rfl
 | lo h h2 ih =>
  rcases ih with rfl|⟨g,ih⟩
  ·exact .inr ⟨h2,.inl .top⟩
  ·exact .inr ⟨g,ih.imp (fun z=>z.lo h2) (fun z=>z.lo h2)⟩
 | up h h2 ih =>
  rcases ih with rfl|⟨g,ih⟩
  ·exact .inr ⟨h2,.inr .top⟩
  ·exact .inr ⟨g,ih.imp (fun z=>z.up h2) (fun z=>z.up h2)⟩
theorem ZjT{M M':List Int}(n:Int)(h:Sub M M'):M'=M∨(2≤M.length∧(Sub (Z4 M n) M'∨Sub (Zac M n) M')):=by
 rcases ZdL h with h|⟨g,h⟩
 ·exact .inl h
 ·refine .inr ⟨g,?_⟩
  unfold Z4 Zac
  split
  ·exact h
  ·exact h.symm
def Zc1(hd:Hd)(s:StL)(A B:List Int)(k:Int×Int):Prop :=
 (∀a b x y,Win hd A (some a)→Win hd B (some b)→hd a=some x→hd b=some y→∃t lz,ZK s k=some (some (t,lz,((lcp x y:Nat):Int)))∧((Btr x a y b∧lz=b)∨(Btr y b x a∧lz=a))) ∧
 ((Win hd A none∨Win hd B none)→ZK s k=none∨ZK s k=some none)
theorem Zc1.swap{hd:Hd}{s:StL}{A B:List Int}{k:Int×Int}(h:Zc1 hd s A B k):Zc1 hd s B A k:=by
 refine⟨fun a b x y wa wb hx hy=>?_,fun hw=>h.2 hw.symm⟩
 obtain⟨t,lz,e,o⟩:=h.1 b a y x wb wa hy hx
 exact⟨t,lz,by rw[Zbq x y];exact e,o.symm⟩
def ZV(hd:Hd)(s:StL)(N:List Int):Prop:=∀M,Sub N M→2≤M.length→Zc1 hd s (lo M) (up M) (ZE M)
theorem ZV.sub{hd:Hd}{s:StL}{N M:List Int}(h:ZV hd s N)(k:Sub N M):ZV hd s M:=fun M' h' h2=>h M' (k.trans h') h2
theorem ZV.at_side{hd:Hd}{s:StL}{M:List Int}(h:ZV hd s M)(h2:2≤M.length)(n:Int):Zc1 hd s (Z4 M n) (Zac M n) (ZE M):=by
 have:=h M .top h2
 unfold Z4 Zac
 split
 ·exact this
 ·exact this.swap
theorem ZeC:∀ (n:Nat) (hd:Hd) (s:StL) (N:List Int),Z8 N→N.length≤2 ^ (n-1)→0<n→Zea hd s n N→ZV hd s N
 | 0,_,_,_,_,_,h,_=>absurd h (by omega)
 | n+1,hd,s,N,r,hl,_,h=>fun M hM h2=>by
  rw[Qar]at hl
  rcases ZdL hM with rfl|⟨g,hM⟩
  ·obtain⟨_,_,c1,c2⟩:=h h2
   refine⟨fun a b x y wa wb hx hy=>?_,c2⟩
   obtain⟨t,e⟩:=c1 a b x y wa wb hx hy
   have hab:=ZC r wa.1 wb.1
   by_cases hb:ZA x y<0∨(ZA x y=0∧a<b)
   ·rw[if_pos hb]at e;exact⟨t,b,e,.inl ⟨hb,rfl⟩⟩
   ·rw[if_neg hb]at e;exact⟨t,a,e,.inr ⟨(Btr.total (show a≠b by omega)).resolve_left hb,rfl⟩⟩
  ·obtain⟨h1,h3,_⟩:=h g
   have hn:1≤n:=by
    cases n with
    | zero=>simp at hl;omega
    | succ m=>omega
   have hp:2 ^ n=2*2 ^ (n-1):=by
    obtain⟨m,rfl⟩:∃m,n=m+1:=⟨n-1,by omega⟩
    rw[Nat.pow_succ,Qar];omega
   rcases hM with hM|hM
   ·exact ZeC n hd s (lo N) (ZcO r) (by unfold lo mid;rw[Qr];omega) hn h1 M hM h2
   ·exact ZeC n hd s (up N) (ZcJ r) (by unfold up mid;rw[Qp];omega) hn h3 M hM h2
theorem Zc1.congr{hd hd':Hd}{s s':StL}{A B:List Int}{k:Int×Int}(h:Zc1 hd s A B k)(ha:∀m∈A,hd' m=hd m)(hb:∀m∈B,hd' m=hd m)(hk:ZK s' k=ZK s k):Zc1 hd' s' A B k:=by
 refine⟨fun a b x y wa wb hx hy=>?_,fun hw=>?_⟩
 ·rw[hk]
  exact h.1 a b x y (wa.congr fun m hm=>(ha m hm).symm) (wb.congr fun m hm=>(hb m hm).symm) (by rw[← ha a wa.1];exact hx) (by rw[← hb b wb.1];exact hy)
 ·rw[hk]
  exact h.2 (hw.imp (fun w=>w.congr fun m hm=>(ha m hm).symm) (fun w=>w.congr fun m hm=>(hb m hm).symm))
theorem ZV.congr{hd hd':Hd}{s s':StL}{M:List Int}(h:ZV hd s M)(hh:∀m∈M,hd' m=hd m)(hk:∀k,Kys M k→ZK s' k=ZK s k):ZV hd' s' M:=fun M' hM h2 =>
 (h M' hM h2).congr (fun m hm=>hh m (hM.mem (Qae hm))) (fun m hm=>hh m (hM.mem (Q0 hm))) (hk _ ⟨M',hM,h2,rfl⟩)
theorem Zi9{hd:Hd}{s:StL}{M:List Int}{n:Int}(h1:ZV hd s (Z4 M n))(h3:ZV hd s (Zac M n))(h:Zc1 hd s (Z4 M n) (Zac M n) (ZE M)):ZV hd s M:=fun M' hM h2=>by
 rcases ZjT n hM with rfl|⟨g,hM|hM⟩
 ·unfold Z4 Zac at h
  split at h
  ·exact h
  ·exact h.swap
 ·exact h1 M' hM h2
 ·exact h3 M' hM h2
def low(n:Int)(C:List (List Int)):Nat→List Int
 | 0=>[n]
 | i+1=>C.getD i []
theorem ZeU:∀ (k:Nat) (M:List Int) (n:Int),n∈M→M.length≤2 ^ k→(∀i X,(ZL k M n)[i]? = some X→Sub M X∧2≤X.length∧n∈X∧Z4 X n=low n (ZL k M n) i)∧low n (ZL k M n) (ZL k M n).length=M∧(ZL k M n).length≤k
 | 0,M,n,hn,hl=>by
  refine⟨fun i X h=>by unfold ZL at h;simp at h,?_,Qf _⟩
  have h1:M.length=1:=by
   have:=QaX hn
   simp at hl;omega
  obtain⟨x,rfl⟩:=QaW.mp h1
  have:n=x:=by simpa using hn
  rw[this];rfl
 | k+1,M,n,hn,hl=>by
  unfold ZL
  by_cases h2:2≤M.length
  ·rw[if_pos h2]
   have hs:(Z4 M n).length≤2 ^ k:=by
    rw[Nat.pow_succ]at hl
    unfold Z4
    split
    ·unfold lo mid;rw[Qr];omega
    ·unfold up mid;rw[Qp];omega
   obtain⟨a,b,c⟩:=ZeU k (Z4 M n) n (Zco hn) hs
   refine⟨fun i X h=>?_,?_,by rw[Qd,QK];omega⟩
   ·have lw:∀j,j≤(ZL k (Z4 M n) n).length→low n (ZL k (Z4 M n) n++[M]) j=low n (ZL k (Z4 M n) n) j:=fun j hj=>by
     cases j with
     | zero=>rfl
     | succ j =>
      show (ZL k (Z4 M n) n++[M]).getD j []=(ZL k (Z4 M n) n).getD j []
      rw[QC,QC,Q5 (by omega)]
    by_cases hi:i<(ZL k (Z4 M n) n).length
    ·rw[Q5 hi]at h
     obtain⟨g1,g2,g3,g4⟩:=a i X h
     exact⟨(ZgG h2 n).trans g1,g2,g3,by rw[lw i (by omega)];exact g4⟩
    ·have hi':i=(ZL k (Z4 M n) n).length:=by
      have:=(Qg.mp h).1
      rw[Qd,QK]at this
      omega
     subst hi'
     rw[QN (Qf _),Nat.sub_self]at h
     cases h
     exact⟨.top,h2,hn,by rw[lw _ (Qf _),b]⟩
   ·rw[Qd,QK]
    show (ZL k (Z4 M n) n++[M]).getD _ []=M
    rw[QC,QN (Qf _),Nat.sub_self];rfl
  ·rw[if_neg h2]
   refine⟨fun i X h=>by simp at h,?_,Qv _⟩
   have h1:M.length=1:=by have:=QaX hn;omega
   obtain⟨x,rfl⟩:=QaW.mp h1
   have:n=x:=by simpa using hn
   rw[this];rfl
structure Tk (hd hd':Hd) (N:List Int) (n:Int) (z:List Nat):Prop where
 win:Win hd N (some n)
 key:hd n=some z
 oth:∀b,b≠n→hd' b=hd b
 nxt:∀x,hd' n=some x→ZA z x≤0
 up:Z8 N
theorem Tk.ge{hd hd':Hd}{N:List Int}{n:Int}{z:List Nat}(h:Tk hd hd' N n z){b:Int}(hb:b∈N){y:List Nat}(hy:hd' b=some y):ZA z y≤0:=by
 by_cases e:b=n
 ·exact h.nxt y (by rw[← e];exact hy)
 ·obtain⟨_,x,hx,hw⟩:=h.win
  rw[h.key]at hx
  cases hx
  rw[h.oth b e]at hy
  rcases hw b hb y hy with z|z
  ·exact absurd z e
  ·rcases z with z|z<;>omega
inductive Ag (hd:Hd) (z:List Nat):List (List Int×List Int)→Int→Int→Prop
 | nil:Ag hd z [] 0 0
 | no {C:List (List Int×List Int)} {A B:List Int} {k q:Int}:Ag hd z C k q→(Win hd A none∨Win hd B none)→Ag hd z (C++[(A,B)]) k q
 | eq {C:List (List Int×List Int)} {A B:List Int} {k q:Int} {a b:Int} {x y:List Nat}:Ag hd z C k q→Win hd A (some a)→Win hd B (some b)→hd a=some x→hd b=some y→lcp x z=lcp y z→Ag hd z (C++[(A,B)]) (k+1) (q+((lcp x y:Nat)-(lcp x z:Nat)+1))
 | ne {C:List (List Int×List Int)} {A B:List Int} {k q:Int} {a b:Int} {x y:List Nat}:Ag hd z C k q→Win hd A (some a)→Win hd B (some b)→hd a=some x→hd b=some y→lcp x z≠lcp y z→Ag hd z (C++[(A,B)]) (k+1) q
theorem ZiF:∀ (x z y:List Nat),lcp z y<lcp x z→ZA x y=ZA z y
 | [],z,y,h=>by rw[lcp_nil']at h;omega
 | _::_,[],y,h=>by rw[ZcS]at h;omega
 | a::x,b::z,[],h=>by unfold ZA;rfl
 | a::x,b::z,c::y,h=>by
  unfold lcp at h
  by_cases e:a=b
  ·subst e
   rw[if_pos rfl]at h
   by_cases e2:a=c
   ·subst e2
    rw[if_pos rfl]at h
    unfold ZA
    rw[if_pos rfl,if_pos rfl]
    exact ZiF x z y (by omega)
   ·unfold ZA
    rw[if_neg e2,if_neg e2]
  ·rw[if_neg e]at h;omega
theorem Zml{x z y:List Nat}(h:lcp z y<lcp x z):lcp x y=lcp z y:=by
 have:=ZdS x y z
 rw[Zbq y z]at this
 omega
theorem Zm2{x z y:List Nat}(h:lcp x z=lcp y z):lcp x z≤lcp x y:=by
 have:=ZdS x y z
 omega
theorem Zg4{x z y:List Nat}{a b:Int}(h:lcp y z<lcp x z)(hz:ZA z y≤0):Btr x a y b∧lcp x y=lcp y z:=by
 rw[Zbq y z]at h ⊢
 refine⟨.inl ?_,Zml h⟩
 rw[ZiF x z y h]
 rcases Int.lt_or_eq_of_le hz with g|g
 ·exact g
 ·have e:=ZbW _ _ g
  subst e
  rw[ZgF]at h
  have:=(ZeR x z).2
  omega
abbrev Com:=Option (Int×Int)
def Zhp(hd:Hd)(z:List Nat)(M:List Int)(c:Com):Prop:=Win hd M (c.map (·.1))∧∀p,c=some p→∃x,hd p.1=some x∧p.2=((lcp x z:Nat):Int)
theorem Zj8{hd hd':Hd}{N M:List Int}{n:Int}{z:List Nat}{s:StL}(T:Tk hd hd' N n z)(hM:Sub N M)(h2:2≤M.length)(hn:n∈M)(ok:ZV hd s N) :
  (Win hd' (Zac M n) none∧(ZK s (ZE M)=none∨ZK s (ZE M)=some none))∨∃t b y,Win hd' (Zac M n) (some b)∧hd' b=some y∧b∈N∧ZK s (ZE M)=some (some (t,b,((lcp y z:Nat):Int))):=by
 have r:=hM.rise T.up
 have nd:=ZcR r
 have hno:=ZeP r (Zco hn)
 have nS:=(ok.sub hM).at_side h2 n
 have hoN:∀b∈Zac M n,b∈M:=fun b hb=>(ZdT M n).mem_iff.mp (Qh _ hb)
 have hsN:∀b∈Z4 M n,b∈M:=fun b hb=>(ZdT M n).mem_iff.mp (QB _ hb)
 have wS:Win hd (Z4 M n) (some n):=by
  obtain⟨_,x,hx,hw⟩:=T.win
  exact⟨Zco hn,x,hx,fun b hb y hy=>hw b (hM.mem (hsN b hb)) y hy⟩
 have cO:∀m∈Zac M n,hd' m=hd m:=fun m hm=>T.oth m fun e=>hno (e ▸ hm)
 have ndO:(Zac M n).Nodup:=by unfold Zac;split;exact ZcR (ZcJ r);exact ZcR (ZcO r)
 obtain⟨w,hw⟩:=Win.ex hd (Zac M n) ndO
 cases w with
 | none=>exact .inl ⟨hw.congr cO,nS.2 (.inr hw)⟩
 | some b =>
  obtain⟨y,hy⟩:∃y,hd b=some y:=by obtain⟨_,y,hy,_⟩:=hw;exact⟨y,hy⟩
  obtain⟨t,lz,e,o⟩:=nS.1 n b z y wS hw T.key hy
  have hbM:=hoN b hw.1
  have hbn:b≠n:=fun z=>hno (z ▸ hw.1)
  have hB:Btr z n y b:=by
   obtain⟨_,x,hx,hww⟩:=T.win
   rw[T.key]at hx;cases hx
   exact(hww b (hM.mem hbM) y hy).resolve_left hbn
  have el:lz=b:=by
   rcases o with⟨_,e⟩|⟨e,_⟩
   ·exact e
   ·exact(hB.asym e).elim
  subst el
  exact .inr ⟨t,lz,y,hw.congr cO,by rw[cO lz hw.1];exact hy,hM.mem hbM,by rw[Zbq y z];exact e⟩
theorem Zih(ns:List Int):(ZcT ns).length=(ns.length+1) / 2:=by unfold ZcT mid;rw[Qr];omega
theorem Zis(ns:List Int):(Ze8 ns).length=ns.length / 2:=by unfold Ze8 mid;rw[Qp];omega
def Zff:Nat→List Int→Int→List (List Int)
 | 0,_,_=>[]
 | f+1,ns,n=>if ns.length≤1 then [] else if n∈ZcT ns then Ze8 ns::Zff f (ZcT ns) n else ZcT ns::Zff f (Ze8 ns) n
def Zbf(ns:List Int)(n:Int):List Int:=if n∈ZcT ns then ZcT ns else Ze8 ns
def Zca(ns:List Int)(n:Int):List Int:=if n∈ZcT ns then Ze8 ns else ZcT ns
theorem Zdx{ns:List Int}{n:Int}(h:1<ns.length):(Zbf ns n).length<ns.length:=by
 unfold Zbf
 split
 ·rw[Zih];omega
 ·rw[Zis];omega
theorem Zkh{ns:List Int}{n:Int}(h:1<ns.length):0<(Zbf ns n).length:=by
 unfold Zbf
 split
 ·rw[Zih];omega
 ·rw[Zis];omega
theorem ZdK{f:Nat}{ns:List Int}{n:Int}(h:1<ns.length):Zff (f+1) ns n=Zca ns n::Zff f (Zbf ns n) n:=by
 conv=>lhs;unfold Zff
 rw[if_neg (by omega)]
 unfold Zca Zbf
 split<;>rfl
theorem Zbp{f:Nat}{ns:List Int}{n:Int}(h:ns.length≤1):Zff f ns n=[]:=by
 cases f with
 | zero=>rfl
 | succ f=>unfold Zff;rw[if_pos h]
theorem ZfR:∀ (f g:Nat) (ns:List Int) (n:Int),ns.length≤f+1→ns.length≤g+1→Zff f ns n=Zff g ns n
 | 0,g,ns,n,h,_=>by rw[Zbp (by omega),Zbp (by omega)]
 | f+1,0,ns,n,_,h=>by rw[Zbp (by omega),Zbp (by omega)]
 | f+1,g+1,ns,n,h1,h2=>by
  by_cases h:1<ns.length
  ·have:=Zdx (n:=n) h
   rw[ZdK h,ZdK h,ZfR f g _ n (by omega) (by omega)]
  ·rw[Zbp (by omega),Zbp (by omega)]
def way(ns:List Int)(n:Int):List (List Int):=Zff ns.length ns n
theorem ZgL{ns:List Int}{n:Int}(h:1<ns.length):way ns n=Zca ns n::way (Zbf ns n) n:=by
 unfold way
 cases e:ns.length with
 | zero=>omega
 | succ f =>
  have:=Zdx (n:=n) h
  rw[ZdK h,ZfR f (Zbf ns n).length _ n (by omega) (by omega)]
theorem Zgp{ns:List Int}{n:Int}(h:ns.length≤1):way ns n=[]:=Zbp h
theorem ZiC(n:Int):∀ns:List Int,inV (.int n) (ns.map V.int)=decide (n∈ns)
 | []=>rfl
 | m::r=>by
  have ih:=ZiC n r
  unfold inV at ih ⊢
  rw[Qe,QaH,ih]
  by_cases h:m=n
  ·subst h;simp[eqV]
  ·have:(m == n)=false:=by simpa using h
   simp[eqV,this,List.mem_cons,Ne.symm h]
theorem Zfj:∀ns:List Int,(ns.map V.int).all Zdm=true
 | []=>rfl
 | _::r=>by rw[Qe,List.all_cons,Zfj r];rfl
def Rd(H:Hp):List Addr→List (List Int)→Prop
 | [],[]=>True
 | l::ls,d::ds=>H l=some (.lst (d.map V.int))∧Rd H ls ds
 | _,_=>False
theorem Rd.len{H:Hp}:∀ {ls:List Addr} {ds:List (List Int)},Rd H ls ds→ls.length=ds.length
 | [],[],_=>rfl
 | [],_::_,h=>h.elim
 | _::_,[],h=>h.elim
 | _::ls,_::ds,h=>by rw[QH,QH,Rd.len h.2]
theorem Rd.mono{H H':Hp}:∀ {ls:List Addr} {ds:List (List Int)},(∀l∈ls,∀o,H l=some o→H' l=some o)→Rd H ls ds→Rd H' ls ds
 | [],[],_,_=>trivial
 | [],_::_,_,h=>h.elim
 | _::_,[],_,h=>h.elim
 | l::ls,_::ds,k,h=>⟨k l (by simp) _ h.1,Rd.mono (fun x hx=>k x (Qi _ hx)) h.2⟩
theorem Rd.app{H:Hp}:∀ {ls:List Addr} {ds:List (List Int)} {ms:List Addr} {es:List (List Int)},Rd H ls ds→Rd H ms es→Rd H (ls++ms) (ds++es)
 | [],[],_,_,_,h=>h
 | [],_::_,_,_,h,_=>h.elim
 | _::_,[],_,_,h,_=>h.elim
 | _::ls,_::ds,_,_,h,g=>⟨h.1,Rd.app h.2 g⟩
theorem Rd.rev{H:Hp}:∀ {ls:List Addr} {ds:List (List Int)},Rd H ls ds→Rd H ls.reverse ds.reverse
 | [],[],h=>h
 | [],_::_,h=>h.elim
 | _::_,[],h=>h.elim
 | l::ls,d::ds,h=>by
  rw[Qav,Qav]
  exact Rd.app (Rd.rev h.2) ⟨h.1,trivial⟩
def Zk7:Sp:=fun vs H Q _=>∃ (a:Addr) (ns:List Int) (n:Int),vs=[.ref a,.int n]∧H a=some (.lst (ns.map V.int))∧1≤ns.length∧ns.length≤100 ∧
 ∀ (r:Addr) (ls:List Addr) (H':Hp),H r=none→H' r=some (.lst (ls.map V.ref))→r ∉ ls→(∀l∈ls,H l=none)→Rd H' ls (way ns n).reverse→ZD H H'→Q (.ref r) H'
def Dn(H:Hp)(a o:Addr)(ns:List Int)(n:Int)(b:Addr)(cur:List Int)(ls:List Addr)(H2:Hp):Prop :=
 ∃done:List (List Int),H2 b=some (.lst (cur.map V.int))∧b≠o∧1≤cur.length∧cur.length≤100∧way ns n=done++way cur n∧Rd H2 ls done∧H2 o=some (.lst (ls.map V.ref))∧ZD H H2∧(∀l∈ls,H l=none)∧o ∉ ls∧ls.length+cur.length≤100
theorem Dn.step{H:Hp}{a o:Addr}{ns:List Int}{n:Int}{b:Addr}{cur:List Int}{ls:List Addr}{H2 H3:Hp}(D:Dn H a o ns n b cur ls H2)(hO:H o=none)(h1:1<cur.length)(s:ZD H2 H3){x y:Addr}(hx:H3 x=some (.lst ((Zbf cur n).map V.int)))(hy:H3 y=some (.lst ((Zca cur n).map V.int)))(nx:H2 x=none)(ny:H2 y=none) :
  Dn H a o ns n x (Zbf cur n) (ls++[y]) (upd H3 o (.lst (ls.map V.ref++[.ref y]))):=by
 obtain⟨done,d1,d2,d3,d4,d5,d6,d7,d8,d9,d10,d11⟩:=D
 have xo:x≠o:=(Zb d7 nx).symm
 have yo:y≠o:=(Zb d7 ny).symm
 have sl:=Zdx (n:=n) h1
 have k:∀l,l≠o→∀u,H3 l=some u→(upd H3 o (.lst (ls.map V.ref++[.ref y]))) l=some u:=fun l hl u hu=>by rw[Zc hl];exact hu
 refine⟨done++[Zca cur n],k x xo _ hx,xo,Zkh h1,by omega,by rw[d5,ZgL h1,QT];rfl,?_,?_,fun c u hu=>?_,?_,?_,?_⟩
 ·refine Rd.app (Rd.mono (fun l hl u hu=>k l (fun e=>d10 (e ▸ hl)) u (s _ _ hu)) d6) ⟨k y yo _ hy,trivial⟩
 ·rw[Zd,Qj];rfl
 ·rw[Zc (Zb hu hO)];exact s _ _ (d8 _ _ hu)
 ·intro l hl
  rcases Qk.mp hl with hl|hl
  ·exact d9 l hl
  ·rw[Ql.mp hl];exact d8.free ny
 ·intro hm
  rcases Qk.mp hm with hl|hl
  ·exact d10 hl
  ·exact yo (Ql.mp hl).symm
 ·rw[Qd,QK];omega
theorem ZmQ(T:Zay K mg cRow cMerge)(f_halves:Df P w K mg base 1 "halves" ["numbers"] (ZdH K true)):Df P w K mg base 2 "way_up" ["numbers", "n"] Zk7:=by
 refine T.t_way_up.df Za1 (fun vs H Q E h=>?_) (fun cdv f A outer s H vs Q E hr h=>?_)
 ·obtain⟨a,ns,n,rfl,_⟩:=h
  rfl
 obtain⟨a,ns,n,rfl,hA,h1,h100,q⟩:=h
 refine⟨_,#[Zg,#[Zz,2,Za1.nd,(Or.inl rfl),#[ZaJ,#[Ze]]],#[Zg,#[Zz,3,Za1.nd,(Or.inl rfl),‹0›],#[Zg,(@ZeS _ _ _ _ _ _ PassesOwn.never #[Zs,Zg2,#[Zm,(Zc7 K),T.b.n_len,QD,#[Za,‹3›,#[Ze]]],#[Zh],(Zx _)] #[Zg,#[Zbd,#[ZM,f_halves,hr,#[Za,‹3›,#[Ze]],(by rfl)],#[gT,K,2,#[ZB,#[ZJ,4,Za1.nd,(Or.inl rfl)],#[ZB,#[ZJ,5,Za1.nd,(Or.inl rfl)],(@ZaZ _)]]]],#[Zi,#[Zaz,#[Zs,(inQ K),‹1›,‹4›,(by with_unfolding_all rfl)],#[Zg,#[ZaO,#[Zdu,QO,QW,QX,ZaR,‹2›,#[Za,‹5›,#[Ze]]]],#[Zi,#[Zz,3,Za1.nd,(Or.inl rfl),‹4›]]],#[Zg,#[ZaO,#[Zdu,QO,QW,QX,ZaR,‹2›,#[Za,‹4›,#[Ze]]]],#[Zi,#[Zz,3,Za1.nd,(Or.inl rfl),‹5›]]]]]]),#[Zg,#[ZaO,(@Zni _ _ _ _ _ _ _ _ _ QO PySem.F.slot_list_reverse PySem.F.type_list_reverse ZhG ‹2› (by rfl) (by rfl))],#[Zi,#[Zr,‹2›]]]]]],?_⟩
 refine⟨(by show 0≤sizeLine;decide),fun o hO=>?_⟩
 have nao:a≠o:=Zb hA hO
 refine⟨_,rfl,?_⟩
 refine⟨fun m σ H2=>∃ (b:Addr) (cur:List Int) (ls:List Addr) (v4 v5:Option V),σ=[some (.ref a),some (.int n),some (.ref o),some (.ref b),v4,v5]∧Dn H a o ns n b cur ls H2∧m=cur.length,⟨_,a,ns,[],none,none,rfl,⟨[],?_,nao,h1,h100,rfl,trivial,Zd,Zj hO _,(fun l hl=>by cases hl),(fun hm=>by cases hm),by simpa using h100⟩,rfl⟩,?_⟩
 ·rw[Zc nao];exact hA
 rintro m σ H2 ⟨b,cur,ls,v4,v5,rfl,D,rfl⟩
 obtain⟨done,d1,d2,d3,d4,d5,d6,d7,d8,d9,d10,d11⟩:=id D
 have hlc:(((cur.map V.int).length:Nat):Int)=(cur.length:Int):=by rw[Qb]
 refine⟨_,rfl,b,_,rfl,.inl (SqL.of d1),_,_,rfl,rfl,_,rfl,?_⟩
 refine Zbx (fun c1=>?_) (fun c1=>?_)
 ·have c1':(1:Int)<(((cur.map V.int).length:Nat):Int):=of_decide_eq_true c1
  have hc:1<cur.length:=by omega
  refine⟨_,fun σ' H' h=>h,?_⟩
  refine⟨_,rfl,b,cur,rfl,SqL.of d1,d4,fun t x y H3 ht hx hy nxy et ex ey s3 ntx nty=>?_⟩
  refine⟨t,_,rfl,SqT.of et,rfl,_,_,rfl,_,_,rfl,rfl,?_⟩
  have ho3:=s3 _ _ d7
  have hlt:(ls.map V.ref).length<sizeLine:=by rw[Qb];exact Z5 (by omega)
  have sl:=Zdx (n:=n) hc
  refine⟨_,rfl,_,rfl,x,_,rfl,.inl (SqL.of ex),rfl,Zfj _,_,rfl,?_⟩
  show if inV (V.int n) ((ZcT cur).map V.int)=true then _ else _
  rw[ZiC]
  refine Zbx (fun c2=>?_) (fun c2=>?_)
  ·have c2':n∈ZcT cur:=of_decide_eq_true c2
   have e1:Zbf cur n=ZcT cur:=by unfold Zbf;rw[if_pos c2']
   have e2:Zca cur n=Ze8 cur:=by unfold Zca;rw[if_pos c2']
   refine⟨_,rfl,.inl ⟨rfl,_,SqL.of ho3⟩,_,rfl,o,_,_,rfl,rfl,ho3,hlt,_,rfl,_,?_,x,Zbf cur n,ls++[y],_,_,rfl,D.step hO hc s3 (by rw[e1];exact ex) (by rw[e2];exact ey) hx hy,rfl⟩
   exact sl
  ·have c2':¬ n∈ZcT cur:=fun z=>c2 (decide_eq_true z)
   have e1:Zbf cur n=Ze8 cur:=by unfold Zbf;rw[if_neg c2']
   have e2:Zca cur n=ZcT cur:=by unfold Zca;rw[if_neg c2']
   refine⟨_,rfl,.inl ⟨rfl,_,SqL.of ho3⟩,_,rfl,o,_,_,rfl,rfl,ho3,hlt,_,rfl,_,?_,y,Zbf cur n,ls++[x],_,_,rfl,D.step hO hc s3 (by rw[e1];exact ey) (by rw[e2];exact ex) hy hx,rfl⟩
   exact sl
 ·have c1':¬ (1:Int)<(((cur.map V.int).length:Nat):Int):=fun z=>c1 (decide_eq_true z)
  have e:way ns n=done:=by rw[d5,Zgp (by omega),Qas]
  refine⟨_,rfl,.inl ⟨rfl,_,SqL.of d7⟩,o,_,rfl,rfl,d7,?_⟩
  refine⟨_,rfl,q o ls.reverse _ hO (by rw[Zd,List.map_reverse]) (fun hm=>d10 (List.mem_reverse.mp hm)) (fun l hl=>d9 l (List.mem_reverse.mp hl)) ?_ fun c u hu=>?_⟩
  ·rw[e]
   refine Rd.mono (fun l hl u hu=>?_) d6.rev
   rw[Zc (fun z=>by subst z;exact d10 (List.mem_reverse.mp hl))]
   exact hu
  ·rw[Zc (Zb hu hO)];exact d8 _ _ hu
theorem ZfL:∀ (k:Nat) (M:List Int) (n:Int),M.length≤2 ^ k→(way M n).reverse=(ZL k M n).map (fun X=>Zac X n)
 | 0,M,n,h=>by
  rw[Zgp (by simpa using h)];rfl
 | k+1,M,n,h=>by
  unfold ZL
  by_cases h2:2≤M.length
  ·rw[if_pos h2,ZgL (by omega),Qav,Qj]
   have hs:(Z4 M n).length≤2 ^ k:=by
    rw[Nat.pow_succ]at h
    unfold Z4
    split
    ·unfold lo mid;rw[Qr];omega
    ·unfold up mid;rw[Qp];omega
   have e:=ZfL k (Z4 M n) n hs
   rw[← e];rfl
  ·rw[if_neg h2,Zgp (by omega)];rfl
theorem Zkp{M:List Int}(h:2≤M.length)(n:Int):Zac M n≠[]:=by
 unfold Zac
 split
 ·exact ZZ (Zdf h).2
 ·exact ZZ (Zcr h).2
theorem ZhJ{M:List Int}(r:Z8 M)(h:2≤M.length)(n:Int):ZE M=(if (Zac M n).headD 0<(Z4 M n).headD 0 then (Zac M n).headD 0 else (Z4 M n).headD 0,if (Zac M n).getLastD 0>(Z4 M n).getLastD 0 then (Zac M n).getLastD 0 else (Z4 M n).getLastD 0):=by
 have a:=Zeb h
 have b:=Zec h
 have l1:=Zbi (ZZ (Zcr h).2)
 have l2:=Zbk (ZZ (Zcr h).2)
 have u1:=Zbi (ZZ (Zdf h).2)
 have u2:=Zbk (ZZ (Zdf h).2)
 have c:=ZC r l1 u1
 have d:=ZC r l2 u2
 unfold Z4 Zac
 split<;>(refine Prod.ext ?_ ?_<;>dsimp only<;>first|omega|(split<;>omega))
theorem Rd.get{H:Hp}:∀ {ls:List Addr} {ds:List (List Int)},Rd H ls ds→∀ {i:Nat} {l:Addr} {d:List Int},ls[i]? = some l→ds[i]? = some d→H l=some (.lst (d.map V.int))
 | [],[],_,i,l,d,h,_=>by simp at h
 | l::ls,d::ds,⟨h1,h2⟩,0,a,b,e1,e2=>by simp at e1 e2;rw[← e1,← e2];exact h1
 | l::ls,d::ds,⟨h1,h2⟩,i+1,a,b,e1,e2=>Rd.get h2 (by simpa using e1) (by simpa using e2)
def Zfv:Sp:=fun vs H Q _=>∃ (a:Addr) (N:List Int) (n:Int),vs=[.ref a,.int n]∧H a=some (.lst (N.map V.int))∧n∈N∧N.length≤60∧Z8 N ∧
 ∀ (r:Addr) (ts:List Addr) (H':Hp),H r=none→H' r=some (.lst (ts.map V.ref))→ts.length=(ZL 8 N n).length→(∀ (i:Nat) (t:Addr) (X:List Int),ts[i]? = some t→(ZL 8 N n)[i]? = some X→H' t=some (.tup [.int (ZE X).1,.int (ZE X).2]))→ZD H H'→Q (.ref r) H'
theorem ZhS(T:Zay K mg cRow cMerge)(f_way_up:Df P w K mg base 2 "way_up" ["numbers", "n"] Zk7):Df P w K mg base 3 "matches_up" ["numbers", "n"] Zfv:=by
 refine T.t_matches_up.df Zag (fun vs H Q E h=>?_) (fun cdv f A outer s H vs Q E hr h=>?_)
 ·obtain⟨a,N,n,rfl,_⟩:=h
  rfl
 obtain⟨a,N,n,rfl,ha,hn,h60,hup,q⟩:=h
 refine⟨_,#[Zg,#[Zz,2,Zag.nd,(Or.inl rfl),#[ZaJ,#[Ze]]],#[Zg,#[Zz,3,Zag.nd,(Or.inl rfl),‹1›],#[Zg,#[Zz,4,Zag.nd,(Or.inl rfl),‹1›],#[Zg,#[Zb4,PassesOwn.never,(@iL _ K _ _ _ #[ZM,f_way_up,hr,#[Za,‹0›,#[Za,‹1›,#[Ze]]],(by rfl)] (by rfl)),#[ZJ,5,Zag.nd,(Or.inl rfl)],#[Zg,#[Zz,3,Zag.nd,(Or.inl rfl),#[Zm,(Zi2 rfl),T.b.n_min,boot_min,#[Za,‹3›,#[Za,#[ZG,(ixL K),‹5›,#[Zh]],#[Ze]]]]],#[Zg,#[Zz,4,Zag.nd,(Or.inl rfl),#[Zm,(Zjf rfl),T.b.n_max,boot_max,#[Za,‹4›,#[Za,#[ZG,(ixL K),‹5›,(@ZiD _ _ _ _ _ _ Zgr #[Zh])],#[Ze]]]]],#[Zi,#[ZaO,#[Zdu,QO,QW,QX,ZaR,‹2›,#[Za,#[ZaV,#[Za,‹3›,#[Za,‹4›,#[Ze]]]],#[Ze]]]]]]]],#[Zi,#[Zr,‹2›]]]]]],?_⟩
 have hpos:=QaX hn
 have hpw:N.length≤2 ^ 8:=QP h60 (by decide)
 obtain⟨cok,ctop,clen⟩:=ZeU 8 N n hn hpw
 refine⟨(by show 0≤sizeLine;decide),fun r hr0=>?_⟩
 have s1:=Zj hr0 (.lst [])
 have hr1:(upd H r (.lst [])) r=some (.lst []):=Zd
 generalize upd H r (.lst [])=H1 at s1 hr1 ⊢
 refine⟨_,rfl,_,rfl,_,rfl,_,rfl,a,N,n,rfl,s1 _ _ ha,hpos,by omega,fun wy ls H2 hwy hwy2 hnot hfr hrd s2=>?_⟩
 rw[ZfL 8 N n hpw]at hrd
 have hll:=hrd.len
 rw[Qb]at hll
 have s02:=s1.trans s2
 refine⟨wy,rfl,⟨_,SqL.of hwy2⟩,?_⟩
 refine Zgz (K:=K) (a:=wy) (xs:=ls.map V.ref) (fun i σ H3=>∃ (v5:Option V) (ts:List Addr),σ=[some (.ref a),some (.int n),some (.ref r),some (.int ((low n (ZL 8 N n) i).headD 0)),some (.int ((low n (ZL 8 N n) i).getLastD 0)),v5]∧i≤ls.length∧ts.length=i∧H3 r=some (.lst (ts.map V.ref))∧(∀ (j:Nat) (t:Addr) (X:List Int),ts[j]? = some t→(ZL 8 N n)[j]? = some X→H3 t=some (.tup [.int (ZE X).1,.int (ZE X).2]))∧(∀t∈ts,t≠r∧∃xs,H3 t=some (.tup xs))∧(∀b o,H2 b=some o→b≠r→H3 b=some o)) ⟨_,[],rfl,Qv _,rfl,s2 _ _ hr1,(fun j t X h=>by simp at h),(fun t h=>by cases h),fun b o h _=>h⟩ (fun i σ H3 _ hq=>by obtain⟨_,_,_,_,_,_,_,_,k3⟩:=hq;exact SqL.of (k3 _ _ hwy2 (fun z=>by rw[z,hr1]at hwy;cases hwy))) ?_ ?_
 ·rintro i y σ H3 hy ⟨v5,ts,rfl,hi,htl,hr3,hts,htr,k3⟩
  rw[Qu]at hy
  cases hz:ls[i]? with
  | none=>rw[hz]at hy;cases hy
  | some l =>
  rw[hz]at hy
  cases hy
  have hil:i<ls.length:=(Qg.mp hz).1
  cases hX:(ZL 8 N n)[i]? with
  | none=>rw[QaE]at hX;omega
  | some X =>
  obtain⟨x1,x2,x3,x4⟩:=cok i X hX
  have hl2:H2 l=some (.lst ((Zac X n).map V.int)):=hrd.get hz (by rw[Qu,hX];rfl)
  have nlr:l≠r:=fun z=>by rw[z]at hl2;rw[s2 _ _ hr1]at hl2;have:=hfr l (QM hz);rw[z,hr1]at this;cases this
  have hl3:=k3 _ _ hl2 nlr
  have hne:=Zkp x2 n
  have e2:=ZhJ (x1.rise hup) x2 n
  rw[x4]at e2
  have e3:low n (ZL 8 N n) (i+1)=X:=by show (ZL 8 N n).getD i []=X;rw[QC,hX];rfl
  refine⟨_,rfl,_,rfl,xw4 l _ _ _ ⟨rfl,rfl,SqL.of hl3,Zhi hne,_,_,rfl,?_⟩⟩
  refine⟨_,rfl,_,rfl,_,rfl,xw4 l _ _ _ ⟨rfl,rfl,SqL.of hl3,Zg0 hne,_,_,rfl,?_⟩⟩
  refine⟨_,rfl,.inl ⟨rfl,_,SqL.of hr3⟩,_,rfl,_,rfl,(by show 2≤sizeLine;decide),fun t ht=>?_⟩
  have nrt:r≠t:=Zb hr3 ht
  refine⟨r,_,_,rfl,rfl,by rw[Zc nrt];exact hr3,(by rw[Qb];exact Z5 (by omega)),?_⟩
  refine⟨some (.ref l),ts++[t],?_,hil,by rw[Qd,QK];omega,by rw[Zd,Qj];rfl,fun j u Y hu hY=>?_,fun u hu=>?_,fun b o hb nb=>?_⟩
  ·rw[e3]
   have h1:=congrArg Prod.fst e2
   have h2:=congrArg Prod.snd e2
   simp only at h1 h2
   rw[show X.headD 0=(ZE X).1 from rfl,show X.getLastD 0=(ZE X).2 from rfl,h1,h2]
   rfl
  ·have htuple:∀ (u:Addr) (xs:List V),H3 u=some (.tup xs)→(upd (upd H3 t (.tup [.int (if (Zac X n).headD 0<(low n (ZL 8 N n) i).headD 0 then (Zac X n).headD 0 else (low n (ZL 8 N n) i).headD 0),.int (if (Zac X n).getLastD 0>(low n (ZL 8 N n) i).getLastD 0 then (Zac X n).getLastD 0 else (low n (ZL 8 N n) i).getLastD 0)])) r (.lst (ts.map V.ref++[.ref t]))) u=some (.tup xs):=fun u xs hu=>by
    rw[Zc (fun z=>by rw[z,hr3]at hu;cases hu),Zc (Zb hu ht)];exact hu
   by_cases hj:j<ts.length
   ·rw[Q5 hj]at hu
    exact htuple u _ (hts j u Y hu hY)
   ·have ej:j=ts.length:=by have:=(Qg.mp hu).1;rw[Qd,QK]at this;omega
    subst ej
    rw[QN (Qf _),Nat.sub_self]at hu
    cases hu
    rw[htl,hX]at hY
    cases hY
    rw[Zc nrt.symm,Zd,e2]
  ·rcases Qk.mp hu with hu|hu
   ·obtain⟨g1,xs,g2⟩:=htr u hu
    exact⟨g1,xs,by rw[Zc g1,Zc (Zb g2 ht)];exact g2⟩
   ·rw[Ql.mp hu]
    exact⟨nrt.symm,_,by rw[Zc nrt.symm];exact Zd⟩
  ·have:=k3 b o hb nb
   rw[Zc nb,Zc (Zb this ht)];exact this
 ·rintro σ H3 ⟨v5,ts,rfl,_,htl,hr3,hts,_,k3⟩
  rw[Qb]at htl
  exact⟨_,rfl,q r ts H3 hr0 hr3 (by omega) hts (fun b o hb=>k3 b o (s02 b o hb) (Zb hb hr0))⟩
def CV(H:Hp)(v:V)(c:Com):Prop:=(c=none∧v=.non)∨∃ (t:Addr) (p:Int×Int),c=some p∧v=.ref t∧H t=some (.tup [.int p.1,.int p.2])
theorem CV.keep{H H':Hp}{v:V}{c:Com}(h:CV H v c)(k:∀t xs,H t=some (.tup xs)→H' t=some (.tup xs)):CV H' v c:=by
 rcases h with h|⟨t,p,h1,h2,h3⟩
 ·exact .inl h
 ·exact .inr ⟨t,p,h1,h2,k _ _ h3⟩
theorem Zkj{s:StL}{k:Int×Int}{v0:Option (Addr×Int×Int)}(h:ZK s k=some v0):s.any (fun e=>decide (e.1=k))=true:=List.any_eq_true.mpr ⟨_,Zfy h,decide_eq_true rfl⟩
theorem ZdW{s:StL}{k:Int×Int}{v0 v:Option (Addr×Int×Int)}(h:ZK s k=some v0):(ZbQ s k v).length=s.length:=by
 unfold ZbQ
 rw[if_pos (Zkj h),Qb]
def AgS(hd:Hd)(z:List Nat)(A B:List Int)(k q:Int):Prop:=∀C k0 q0,Ag hd z C k0 q0→Ag hd z (C++[(A,B)]) (k0+k) (q0+q)
def Zii(cR cM:Addr):Sp:=fun vs H Q _=>∃ (m rd sd:Addr) (L:List Zu) (s:StL) (nb li lo:Int) (best:V) (tm:Addr) (v:V) (c:Com) (z:List Nat) (M:List Int) (n:Int),vs=[.ref m,.ref tm,v]∧ZR cR cM H m rd sd L s nb li lo best∧H tm=some (.tup [.int (ZE M).1,.int (ZE M).2])∧CV H v c∧Zhp (hdM L) z (Z4 M n) c ∧
 ((Win (hdM L) (Zac M n) none∧(ZK s (ZE M)=none∨ZK s (ZE M)=some none))∨∃t b y,Win (hdM L) (Zac M n) (some b)∧hdM L b=some y∧ZK s (ZE M)=some (some (t,b,((lcp y z:Nat):Int)))) ∧
 (∀b∈M,∀y,hdM L b=some y→ZA z y≤0)∧Z8 M∧(∀b∈M,b∈Zv L)∧2≤M.length∧n∈M ∧
 ∀ (v':V) (c':Com) (s':StL) (k q:Int) (H':Hp),CV H' v' c'→Zhp (hdM L) z M c'→Zc1 (hdM L) s' (Z4 M n) (Zac M n) (ZE M)→(∀j,j≠ZE M→ZK s' j=ZK s j)→AgS (hdM L) z (Z4 M n) (Zac M n) k q →
  ZR cR cM H' m rd sd L s' nb (li+k) (lo+q) best→(∀b o,H b=some o→b≠m→b≠sd→H' b=some o)→Q v' H'
theorem ZkH{L:List Zu}(nd:(Zv L).Nodup){b:Int}(hb:b∈Zv L){y:List Nat}(hy:hdM L b=some y):∃e∈L,e.n=b∧∃x,e.ss[e.g]? = some x∧y=cds x:=by
 obtain⟨e,he,rfl⟩:=ZcD hb
 rw[Zdg nd he]at hy
 cases hx:e.ss[e.g]? with
 | none=>rw[hx]at hy;cases hy
 | some x=>rw[hx]at hy;cases hy;exact⟨e,he,rfl,x,hx,rfl⟩
theorem ZkP(T:Zay K mg cRow cMerge)(f_Merge_meet:Mf P w K mg base 3 cMerge "meet" ["self", "one", "other", "far"] (ZhN cRow cMerge)):Mf P w K mg base 4 cMerge "play_again" ["self", "meeting", "comer"] (Zii cRow cMerge):=by
 refine T.t_Merge_play_again.mf Z9 (fun vs H Q E h=>?_) (fun cdv f A outer s H vs Q E hr h=>?_)
 ·obtain⟨m,rd,sd,L,s,nb,li,lo,best,tm,v,c,z,M,n,rfl,_⟩:=h
  rfl
 obtain⟨m,rd,sd,L,s,nb,li,lo',best,tm,v,c,z,M,n,rfl,Mg,htm,hcv,⟨wS,hcf⟩,hst,hge,hup,hin,h2,hn,q⟩:=h
 refine⟨_,#[Zg,#[Zz,3,Z9.nd,(Or.inl rfl),(@ZmU _ _ _ _ _ _ _ _ hr #[Z0,‹0›] ‹1› (by rfl) (by rfl) (by rfl))],#[Zg,#[Zaz,#[Zs,Zcb,‹3›,#[Zad],(Zx _)],#[Zi,#[Zr,‹2›]],(@ZU _)],#[Zg,#[Zaz,#[Zs,Zcb,‹2›,#[Zad],(Zx _)],#[Zg,#[Zbd,#[Zad],#[Zdh,#[Z0,‹0›],‹1›,(ZkF hr)]],#[Zi,#[Zr,‹3›]]],(@ZU _)],#[Zg,#[Zaz,#[Zs,Zbw,#[ZG,(ixT K),‹2›,#[Zh]],#[ZG,(ixT K),‹3›,#[Zh]],(Zx _)],#[Zg,#[Zbd,#[ZcZ,f_Merge_meet,T.cl_Merge,hr,‹0›,#[Za,#[ZG,(ixT K),‹2›,#[Zh]],#[Za,#[ZG,(ixT K),‹3›,#[Zh]],#[Za,#[ZG,(ixT K),‹2›,#[Zh]],#[Ze]]]]],#[gT,K,3,#[ZB,#[ZJ,4,Z9.nd,(Or.inl rfl)],#[ZB,#[ZJ,5,Z9.nd,(Or.inl rfl)],#[ZB,#[ZJ,6,Z9.nd,(Or.inl rfl)],(@ZaZ _)]]]]],#[Zg,#[Zbd,#[ZaV,#[Za,‹5›,#[Za,‹6›,#[Ze]]]],#[Zdh,#[Z0,‹0›],‹1›,(ZkF hr)]],#[Zi,#[Zr,#[ZaV,#[Za,‹4›,#[Za,#[ZG,(ixT K),‹2›,#[Zh]],#[Ze]]]]]]]],(@ZU _)],#[Zg,(@ZcI _ _ _ _ _ _ _ _ _ _ ‹0› #[Zh] Zf2),#[Zg,#[Zaz,#[Zs,Zg2,#[ZG,(ixT K),‹2›,#[Zh]],#[ZG,(ixT K),‹3›,#[Zh]],(Zx _)],#[Zi,#[Zr,‹2›]],(@ZU _)],#[Zg,#[Zbd,‹2›,#[Zdh,#[Z0,‹0›],‹1›,(ZkF hr)]],#[Zi,#[Zr,‹3›]]]]]]]]],?_⟩
 obtain⟨dx,hm⟩:=Mg.ob
 have htm':H tm=some (.tup (([.inl (ZE M).1,.inl (ZE M).2]:List Key).map kV)):=htm
 have pm:=ZdT M n
 have dg:=Zbe.t (k:=[.inl (ZE M).1,.inl (ZE M).2]) Mg.stays htm'
 rw[Zg1]at dg
 have sA:∀b∈Z4 M n,b∈M:=fun b hb=>pm.mem_iff.mp (QB _ hb)
 have sB:∀b∈Zac M n,b∈M:=fun b hb=>pm.mem_iff.mp (Qh _ hb)
 have hno:=ZeP hup (Zco hn)
 have dis:∀a b,a∈Z4 M n→b∈Zac M n→a≠b:=fun a b ha hb e=>by
  subst e
  unfold Z4 Zac at *
  split at ha
  ·rename_i hl;rw[if_pos hl]at hb;have:=ZC hup ha hb;omega
  ·rename_i hl;rw[if_neg hl]at hb;have:=ZC hup hb ha;omega
 refine⟨_,rfl,xw5 m cMerge dx _ _ ⟨rfl,hm,T.cl_Merge,T.na_Merge_stays,Zb0 ..,sd,rfl,.inr ⟨_,.inl Mg.stays⟩,_,rfl,_,dg,?_⟩⟩
 rcases hst with⟨wO,hlk⟩|⟨t,b,y,wO,hy,hlk⟩
 ·have ev:((ZK s (ZE M)).map stV).getD .non=.non:=by rcases hlk with e|e<;>rw[e]<;>rfl
  rw[ev]
  refine⟨_,rfl,rfl,_,rfl,Zdz rfl ⟨_,rfl,q v c s 0 0 H hcv ⟨(Win.left wS wO).perm pm,hcf⟩ ⟨(fun a b x y _ wb _ _=>nomatch wO.one wb),fun _=>hlk⟩ (fun _ _=>rfl) (fun C k0 q0 g=>by rw[QaY,QaY];exact .no g (.inr wO)) (Mg.cast (by omega) (by omega)) (fun b o h _ _=>h)⟩⟩
 have hat:=Mg.ats _ (Zfy hlk) _ rfl
 have e1:((ZK s (ZE M)).map stV).getD .non=.ref t:=by rw[hlk];rfl
 rw[e1]
 have hsf:=Mg.sfew
 have hsl:(kvS s).length<sizeLine:=by unfold kvS;rw[Qb];exact Z5 (by omega)
 refine⟨_,rfl,rfl,_,rfl,Zck (fun z=>nomatch z) ?_⟩
 have hbM:=sB b wO.1
 rcases hcv with⟨rfl,rfl⟩|⟨tc,p,rfl,rfl,htc⟩
 ·refine⟨_,rfl,rfl,_,rfl,Zdz rfl ?_⟩
  refine⟨_,rfl,xw5 m cMerge dx _ _ ⟨rfl,hm,T.cl_Merge,T.na_Merge_stays,Zb0 ..,_,rfl,sd,_,rfl,ZdV.t (k:=[.inl (ZE M).1,.inl (ZE M).2]) Mg.stays htm' hsl,?_⟩⟩
  rw[show V.non=stV none from rfl,Zeo]
  have hl1:(ZbQ s (ZE M) none).length≤100:=by rw[ZdW hlk];exact hsf
  have M2:=Mg.put (k:=ZE M) (v:=none) (fun t ht=>by cases ht) hl1
  have wS':Win (hdM L) (Z4 M n) none:=wS
  refine⟨_,rfl,q (.ref t) (some (b,((lcp y z:Nat):Int))) _ 0 0 _ (.inr ⟨t,_,rfl,rfl,?_⟩) ⟨(Win.right wS' wO).perm pm,fun p hp=>?_⟩ ⟨(fun a b x y wa _ _ _=>nomatch wS'.one wa),fun _=>.inr ?_⟩ (fun j hj=>?_) (fun C k0 q0 g=>?_) (M2.cast (by omega) (by omega)) (fun b o hb _ n2=>by rw[Zc n2];exact hb)⟩
  ·rw[Zc (fun z=>by rw[z,Mg.stays]at hat;cases hat)];exact hat
  ·cases hp;exact⟨y,hy,rfl⟩
  ·rw[Zax,if_pos rfl]
  ·rw[Zax,if_neg hj]
  ·rw[QaY,QaY];exact .no g (.inl wS')
 obtain⟨a,fa⟩:=p
 obtain⟨x,hx,efa⟩:=hcf _ rfl
 simp only at hx efa
 subst efa
 have wS':Win (hdM L) (Z4 M n) (some a):=wS
 have haM:=sA a wS'.1
 have hab:=dis a b wS'.1 wO.1
 obtain⟨ea,hea,rfl,zx,hzx,rfl⟩:=ZkH Mg.nd (hin a haM) hx
 obtain⟨eb,heb,rfl,zy,hzy,rfl⟩:=ZkH Mg.nd (hin b hbM) hy
 have c0:atI [V.int ea.n,.int ((lcp (cds zx) z:Nat):Int)] 0=some (.int ea.n):=Zat (j:=0) rfl
 have c1:atI [V.int ea.n,.int ((lcp (cds zx) z:Nat):Int)] 1=some (.int ((lcp (cds zx) z:Nat):Int)):=Zat (j:=1) rfl
 have d0:atI [V.int eb.n,.int ((lcp (cds zy) z:Nat):Int)] 0=some (.int eb.n):=Zat (j:=0) rfl
 have d1:atI [V.int eb.n,.int ((lcp (cds zy) z:Nat):Int)] 1=some (.int ((lcp (cds zy) z:Nat):Int)):=Zat (j:=1) rfl
 refine⟨_,rfl,rfl,_,rfl,Zck (fun z=>nomatch z) ?_⟩
 refine⟨_,rfl,tc,_,_,_,rfl,rfl,SqT.of htc,c1,_,rfl,xw4 t _ _ _ ⟨rfl,rfl,SqT.of hat,d1,rfl,_,rfl,Zbx (fun d=>?_) (fun d=>?_)⟩⟩
 ·have ef:lcp (cds zx) z=lcp (cds zy) z:=by have:=of_decide_eq_true d;injection this with this;omega
  have hle:=Zm2 ef
  refine⟨_,rfl,m,dx,_,rfl,hm,Zev ..,_,rfl,tc,_,_,_,rfl,rfl,SqT.of htc,c0,_,rfl,xw4 t _ _ _ ⟨rfl,rfl,SqT.of hat,d0,_,rfl,tc,_,_,_,rfl,rfl,SqT.of htc,c1,?_⟩⟩
  refine⟨m,rd,sd,L,s,nb,li,lo',best,ea,eb,zx,zy,lcp (cds zx) z,rfl,Mg,hea,heb,hzx,hzy,hle,fun t5 wi lz H5 hw ht5 ht5' M5 b5=>?_⟩
  refine⟨t5,_,rfl,SqT.of ht5',rfl,_,_,rfl,_,_,rfl,_,_,rfl,rfl,?_⟩
  have sz2:2≤sizeLine:=by decide
  refine⟨_,rfl,_,rfl,sz2,fun t6 ht6=>?_⟩
  have s6:=Zj ht6 (.tup [.int lz,.int ((lcp (cds zx) (cds zy):Nat):Int)])
  have ht66:(upd H5 t6 (.tup [.int lz,.int ((lcp (cds zx) (cds zy):Nat):Int)])) t6=some (.tup [.int lz,.int ((lcp (cds zx) (cds zy):Nat):Int)]):=Zd
  have M6:=M5.same s6
  generalize upd H5 t6 (.tup [.int lz,.int ((lcp (cds zx) (cds zy):Nat):Int)])=H6 at s6 ht66 M6 ⊢
  obtain⟨dx6,hm6⟩:=M6.ob
  have ntm:tm≠m:=fun z=>by rw[z,hm]at htm;cases htm
  have ntc:tc≠m:=fun z=>by rw[z,hm]at htc;cases htc
  have htm6:H6 tm=some (.tup (([.inl (ZE M).1,.inl (ZE M).2]:List Key).map kV)):=s6 _ _ (b5 _ _ htm' ntm)
  refine⟨_,rfl,xw5 m cMerge dx6 _ _ ⟨rfl,hm6,T.cl_Merge,T.na_Merge_stays,Zb0 ..,_,rfl,sd,_,rfl,ZdV.t (k:=[.inl (ZE M).1,.inl (ZE M).2]) M6.stays htm6 hsl,?_⟩⟩
  rw[show V.ref t6=stV (some (t6,lz,((lcp (cds zx) (cds zy):Nat):Int))) from rfl,Zeo]
  have hl1:(ZbQ s (ZE M) (some (t6,lz,((lcp (cds zx) (cds zy):Nat):Int)))).length≤100:=by rw[ZdW hlk];exact hsf
  have M7:=M6.put (k:=ZE M) (v:=some (t6,lz,((lcp (cds zx) (cds zy):Nat):Int))) (fun t ht=>by injection ht with ht;rw[← ht];exact ht66) hl1
  have b7:∀b o,H b=some o→b≠m→b≠sd→(upd H6 sd (.dT (kvS (ZbQ s (ZE M) (some (t6,lz,((lcp (cds zx) (cds zy):Nat):Int))))))) b=some o:=fun b o hb n1 n2=>by rw[Zc n2];exact s6 _ _ (b5 b o hb n1)
  have ntcs:tc≠sd:=fun z=>by rw[z,Mg.stays]at htc;cases htc
  generalize upd H6 sd (.dT (kvS (ZbQ s (ZE M) (some (t6,lz,((lcp (cds zx) (cds zy):Nat):Int))))))=H7 at M7 b7 ⊢
  refine⟨_,rfl,_,rfl,tc,_,_,_,rfl,rfl,SqT.of (b7 _ _ htc ntc ntcs),c1,sz2,fun t8 ht8=>?_⟩
  have wn:Win (hdM L) M (some wi):=by
   rcases hw with⟨w0,rfl,_⟩|⟨w0,rfl,_⟩
   ·exact(Win.both wS' wO hx hy w0).perm pm
   ·exact(Win.both' wS' wO hx hy ((Btr.total hab).resolve_left w0)).perm pm
  refine q (.ref t8) (some (wi,((lcp (cds zx) z:Nat):Int))) _ 1 ((lcp (cds zx) (cds zy):Nat)-(lcp (cds zx) z:Nat)+1) _ (.inr ⟨t8,_,rfl,rfl,Zd⟩) ⟨wn,fun p hp=>?_⟩ ⟨fun a b x' y' wa wb hxa hyb=>?_,fun hno=>?_⟩ (fun j hj=>by rw[Zax,if_neg hj]) (fun C k0 q0 g=>.eq g wS' wO hx hy ef) ((M7.same (Zj ht8 _)).cast rfl rfl) (fun b o hb n1 n2=>Zj ht8 _ _ _ (b7 b o hb n1 n2))
  ·cases hp
   rcases hw with⟨w0,rfl,_⟩|⟨w0,rfl,_⟩
   ·exact⟨_,hx,rfl⟩
   ·exact⟨_,hy,by simp only;rw[ef]⟩
  ·have e1:=Qo (wa.one wS')
   have e2:=Qo (wb.one wO)
   subst e1
   subst e2
   have e3:=Qo (hxa.symm.trans hx)
   have e4:=Qo (hyb.symm.trans hy)
   subst e3
   subst e4
   refine⟨t6,lz,by rw[Zax,if_pos rfl],?_⟩
   rcases hw with⟨w0,_,rfl⟩|⟨w0,_,rfl⟩
   ·exact .inl ⟨w0,rfl⟩
   ·exact .inr ⟨(Btr.total hab).resolve_left w0,rfl⟩
  ·rcases hno with z|z
   ·exact nomatch z.one wS'
   ·exact nomatch z.one wO
 have nef:lcp (cds zx) z≠lcp (cds zy) z:=fun e=>d (decide_eq_true (by rw[e]))
 refine⟨_,rfl,xw5 m cMerge dx _ _ ⟨rfl,hm,T.cl_Merge,T.na_Merge_likened,Zeg ..,_,_,rfl,rfl,dx,_,hm,ZbA ..,?_⟩⟩
 rw[Zch]
 have M2:=Mg.obj (nb':=nb) (li':=li+1) (lo':=lo') (best':=best) (dx:=dx)
 have k2:∀b o,H b=some o→b≠m→(upd H m (.ins cMerge dx (mgF rd nb (li+1) lo' sd best))) b=some o:=fun b o hb n=>by rw[Zc n];exact hb
 have ntc:tc≠m:=fun z=>by rw[z,hm]at htc;cases htc
 have ntt:t≠m:=fun z=>by rw[z,hm]at hat;cases hat
 have ntm:tm≠m:=fun z=>by rw[z,hm]at htm;cases htm
 generalize upd H m (.ins cMerge dx (mgF rd nb (li+1) lo' sd best))=H2 at M2 k2 ⊢
 have htc2:=k2 _ _ htc ntc
 have hat2:=k2 _ _ hat ntt
 refine⟨_,rfl,tc,_,_,_,rfl,rfl,SqT.of htc2,c1,_,rfl,xw4 t _ _ _ ⟨rfl,rfl,SqT.of hat2,d1,_,_,rfl,rfl,_,rfl,Zbx (fun g=>?_) (fun g=>?_)⟩⟩
 ·have hgt:lcp (cds zy) z<lcp (cds zx) z:=by have:((lcp (cds zy) z:Nat):Int)<((lcp (cds zx) z:Nat):Int):=of_decide_eq_true g;omega
  obtain⟨bt,el⟩:=Zg4 (a:=ea.n) (b:=eb.n) hgt (hge _ hbM _ hy)
  refine⟨_,rfl,q (.ref tc) (some (ea.n,((lcp (cds zx) z:Nat):Int))) s 1 0 H2 (.inr ⟨tc,_,rfl,rfl,htc2⟩) ⟨(Win.both wS' wO hx hy bt).perm pm,fun p hp=>by cases hp;exact⟨_,hx,rfl⟩⟩ ⟨fun a b x' y' wa wb hxa hyb=>?_,fun hno=>?_⟩ (fun _ _=>rfl) (fun C k0 q0 g=>by rw[QaY];exact .ne g wS' wO hx hy nef) (M2.cast rfl (by omega)) (fun b o hb n1 _=>k2 b o hb n1)⟩
  ·have e1:=Qo (wa.one wS')
   have e2:=Qo (wb.one wO)
   subst e1
   subst e2
   have e3:=Qo (hxa.symm.trans hx)
   have e4:=Qo (hyb.symm.trans hy)
   subst e3
   subst e4
   exact⟨t,_,by rw[el];exact hlk,.inl ⟨bt,rfl⟩⟩
  ·rcases hno with z|z
   ·exact nomatch z.one wS'
   ·exact nomatch z.one wO
 ·have hlt:lcp (cds zx) z<lcp (cds zy) z:=by
   have:¬ ((lcp (cds zy) z:Nat):Int)<((lcp (cds zx) z:Nat):Int):=fun e=>g (decide_eq_true e)
   omega
  obtain⟨bt,el⟩:=Zg4 (a:=eb.n) (b:=ea.n) hlt (hge _ haM _ hx)
  obtain⟨dx2,hm2⟩:=M2.ob
  have htm2:H2 tm=some (.tup (([.inl (ZE M).1,.inl (ZE M).2]:List Key).map kV)):=k2 _ _ htm' ntm
  refine⟨_,rfl,_,rfl,xw5 m cMerge dx2 _ _ ⟨rfl,hm2,T.cl_Merge,T.na_Merge_stays,Zb0 ..,_,rfl,sd,_,rfl,ZdV.t (k:=[.inl (ZE M).1,.inl (ZE M).2]) M2.stays htm2 hsl,?_⟩⟩
  rw[show V.ref tc=stV (some (tc,ea.n,((lcp (cds zx) z:Nat):Int))) from rfl,Zeo]
  have hl1:(ZbQ s (ZE M) (some (tc,ea.n,((lcp (cds zx) z:Nat):Int)))).length≤100:=by rw[ZdW hlk];exact hsf
  have M3:=M2.put (k:=ZE M) (v:=some (tc,ea.n,((lcp (cds zx) z:Nat):Int))) (fun t ht=>by injection ht with ht;rw[← ht];exact htc2) hl1
  refine⟨_,rfl,q (.ref t) (some (eb.n,((lcp (cds zy) z:Nat):Int))) _ 1 0 _ (.inr ⟨t,_,rfl,rfl,?_⟩) ⟨(Win.both' wS' wO hx hy bt).perm pm,fun p hp=>by cases hp;exact⟨_,hy,rfl⟩⟩ ⟨fun a b x' y' wa wb hxa hyb=>?_,fun hno=>?_⟩ (fun j hj=>by rw[Zax,if_neg hj]) (fun C k0 q0 g=>by rw[QaY];exact .ne g wS' wO hx hy nef) (M3.cast rfl (by omega)) (fun b o hb n1 n2=>by rw[Zc n2];exact k2 b o hb n1)⟩
  ·rw[Zc (fun z=>by rw[z,M2.stays]at hat2;cases hat2)];exact hat2
  ·have e1:=Qo (wa.one wS')
   have e2:=Qo (wb.one wO)
   subst e1
   subst e2
   have e3:=Qo (hxa.symm.trans hx)
   have e4:=Qo (hyb.symm.trans hy)
   subst e3
   subst e4
   exact⟨tc,_,by rw[Zax,if_pos rfl,Zbq (cds zx) (cds zy),el],.inr ⟨bt,rfl⟩⟩
  ·rcases hno with z|z
   ·exact nomatch z.one wS'
   ·exact nomatch z.one wO
def ZbU(n:Int)(e:Zu):Zu:=if e.n=n then ⟨e.n,e.p,e.k,e.f,e.ss,e.g+1⟩ else e
def bump(L:List Zu)(n:Int):List Zu:=L.map (ZbU n)
theorem Zb6(n:Int)(e:Zu):(ZbU n e).n=e.n∧(ZbU n e).p=e.p∧(ZbU n e).k=e.k∧(ZbU n e).f=e.f∧(ZbU n e).ss=e.ss:=by unfold ZbU;split<;>exact⟨rfl,rfl,rfl,rfl,rfl⟩
theorem Zdo{n:Int}{e:Zu}(h:e.n=n):ZbU n e=⟨e.n,e.p,e.k,e.f,e.ss,e.g+1⟩:=if_pos h
theorem ZeH{n:Int}{e:Zu}(h:¬ e.n=n):ZbU n e=e:=if_neg h
theorem Zbl(L:List Zu)(n:Int):Zv (bump L n)=Zv L:=by
 unfold Zv bump
 rw[QF]
 exact QY fun e _=>(Zb6 n e).1
theorem Zl2(L:List Zu)(n:Int):(bump L n).map (·.p)=L.map (·.p):=by
 unfold bump
 rw[QF]
 exact QY fun e _=>(Zb6 n e).2.1
theorem ZkB(L:List Zu)(n:Int):kvM (bump L n)=kvM L:=by
 unfold kvM bump
 rw[QF]
 refine QY fun e _=>?_
 simp only[Function.comp]
 rw[(Zb6 n e).1,(Zb6 n e).2.1]
theorem ZlT{m rd sd:Addr}{L:List Zu}{n:Int}{b:Addr}(h:Fp m rd sd (bump L n) b):Fp m rd sd L b:=by
 rcases h with h|h|h|⟨e',he',h⟩
 ·exact .inl h
 ·exact .inr (.inl h)
 ·exact .inr (.inr (.inl h))
 ·obtain⟨e,he,rfl⟩:=QJ.mp he'
  obtain⟨_,h1,h2,h3,_⟩:=Zb6 n e
  rw[h1,h2,h3]at h
  exact .inr (.inr (.inr ⟨e,he,h⟩))
theorem Fp_bump'{m rd sd:Addr}{L:List Zu}{n:Int}{b:Addr}(h:Fp m rd sd L b):Fp m rd sd (bump L n) b:=by
 rcases h with h|h|h|⟨e,he,h⟩
 ·exact .inl h
 ·exact .inr (.inl h)
 ·exact .inr (.inr (.inl h))
 ·obtain⟨_,h1,h2,h3,_⟩:=Zb6 n e
  refine .inr (.inr (.inr ⟨ZbU n e,Qm he,?_⟩))
  rw[h1,h2,h3]
  exact h
theorem Zig{n b:Int}(h:b≠n):∀L:List Zu,hdM (bump L n) b=hdM L b
 | []=>rfl
 | e::L=>by
  have ih:=Zig h L
  unfold hdM hdL bump at ih ⊢
  rw[Qe,Qe,Qe,QaL,QaL]
  have e1:(toL (ZbU n e)).1=e.n:=(Zb6 n e).1
  rw[e1]
  by_cases he:e.n=b
  ·rw[decide_eq_true he,decide_eq_true (show (toL e).1=b from he),ZeH (fun z=>h (he.symm.trans z))]
  ·rw[decide_eq_false he,decide_eq_false (show ¬ (toL e).1=b from he)]
   exact ih
theorem ZgH{L:List Zu}(nd:(Zv L).Nodup){e:Zu}(he:e∈L):hdM (bump L e.n) e.n=(e.ss[e.g+1]?).map cds:=by
 have hm:ZbU e.n e∈bump L e.n:=Qm he
 rw[Zdo rfl]at hm
 exact Zdg (L:=bump L e.n) (by rw[Zbl];exact nd) hm
theorem ZdQ(k f:Addr)(g:Int):ZbF k f g=([("all_keys",.ref k),("fars",.ref f),("gone",.int g)]:List (Str×V)):=by
 unfold ZbF
 rw[ZaT,Zn nFK,ZaT,Zn nGK,Zn nGF,ZaT]
theorem Zfd(k f:Addr)(g v:Int):Zl "gone" (.int v) (ZbF k f g)=ZbF k f v:=by
 rw[ZdQ,ZdQ,Zn nGK,Zn nGF,ZcE]
theorem Zkn(k f:Addr)(g:Int):(ZbF k f g).length<1000:=by rw[ZdQ];show 3<1000;decide
theorem Zjg(k f:Addr)(g:Int):(ZbF k f g).lookup ("fars" : Str)=some (.ref f):=by
 unfold ZbF
 rw[Zk,if_neg nGF,Zk,if_pos rfl]
theorem Zoh{L:List Zu}(pd:(L.map (·.p)).Nodup){e e':Zu}(he:e∈L)(he':e'∈L)(h:e.p=e'.p):e=e':=by
 have n2:((L.map fun x=>(x.p,x)).map (·.1)).Nodup:=by rw[QF];exact pd
 have:=ZdC n2 (Qm (f:=fun x:Zu=>(x.p,x)) he) (Qm (f:=fun x:Zu=>(x.p,x)) he') h
 injection this
theorem ZR.bump{cR cM:Addr}{H:Hp}{m rd sd:Addr}{L:List Zu}{s:StL}{nb li lo:Int}{best:V}(M:ZR cR cM H m rd sd L s nb li lo best){e:Zu}(he:e∈L)(hg:e.g<e.ss.length){dp:Addr} :
  ZR cR cM (upd H e.p (.ins cR dp (ZbF e.k e.f ((e.g+1:Nat):Int)))) m rd sd (My.bump L e.n) s nb li lo best:=by
 obtain⟨dm,hm⟩:=M.ob
 obtain⟨dq,hp⟩:=(M.each e he).at'.ob
 obtain⟨n1,_,_⟩:=M.ne_p he
 obtain⟨n2,_,_,n3,_,_⟩:=M.ne_sd he
 refine⟨⟨dm,by rw[Zc n1];exact hm⟩,by rw[Zc n3,ZkB];exact M.rows,by rw[Zc n2];exact M.stays,fun x hx t ht=>?_,fun e' he'=>?_,by rw[Zbl];exact M.up,by rw[Zl2];exact M.pd,by unfold My.bump;rw[Qb];exact M.few,M.sfew⟩
 ·have:=M.ats x hx t ht
  rw[Zc (fun z=>by rw[z,hp]at this;cases this)];exact this
 ·obtain⟨x,hx,rfl⟩:=QJ.mp he'
  have R:=M.each x hx
  have kne:∀ {y:Zu},y∈L→y.k≠e.p∧y.f≠e.p:=fun {y} hy=>by
   have Ry:=M.each y hy
   exact⟨(fun z=>by have:=Ry.at'.ks;rw[z,hp]at this;cases this),(fun z=>by have:=Ry.at'.fs;rw[z,hp]at this;cases this)⟩
  obtain⟨k1,k2⟩:=kne hx
  by_cases hn:x.n=e.n
  ·have ex:x=e:=by
    have n2:((L.map fun x=>(x.n,x)).map (·.1)).Nodup:=by rw[QF];exact M.nd
    have:=ZdC n2 (Qm (f:=fun x:Zu=>(x.n,x)) hx) (Qm (f:=fun x:Zu=>(x.n,x)) he) hn
    injection this
   subst ex
   rw[Zdo rfl]
   exact⟨⟨⟨dp,Zd⟩,by show (upd H x.p _) x.k=_;rw[Zc k1];exact R.at'.ks,by show (upd H x.p _) x.f=_;rw[Zc k2];exact R.at'.fs⟩,hg,R.len,R.srt,R.str⟩
  ·rw[ZeH hn]
   exact R.keep (Zc (fun z=>hn (by rw[Zoh M.pd hx he z]))) (Zc k1) (Zc k2)
theorem ZoB{L:List Zu}{e:Zu}{x:Str}(nd:(Zv L).Nodup)(up:Z8 (Zv L))(he:e∈L)(hx:e.ss[e.g]? = some x)(srt:sortedS e.ss=true)(W:Win (hdM L) (Zv L) (some e.n)):Tk (hdM L) (hdM (bump L e.n)) (Zv L) e.n (cds x):=by
 refine⟨W,by rw[Zdg nd he,hx];rfl,fun b hb=>Zig hb L,fun y hy=>?_,up⟩
 rw[ZgH nd he]at hy
 cases hz:e.ss[e.g+1]? with
 | none=>rw[hz]at hy;cases hy
 | some y'=>rw[hz]at hy;cases hy;exact ZfD srt e.g x y' hx hz
theorem ZmM{c:Bool}{e1 e2:VK→Prop}{Q:VK}(P:V→Hp→Prop)(h1:c=true→∀Q':VK,(∀v H,P v H→Q' v H)→e1 Q')(h2:c=false→∀Q':VK,(∀v H,P v H→Q' v H)→e2 Q')(q:∀v H,P v H→Q v H):if c=true then e1 Q else e2 Q:=by
 cases c with
 | true=>rw[if_pos rfl];exact h1 rfl Q q
 | false=>rw[if_neg (by decide)];exact h2 rfl Q q
def ZcQ(n:Int)(C:List (List Int)):List (List Int×List Int):=C.map fun X=>(Z4 X n,Zac X n)
theorem Zha(rd:Addr)(nb li lo:Int)(sd:Addr)(best:V):(mgF rd nb li lo sd best).lookup ("play_again" : Str)=none:=ZbH _ _ _ _ _ _ (by ac_rfl) (by ac_rfl) (by ac_rfl) (by ac_rfl) (by ac_rfl) (by ac_rfl)
def ZjZ(cR cM:Addr):Sp:=fun vs H Q _=>∃ (m rd sd:Addr) (L:List Zu) (s:StL) (nb li lo:Int) (best:V) (e:Zu) (x:Str),vs=[.ref m,.int e.n]∧ZR cR cM H m rd sd L s nb li lo best∧e∈L∧e.ss[e.g]? = some x∧Win (hdM L) (Zv L) (some e.n)∧ZV (hdM L) s (Zv L) ∧
 ∀ (s':StL) (w':Option Int) (k q:Int) (H':Hp),ZR cR cM H' m rd sd (bump L e.n) s' nb (li+k) (lo+q) (Zde w')→Win (hdM (bump L e.n)) (Zv L) w'→ZV (hdM (bump L e.n)) s' (Zv L)→Ag (hdM (bump L e.n)) (cds x) (ZcQ e.n (ZL 8 (Zv L) e.n)) k q→(∀b o,H b=some o→¬ Fp m rd sd L b→H' b=some o)→Q .non H'
theorem Zl1(T:Zay K mg cRow cMerge)(f_Row_head:Mf P w K mg base 2 cRow "head" ["self"] (ZeG cRow))(f_matches_up:Df P w K mg base 3 "matches_up" ["numbers", "n"] Zfv)(f_Merge_play_again:Mf P w K mg base 4 cMerge "play_again" ["self", "meeting", "comer"] (Zii cRow cMerge)):Mf P w K mg base 5 cMerge "send_out" ["self", "number"] (ZjZ cRow cMerge):=by
 refine T.t_Merge_send_out.mf Zaf (fun vs H Q E h=>?_) (fun cdv f A outer s H vs Q E hr h=>?_)
 ·obtain⟨m,rd,sd,L,s,nb,li,lo,best,e,x,rfl,_⟩:=h
  rfl
 obtain⟨m,rd,sd,L,s,nb,li,lo',best,e,x,rfl,M,he,hx,W,ok,q⟩:=h
 refine⟨_,#[Zg,#[Zz,2,Zaf.nd,(Or.inl rfl),#[ZG,(ixG hr),#[Z0,‹0›],‹1›]],#[Zg,(@ZcI _ _ _ _ _ _ _ _ _ _ ‹2› #[Zh] Zf2),#[Zg,#[Zz,3,Zaf.nd,(Or.inl rfl),#[Zbb,#[Zs,Zcb,#[Zbo,f_Row_head,T.cl_Row,hr,‹2›],#[Zad],(Zx _)],#[Zad],#[ZaV,#[Za,‹1›,#[Za,#[ZG,(ixL K),#[Z0,‹2›],#[Z0,‹2›]],#[Ze]]]]]],#[Zg,#[Zb4,PassesOwn.never,(@iL _ K _ _ _ #[ZM,f_matches_up,hr,#[Za,#[ZcN,ZoI,T.b.n_list,boot_list,#[Za,#[Z0,‹0›],#[Ze]]],#[Za,‹1›,#[Ze]]],(by rfl)] (by rfl)),#[ZJ,4,Zaf.nd,(Or.inl rfl)],#[Zi,#[Zz,3,Zaf.nd,(Or.inl rfl),#[ZcZ,f_Merge_play_again,T.cl_Merge,hr,‹0›,#[Za,‹4›,#[Za,‹3›,#[Ze]]]]]]],#[Zi,#[Zbc,‹0›,#[Zbb,#[Zs,Zcb,‹3›,#[Zad],(Zx _)],#[Zad],#[ZG,(ixT K),‹3›,#[Zh]]]]]]]]],?_⟩
 obtain⟨dx,hm⟩:=M.ob
 have R:=M.each e he
 obtain⟨dp,hp⟩:=R.at'.ob
 have hg:e.g<e.ss.length:=(Qg.mp hx).1
 have tk:=ZoB M.nd M.up he hx R.srt W
 refine⟨_,rfl,xw5 m cMerge dx _ _ ⟨rfl,hm,T.cl_Merge,T.na_Merge_rows,ZaY ..,_,rfl,rd,_,rfl,Zbe.k' (k:=.inl e.n) M.rows (ZeO M.nd he),?_⟩⟩
 refine⟨_,rfl,e.p,cRow,dp,_,_,rfl,hp,T.cl_Row,T.na_Row_gone,ZbO ..,_,_,rfl,rfl,dp,_,hp,Zkn ..,?_⟩
 rw[Zfd,show ((e.g:Int)+1)=((e.g+1:Nat):Int) by omega]
 have M1:=M.bump he hg (dp:=dp)
 have hp1:(upd H e.p (.ins cRow dp (ZbF e.k e.f ((e.g+1:Nat):Int)))) e.p=some (.ins cRow dp (ZbF e.k e.f ((e.g+1:Nat):Int))):=Zd
 have k1:∀b o,H b=some o→b≠e.p→(upd H e.p (.ins cRow dp (ZbF e.k e.f ((e.g+1:Nat):Int)))) b=some o:=fun b o hb n=>by rw[Zc n];exact hb
 generalize upd H e.p (.ins cRow dp (ZbF e.k e.f ((e.g+1:Nat):Int)))=H1 at M1 hp1 k1 ⊢
 have hm':(⟨e.n,e.p,e.k,e.f,e.ss,e.g+1⟩:Zu)∈bump L e.n:=by
  have:ZbU e.n e∈bump L e.n:=Qm he
  rwa [Zdo rfl]at this
 have R1:=M1.each _ hm'
 have keep1:∀ {H2:Hp},(∀b o,H1 b=some o→b≠m→b≠sd→H2 b=some o)→∀b o,H b=some o→¬ Fp m rd sd L b→H2 b=some o:=fun {H2} k b o hb nf =>
  k b o (k1 b o hb fun z=>nf (.inr (.inr (.inr ⟨e,he,.inl z⟩)))) (fun z=>nf (.inl z)) (fun z=>nf (.inr (.inr (.inl z))))
 have hpos:e.n∈Zv L:=W.1
 have h60:(Zv L).length≤60:=by unfold Zv;rw[Qb];exact M.few
 have hpw:(Zv L).length≤2 ^ 8:=QP h60 (by decide)
 obtain⟨cok,ctop,clen⟩:=ZeU 8 (Zv L) e.n hpos hpw
 have hgo:hdM (bump L e.n) e.n=(e.ss[e.g+1]?).map cds:=ZgH M.nd he
 have hdd:∀ (c:Com),(c=none∧e.ss[e.g+1]? = none)∨(∃y,e.ss[e.g+1]? = some y∧c=some (e.n,((lcp (cds y) (cds x):Nat):Int)))→Zhp (hdM (bump L e.n)) (cds x) [e.n] c:=fun c hc=>by
  have hw:=Win.sing (hd:=hdM (bump L e.n)) (n:=e.n)
  rcases hc with⟨rfl,hn⟩|⟨y,hy,rfl⟩
  ·rw[hgo,hn]at hw
   exact⟨hw,fun p hp=>by cases hp⟩
  ·rw[hgo,hy]at hw
   exact⟨hw,fun p hp=>by cases hp;exact⟨cds y,by rw[hgo,hy];rfl,rfl⟩⟩
 refine⟨_,rfl,e.p,dp,_,rfl,hp1,Za9 ..,e.p,e.k,e.f,e.ss,e.g+1,rfl,R1.at',rfl,_,rfl,?_⟩
 rw[Zkl]
 refine ZmM (fun v H2=>ZD H1 H2∧∃c,CV H2 v c∧Zhp (hdM (bump L e.n)) (cds x) [e.n] c) (fun d Q' hq=>?_) (fun d Q' hq=>?_) (fun v H2 ⟨s2,c,hcv,hok⟩=>?_)
 ·have hn:e.ss[e.g+1]? = none:=by
   have:=of_decide_eq_true d
   cases hy:e.ss[e.g+1]? with
   | none=>rfl
   | some y=>rw[hy]at this;cases this
  exact hq _ _ ⟨ZD.refl _,none,.inl ⟨rfl,rfl⟩,hdd none (.inl ⟨rfl,hn⟩)⟩
 ·obtain⟨y,hy⟩:∃y,e.ss[e.g+1]? = some y:=by
   cases hy:e.ss[e.g+1]? with
   | none=>rw[hy]at d;exact absurd rfl (of_decide_eq_false d)
   | some y=>exact⟨y,rfl⟩
  have hyl:e.g+1<e.ss.length:=(Qg.mp hy).1
  have hal:ZbN e.ss (e.g+1)=((lcp (cds y) (cds x):Nat):Int):=by
   unfold ZbN
   rw[if_neg (by omega),Qar,QC,QC,hx,hy,Zbq]
   rfl
  have hat:atI ((List.range e.ss.length).map fun j=>V.int (ZbN e.ss j)) ((e.g+1:Nat):Int)=some (.int ((lcp (cds y) (cds x):Nat):Int)):=Zat (by rw[Qu,List.getElem?_range hyl,← hal];rfl)
  refine⟨_,rfl,_,rfl,e.p,cRow,dp,_,_,rfl,hp1,T.cl_Row,T.na_Row_fars,Zjg ..,_,rfl,e.p,cRow,dp,_,_,rfl,hp1,T.cl_Row,T.na_Row_gone,ZbO ..,xw4 e.f _ _ _ ⟨rfl,rfl,SqL.of R1.at'.fs,hat,(by show 2≤sizeLine;decide),fun tc htc=>?_⟩⟩
  exact hq _ _ ⟨Zj htc _,some (e.n,((lcp (cds y) (cds x):Nat):Int)),.inr ⟨tc,_,rfl,rfl,Zd⟩,hdd _ (.inr ⟨y,hy,rfl⟩)⟩
 have M2:=M1.same s2
 obtain⟨dx2,hm2⟩:=M2.ob
 refine⟨_,rfl,xw5 m cMerge dx2 _ _ ⟨rfl,hm2,T.cl_Merge,T.na_Merge_rows,ZaY ..,rd,_,rfl,M2.rows,fun l hl=>?_⟩⟩
 rw[ZjN,Zbl]
 have s3:=s2.trans (Zj hl (.lst ((Zv L).map V.int)))
 have hl3:(upd H2 l (.lst ((Zv L).map V.int))) l=some (.lst ((Zv L).map V.int)):=Zd
 have hcv3:CV (upd H2 l (.lst ((Zv L).map V.int))) v c:=hcv.keep fun t xs ht=>Zj hl _ _ _ ht
 generalize upd H2 l (.lst ((Zv L).map V.int))=H3 at s3 hl3 hcv3 ⊢
 refine⟨_,rfl,l,Zv L,e.n,rfl,hl3,hpos,h60,M.up,fun r ts H4 hr0 hr4 htl hts s4=>?_⟩
 have s14:=s3.trans s4
 have M4:=M1.same s14
 have hcv4:CV H4 v c:=hcv3.keep fun t xs ht=>s4 _ _ ht
 refine⟨r,rfl,⟨_,SqL.of hr4⟩,?_⟩
 obtain⟨dm4,hm4⟩:=M4.ob
 obtain⟨dm1,hm1⟩:=M1.ob
 have nrm:r≠m:=(Zb (s3 _ _ hm1) hr0).symm
 have nrs:r≠sd:=(Zb (s3 _ _ M1.stays) hr0).symm
 refine Zgz (K:=K) (a:=r) (xs:=ts.map V.ref) (fun i σ H5=>∃ (v':V) (c':Com) (s':StL) (k q':Int) (v4:Option V),σ=[some (.ref m),some (.int e.n),some (.ref e.p),some v',v4]∧i≤ts.length∧CV H5 v' c'∧Zhp (hdM (bump L e.n)) (cds x) (low e.n (ZL 8 (Zv L) e.n) i) c'∧ZR cRow cMerge H5 m rd sd (bump L e.n) s' nb (li+k) (lo'+q') best∧ZV (hdM (bump L e.n)) s' (low e.n (ZL 8 (Zv L) e.n) i)∧(∀j,¬ Kys (low e.n (ZL 8 (Zv L) e.n) i) j→ZK s' j=ZK s j)∧Ag (hdM (bump L e.n)) (cds x) (ZcQ e.n ((ZL 8 (Zv L) e.n).take i)) k q'∧(∀b o,H4 b=some o→b≠m→b≠sd→H5 b=some o)) ?_ (fun i σ H5 _ hq=>by obtain⟨_,_,_,_,_,_,_,_,_,_,_,_,_,_,k5⟩:=hq;exact SqL.of (k5 _ _ hr4 nrm nrs)) ?_ ?_
 ·refine⟨v,c,s,0,0,_,rfl,Qv _,hcv4,hok,M4.cast (by omega) (by omega),fun X hX h2=>?_,fun _ _=>rfl,.nil,fun b o h _ _=>h⟩
  have:=ZdL hX
  rcases this with rfl|⟨g,_⟩
  ·exact absurd h2 (by show ¬ 2≤1;decide)
  ·exact absurd g (by show ¬ 2≤1;decide)
 ·rintro i y σ H5 hy ⟨v',c',s',k,q',v4,rfl,hi,hcv5,hok5,M5,nok,hlk,ag,k5⟩
  rw[Qu]at hy
  cases hz:ts[i]? with
  | none=>rw[hz]at hy;cases hy
  | some t =>
  rw[hz]at hy
  cases hy
  have hil:i<ts.length:=(Qg.mp hz).1
  cases hX:(ZL 8 (Zv L) e.n)[i]? with
  | none=>rw[QaE]at hX;omega
  | some X =>
  obtain⟨x1,x2,x3,x4⟩:=cok i X hX
  have hup:=x1.rise M.up
  have e3:low e.n (ZL 8 (Zv L) e.n) (i+1)=X:=by show (ZL 8 (Zv L) e.n).getD i []=X;rw[QC,hX];rfl
  have ht5:H5 t=some (.tup [.int (ZE X).1,.int (ZE X).2]):=k5 _ _ (hts i t X hz hX) (fun z=>by have:=hts i t X hz hX;rw[z,hm4]at this;cases this) (fun z=>by have:=hts i t X hz hX;rw[z,M4.stays]at this;cases this)
  obtain⟨dm5,hm5⟩:=M5.ob
  rw[← x4]at hok5 nok hlk
  have was:=Zj8 tk x1 x2 x3 ok
  have hkey:ZK s' (ZE X)=ZK s (ZE X):=hlk _ fun z=>(ZgM hup x2 z).1 rfl
  refine⟨_,rfl,m,dm5,_,rfl,hm5,Zha ..,_,rfl,_,rfl,m,rd,sd,bump L e.n,s',nb,_,_,best,t,v',c',cds x,X,e.n,rfl,M5,ht5,hcv5,hok5,?_,fun b hb y hy=>tk.ge (x1.mem hb) hy,hup,fun b hb=>by rw[Zbl];exact x1.mem hb,x2,x3,fun v6 c6 s6 k6 q6 H6 hcv6 hok6 hnd6 hoth6 hag6 M6 k6'=>?_⟩
  ·rw[hkey]
   rcases was with w|⟨t',b,y,w1,w2,_,w4⟩
   ·exact .inl w
   ·exact .inr ⟨t',b,y,w1,w2,w4⟩
  ·refine⟨v6,c6,s6,k+k6,q'+q6,_,rfl,hil,hcv6,by rw[e3];exact hok6,M6.cast (by omega) (by omega),?_,fun j hj=>?_,?_,fun b o hb n1 n2=>k6' b o (k5 b o hb n1 n2) n1 n2⟩
   ·rw[e3]
    refine Zi9 (n:=e.n) (nok.congr (fun _ _=>rfl) fun j hj=>hoth6 j (ZgM hup x2 hj).1) ?_ hnd6
    have hno:=ZeP hup (Zco x3)
    have so:Sub X (Zac X e.n):=by unfold Zac;split;exact Sub.top.up x2;exact Sub.top.lo x2
    refine(ok.sub (x1.trans so)).congr (fun b hb=>tk.oth b fun z=>hno (z ▸ hb)) fun j hj=>?_
    rw[hoth6 j (ZgI hup x2 hj).1,hlk j (ZgI hup x2 hj).2]
   ·rw[e3]at hj
    rw[hoth6 j (fun z=>hj ⟨X,.top,x2,z⟩),hlk j (fun hq=>by obtain⟨Y,y1,y2,y3⟩:=hq;exact hj ⟨Y,(ZgG x2 e.n).trans y1,y2,y3⟩)]
   ·have:=hag6 _ _ _ ag
    unfold ZcQ at this ⊢
    rw[Qaa,hX,Qj]
    exact this
 ·rintro σ H5 ⟨v',c',s',k,q',v4,rfl,_,hcv5,hok5,M5,nok,hlk,ag,k5⟩
  rw[Qb,htl,ctop]at hok5 nok
  rw[Qb,htl,Qx (Qf _)]at ag
  obtain⟨dm5,hm5⟩:=M5.ob
  have fin:∀w':Option Int,w'=c'.map (·.1)→Q .non (upd H5 m (.ins cMerge dm5 (mgF rd nb (li+k) (lo'+q') sd (Zde w')))):=fun w' ew=>by
   subst ew
   refine q s' _ k q' _ M5.obj hok5.1 nok ag fun b o hb nf=>?_
   rw[Zc (fun z=>nf (.inl z))]
   exact keep1 (fun b o hb n1 n2=>k5 b o (s14 b o hb) n1 n2) b o hb nf
  rcases hcv5 with⟨rfl,rfl⟩|⟨t,p,rfl,rfl,ht⟩
  ·refine⟨_,rfl,rfl,_,rfl,Zdz rfl ?_⟩
   refine⟨_,rfl,m,cMerge,dm5,_,rfl,hm5,T.cl_Merge,T.na_Merge_best,ZbA ..,?_⟩
   rw[Zbg]
   exact fin none rfl
  ·refine⟨_,rfl,rfl,_,rfl,Zck (fun z=>nomatch z) ?_⟩
   refine⟨_,rfl,xw4 t _ _ _ ⟨rfl,rfl,SqT.of ht,(show atI [V.int p.1,V.int p.2] 0=some (.int p.1) from Zat (j:=0) rfl),_,rfl,m,cMerge,dm5,_,rfl,hm5,T.cl_Merge,T.na_Merge_best,ZbA ..,?_⟩⟩
   rw[Zbg]
   exact fin (some p.1) rfl
def Zix(L:List Zu)(w:Option Int)(x:V)(L':List Zu)(k q:Int)(H':Hp):Prop :=
 (w=none∧x=.non∧L'=L∧k=0∧q=0)∨∃ (e:Zu) (t:Addr) (z:Str),e∈L∧w=some e.n∧x=.ref t∧e.ss[e.g]? = some z∧H' t=some (.tup [.int e.n,.int (e.g:Int),.str z])∧L'=bump L e.n∧Ag (hdM L') (cds z) (ZcQ e.n (ZL 8 (Zv L) e.n)) k q
theorem ZhX(rd:Addr)(nb li lo:Int)(sd:Addr)(best:V):(mgF rd nb li lo sd best).lookup ("send_out" : Str)=none:=ZbH _ _ _ _ _ _ (by ac_rfl) (by ac_rfl) (by ac_rfl) (by ac_rfl) (by ac_rfl) (by ac_rfl)
theorem ZhB(rd:Addr)(nb li lo:Int)(sd:Addr)(best:V):(mgF rd nb li lo sd best).lookup ("take" : Str)=none:=ZbH _ _ _ _ _ _ (by ac_rfl) (by ac_rfl) (by ac_rfl) (by ac_rfl) (by ac_rfl) (by ac_rfl)
def Zlc(cR cM:Addr):Sp:=fun vs H Q _=>∃ (m rd sd:Addr) (L:List Zu) (s:StL) (nb li lo:Int) (w:Option Int),vs=[.ref m]∧ZR cR cM H m rd sd L s nb li lo (Zde w)∧Win (hdM L) (Zv L) w∧ZV (hdM L) s (Zv L) ∧
 ∀ (x:V) (L':List Zu) (s':StL) (w':Option Int) (k q:Int) (H':Hp),Zix L w x L' k q H'→ZR cR cM H' m rd sd L' s' nb (li+k) (lo+q) (Zde w')→Win (hdM L') (Zv L') w'→ZV (hdM L') s' (Zv L')→(∀b o,H b=some o→¬ Fp m rd sd L b→H' b=some o)→Q x H'
theorem ZlN(T:Zay K mg cRow cMerge)(f_Merge_coming:Mf P w K mg base 3 cMerge "coming" ["self"] (Zhq cRow cMerge))(f_Merge_send_out:Mf P w K mg base 5 cMerge "send_out" ["self", "number"] (ZjZ cRow cMerge)):Mf P w K mg base 6 cMerge "take" ["self"] (Zlc cRow cMerge):=by
 refine T.t_Merge_take.mf Zc0 (fun vs H Q E h=>?_) (fun cdv f A outer s H vs Q E hr h=>?_)
 ·obtain⟨m,rd,sd,L,s,nb,li,lo,w,rfl,_⟩:=h
  rfl
 obtain⟨m,rd,sd,L,s,nb,li,lo',w,rfl,M,W,ok,q⟩:=h
 refine⟨_,#[Zg,#[Zz,1,Zc0.nd,(Or.inl rfl),#[Zbo,f_Merge_coming,T.cl_Merge,hr,‹0›]],#[Zg,#[Zaz,#[Zs,Zgq,‹1›,#[Zad],(Zx _)],#[Zi,#[ZaO,#[ZcZ,f_Merge_send_out,T.cl_Merge,hr,‹0›,#[Za,#[Z0,‹0›],#[Ze]]]]],(@ZU _)],#[Zi,#[Zr,‹1›]]]],?_⟩
 obtain⟨dx,hm⟩:=M.ob
 refine⟨_,rfl,m,dx,_,rfl,hm,Zgn ..,xw9 m rd sd L s nb li lo' w ⟨rfl,M,W,fun x H1 hc s1=>?_⟩⟩
 have M1:=M.same s1
 rcases hc with⟨rfl,hw⟩|⟨t,e',z,rfl,he',hz,ht,hw⟩
 ·have hw':Win (hdM L) (Zv L) none:=by rw[Zdq]at hw;exact hw
  have ew:=W.one hw'
  subst ew
  exact⟨_,rfl,rfl,_,rfl,Zfz rfl ⟨_,rfl,q .non L s none 0 0 H1 (.inl ⟨rfl,rfl,rfl,rfl,rfl⟩) (M1.cast (by omega) (by omega)) W ok (fun b o hb _=>s1 b o hb)⟩⟩
 ·obtain⟨e,he,rfl⟩:=QJ.mp he'
  have hw':Win (hdM L) (Zv L) (some e.n):=by rw[Zdq]at hw;exact hw
  have ew:=W.one hw'
  subst ew
  obtain⟨dx1,hm1⟩:=M1.ob
  refine⟨_,rfl,rfl,_,rfl,ZmD (fun z=>nomatch z) ?_⟩
  refine⟨_,rfl,m,dx1,_,rfl,hm1,ZhX ..,_,rfl,xw5 m cMerge dx1 _ _ ⟨rfl,hm1,T.cl_Merge,T.na_Merge_best,Zcw ..,ZoQ m rd sd L s nb li lo' _ e z ⟨rfl,M1,he,hz,W,ok,fun s' w' k q' H2 M2 W2 ok2 ag k2=>?_⟩⟩⟩
  have ht2:H2 t=some (.tup [.int e.n,.int (e.g:Int),.str z]):=k2 _ _ ht fun hf=>by
   have ht':=ht
   rcases hf with h|h|h|⟨y,hy,h⟩
   ·rw[h,hm1]at ht';cases ht'
   ·rw[h,M1.rows]at ht';cases ht'
   ·rw[h,M1.stays]at ht';cases ht'
   ·have R:=(M1.each y hy).at'
    obtain⟨dy,hdy⟩:=R.ob
    rcases h with h|h|h
    ·rw[h,hdy]at ht';cases ht'
    ·rw[h,R.ks]at ht';cases ht'
    ·rw[h,R.fs]at ht';cases ht'
  exact⟨_,rfl,q (.ref t) (bump L e.n) s' w' k q' H2 (.inr ⟨e,t,z,he,rfl,rfl,hz,ht2,rfl,ag⟩) M2 (by rw[Zbl];exact W2) (by rw[Zbl];exact ok2) (fun b o hb nf=>k2 b o (s1 b o hb) nf)⟩
abbrev ZF:=Int×List Str×Nat
def pur(Lo:List ZaF):List ZF:=Lo.map fun e=>(e.1,e.2.2)
def Zam(L:List Zu):List ZF:=L.map fun e=>(e.n,(e.ss,e.g))
def hdP(P:List ZF):Hd:=hdL (P.map fun x=>(x.1,0,x.2))
def ZaG(P:List ZF):List Int:=P.map (·.1)
def Zav(n:Int)(x:ZF):ZF:=if x.1=n then (x.1,x.2.1,x.2.2+1) else x
def ZaQ(P:List ZF)(n:Int):List ZF:=P.map (Zav n)
theorem Zen(L:List Zu):hdM L=hdP (Zam L):=Zic _ _ (by unfold Zam;rw[QF,QF,QF];rfl)
theorem Zba(L:List Zu):Zv L=ZaG (Zam L):=by unfold ZaG Zam Zv;rw[QF];rfl
theorem Zfr(L:List Zu)(n:Int):Zam (bump L n)=ZaQ (Zam L) n:=by
 unfold Zam bump ZaQ
 rw[QF,QF]
 refine QY fun e _=>?_
 simp only[Function.comp]
 unfold Zav
 by_cases h:e.n=n
 ·rw[Zdo h,if_pos h]
 ·rw[ZeH h,if_neg h]
def Zol(n:Int)(e:ZaF):ZaF:=if e.1=n then (e.1,e.2.1,e.2.2.1,e.2.2.2+1) else e
def Zoe(Lo:List ZaF)(n:Int):List ZaF:=Lo.map (Zol n)
theorem Zfw(P:List ZF)(n:Int):ZaG (ZaQ P n)=ZaG P:=by
 unfold ZaG ZaQ
 rw[QF]
 refine QY fun x _=>?_
 simp only[Function.comp]
 unfold Zav
 split<;>rfl
theorem Zey{P:List ZF}(nd:(ZaG P).Nodup){x:ZF}(h:x∈P):hdP P x.1=(x.2.1[x.2.2]?).map cds :=
 Zh4 (L:=P.map fun x:ZF=>((x.1,0,x.2):ZaF)) (e:=(x.1,0,x.2)) (by rw[QF];exact nd) (Qm (f:=fun x:ZF=>((x.1,0,x.2):ZaF)) h)
def ZkR(P:List ZF)(x:ZF)(z:Str)(k q:Int):Prop:=x∈P∧x.2.1[x.2.2]? = some z∧Win (hdP P) (ZaG P) (some x.1)∧Ag (hdP (ZaQ P x.1)) (cds z) (ZcQ x.1 (ZL 8 (ZaG P) x.1)) k q
abbrev ZY:=Int×Nat×Str
inductive ZbY (P:List ZF):List ZY→List ZF→Int→Int→Prop
 | nil:ZbY P [] P 0 0
 | snoc {ts:List ZY} {P1:List ZF} {x:ZF} {z:Str} {k q k1 q1:Int}:ZbY P ts P1 k q→ZkR P1 x z k1 q1→ZbY P (ts++[(x.1,x.2.2,z)]) (ZaQ P1 x.1) (k+k1) (q+q1)
inductive Zek:List ZF→Int→Int→Prop
 | stop {P:List ZF}:Win (hdP P) (ZaG P) none→Zek P 0 0
 | go {P:List ZF} {x:ZF} {z:Str} {k q k1 q1:Int}:ZkR P x z k1 q1→Zek (ZaQ P x.1) k q→Zek P (k1+k) (q1+q)
theorem ZbY.num{P P':List ZF}{ts:List ZY}{k q:Int}(h:ZbY P ts P' k q):ZaG P'=ZaG P:=by
 induction h with
 | nil=>rfl
 | snoc _ _ ih=>rw[Zfw,ih]
def ZaB(P:List ZF):Nat:=(P.map fun x=>x.2.1.length-x.2.2).sum
theorem Zd4:∀ (P:List ZF),(ZaG P).Nodup→∀ {x:ZF},x∈P→x.2.2<x.2.1.length→ZaB (ZaQ P x.1)+1=ZaB P
 | [],_,_,h,_=>by cases h
 | y::P,nd,x,h,hlt=>by
  unfold ZaG at nd
  rw[Qe,Q3]at nd
  unfold ZaB ZaQ
  rw[Qe,Qe,Qe,Qat,Qat]
  rcases Qz.mp h with rfl|h
  ·have e:P.map (Zav x.1)=P:=by
    conv=>rhs;rw[← List.map_id P]
    refine QY fun u hu=>?_
    unfold Zav
    rw[if_neg (fun z:u.1=x.1=>nd.1 (z ▸ Qm (f:=fun x:ZF=>x.1) hu))]
    rfl
   rw[e]
   unfold Zav
   rw[if_pos rfl]
   show x.2.1.length-(x.2.2+1)+_+1=_
   omega
  ·have ih:=Zd4 P nd.2 h hlt
   unfold ZaB ZaQ at ih
   have e:Zav x.1 y=y:=if_neg (fun z:y.1=x.1=>nd.1 (z ▸ Qm (f:=fun x:ZF=>x.1) h))
   rw[e]
   omega
theorem ZbY.left{P P':List ZF}{ts:List ZY}{k q:Int}(h:ZbY P ts P' k q)(nd:(ZaG P).Nodup):ZaB P'+ts.length=ZaB P:=by
 induction h with
 | nil=>rfl
 | snoc h s ih =>
  have:=Zd4 _ (by rw[h.num];exact nd) s.1 (Qg.mp s.2.1).1
  rw[Qd,QK]
  omega
theorem ZiS{L L':List Zu}{w:Option Int}{x:V}{k q:Int}{H:Hp}(W:Win (hdM L) (Zv L) w)(h:Zix L w x L' k q H):(Win (hdP (Zam L)) (ZaG (Zam L)) none∧x=.non∧L'=L∧k=0∧q=0)∨∃ (y:ZF) (z:Str) (t:Addr),ZkR (Zam L) y z k q∧Zam L'=ZaQ (Zam L) y.1∧x=.ref t∧H t=some (.tup [.int y.1,.int (y.2.2:Int),.str z]):=by
 rw[Zen,Zba]at W
 rcases h with⟨rfl,h1,h2,h3,h4⟩|⟨e,t,z,he,rfl,rfl,hz,ht,rfl,ag⟩
 ·exact .inl ⟨W,h1,h2,h3,h4⟩
 ·refine .inr ⟨(e.n,(e.ss,e.g)),z,t,⟨Qm (f:=fun e:Zu=>(e.n,(e.ss,e.g))) he,hz,W,?_⟩,Zfr L e.n,rfl,ht⟩
  rw[Zen,Zfr,Zba]at ag
  exact ag
def Zn1(K:PySem.W.Frag)(cR cM:Addr):Sp:=fun vs H Q _=>∃ (m rd sd:Addr) (L:List Zu) (s:StL) (nb li lo:Int) (w:Option Int) (many:Int),vs=[.ref m,.int many]∧ZR cR cM H m rd sd L s nb li lo (Zde w)∧Win (hdM L) (Zv L) w∧ZV (hdM L) s (Zv L)∧ZaB (Zam L)≤100000 ∧
 ∀ (r:Addr) (us:List (Addr×ZY)) (L':List Zu) (s':StL) (w':Option Int) (k q:Int) (H':Hp),H r=none→H' r=some (.lst (us.map fun u=>V.ref u.1))→(∀u∈us,H' u.1=some (.tup [.int u.2.1,.int (u.2.2.1:Int),.str u.2.2.2]))→ZbY (Zam L) (us.map (·.2)) (Zam L') k q→((us.length:Int)<many→w'=none)→(us≠[]→(us.length:Int)≤many)→ZR cR cM H' m rd sd L' s' nb (li+k) (lo+q) (Zde w')→Win (hdM L') (Zv L') w'→ZV (hdM L') s' (Zv L')→(∀b,Fp m rd sd L' b↔Fp m rd sd L b)→(∀b o,H b=some o→¬ Fp m rd sd L b→H' b=some o)→Q (.ref r) H'
theorem Zix.fp{L L':List Zu}{w:Option Int}{x:V}{k q:Int}{H:Hp}(h:Zix L w x L' k q H){m rd sd b:Addr}:Fp m rd sd L' b↔Fp m rd sd L b:=by
 rcases h with⟨_,_,rfl,_⟩|⟨e,t,z,_,_,_,_,_,rfl,_⟩
 ·exact Iff.rfl
 ·exact⟨ZlT,Fp_bump'⟩
theorem ZR.fp_live{cR cM:Addr}{H:Hp}{m rd sd:Addr}{L:List Zu}{s:StL}{nb li lo:Int}{best:V}(M:ZR cR cM H m rd sd L s nb li lo best){b:Addr}(h:Fp m rd sd L b):∃o,H b=some o∧∀xs,o≠.tup xs:=by
 rcases h with rfl|rfl|rfl|⟨e,he,h⟩
 ·obtain⟨dx,hd⟩:=M.ob;exact⟨_,hd,fun xs z=>by cases z⟩
 ·exact⟨_,M.rows,fun xs z=>by cases z⟩
 ·exact⟨_,M.stays,fun xs z=>by cases z⟩
 ·have R:=(M.each e he).at'
  obtain⟨dx,hd⟩:=R.ob
  rcases h with rfl|rfl|rfl
  ·exact⟨_,hd,fun xs z=>by cases z⟩
  ·exact⟨_,R.ks,fun xs z=>by cases z⟩
  ·exact⟨_,R.fs,fun xs z=>by cases z⟩
theorem ZR.fp_fresh{cR cM:Addr}{H:Hp}{m rd sd:Addr}{L:List Zu}{s:StL}{nb li lo:Int}{best:V}(M:ZR cR cM H m rd sd L s nb li lo best){b:Addr}(h:H b=none):¬ Fp m rd sd L b:=fun z=>by
 obtain⟨o,ho,_⟩:=M.fp_live z
 rw[h]at ho;cases ho
theorem ZR.fp_tup{cR cM:Addr}{H:Hp}{m rd sd:Addr}{L:List Zu}{s:StL}{nb li lo:Int}{best:V}(M:ZR cR cM H m rd sd L s nb li lo best){b:Addr}{xs:List V}(h:H b=some (.tup xs)):¬ Fp m rd sd L b:=fun z=>by
 obtain⟨o,ho,hn⟩:=M.fp_live z
 rw[h]at ho;cases ho;exact hn xs rfl
theorem Zns(T:Zay K mg cRow cMerge)(f_Merge_take:Mf P w K mg base 6 cMerge "take" ["self"] (Zlc cRow cMerge)):Mf P w K mg base 7 cMerge "take_few" ["self", "many"] (Zn1 K cRow cMerge):=by
 refine T.t_Merge_take_few.mf Zbz (fun vs H Q E h=>?_) (fun cdv f A outer s H vs Q E hr h=>?_)
 ·obtain⟨m,rd,sd,L,s,nb,li,lo,w,many,rfl,_⟩:=h
  rfl
 obtain⟨m,rd,sd,L,s,nb,li,lo',w,many,rfl,M,W,ok,hleft,q⟩:=h
 refine⟨_,#[Zg,#[Zz,2,Zbz.nd,(Or.inl rfl),#[ZaJ,#[Ze]]],#[Zg,(@ZeS _ _ _ _ _ _ PassesOwn.never (@PW.pt _ _ _ #[Zd0,#[Zs,ZeT,#[Zm,(Zc7 K),T.b.n_len,QD,#[Za,‹2›,#[Ze]]],‹1›,(Zx _)],(@Zdl _ _ _ _ #[Zs,Zgq,#[Z0,‹0›],#[Zad],(Zx _)])]) #[Zi,#[ZaO,#[Zdu,QO,QW,QX,ZaR,‹2›,#[Za,#[Zbo,f_Merge_take,T.cl_Merge,hr,‹0›],#[Ze]]]]]),#[Zi,#[Zr,‹2›]]]],?_⟩
 have nd:(ZaG (Zam L)).Nodup:=by rw[← Zba];exact M.nd
 refine⟨(by show 0≤sizeLine;decide),fun r hr0=>?_⟩
 have nfr:=M.fp_fresh hr0
 refine⟨fun mm σ H2=>∃ (us:List (Addr×ZY)) (L':List Zu) (s':StL) (w':Option Int) (k q':Int),σ=[some (.ref m),some (.int many),some (.ref r)]∧H2 r=some (.lst (us.map fun u=>V.ref u.1))∧(∀u∈us,u.1≠r∧H2 u.1=some (.tup [.int u.2.1,.int (u.2.2.1:Int),.str u.2.2.2]))∧ZbY (Zam L) (us.map (·.2)) (Zam L') k q'∧(us≠[]→(us.length:Int)≤many)∧ZR cRow cMerge H2 m rd sd L' s' nb (li+k) (lo'+q') (Zde w')∧Win (hdM L') (Zv L') w'∧ZV (hdM L') s' (Zv L')∧(∀b,Fp m rd sd L' b↔Fp m rd sd L b)∧(∀b o,H b=some o→¬ Fp m rd sd L b→H2 b=some o)∧mm=ZaB (Zam L'),⟨_,[],L,s,w,0,0,rfl,Zd,(fun u h=>by cases h),.nil,(fun h=>absurd rfl h),(M.same (Zj hr0 _)).cast (by omega) (by omega),W,ok,fun _=>Iff.rfl,fun b o hb _=>Zj hr0 _ _ _ hb,rfl⟩,?_⟩
 rintro mm σ H2 ⟨us,L1,s1,w1,k,q',rfl,hr2,hus,htk,hmany,M2,W2,ok2,hfp,k2,rfl⟩
 have hul:(((us.map fun u=>V.ref u.1).length:Nat):Int)=(us.length:Int):=by rw[Qb]
 have hlf:=htk.left nd
 rw[Qb]at hlf
 obtain⟨dx2,hm2⟩:=M2.ob
 have done:((us.length:Int)<many→w1=none)→Q (.ref r) H2:=fun hd=>q r us L1 s1 w1 k q' H2 hr0 hr2 (fun u hu=>(hus u hu).2) htk hd hmany M2 W2 ok2 hfp k2
 refine⟨_,rfl,r,_,rfl,.inl (SqL.of hr2),_,rfl,_,_,rfl,rfl,_,rfl,Zbx (fun d1=>?_) (fun d1=>?_)⟩
 ·have d1':(us.length:Int)<many:=by have:=of_decide_eq_true d1;omega
  refine⟨_,rfl,xw5 m cMerge dx2 _ _ ⟨rfl,hm2,T.cl_Merge,T.na_Merge_best,Zcw ..,rfl,_,rfl,?_⟩⟩
  cases w1 with
  | none=>exact Zfz rfl ⟨_,rfl,done fun _=>rfl⟩
  | some a =>
  refine ZmD (fun z=>nomatch z) ?_
  refine⟨_,fun σ' H' h=>h,?_⟩
  refine⟨_,rfl,.inl ⟨rfl,_,SqL.of hr2⟩,_,rfl,m,dx2,_,rfl,hm2,ZhB ..,m,rd,sd,L1,s1,nb,_,_,some a,rfl,M2,W2,ok2,fun x L3 s3 w3 k3 q3 H3 hR M3 W3 ok3 kp3=>?_⟩
  have hr3:H3 r=some (.lst (us.map fun u=>V.ref u.1)):=kp3 _ _ hr2 (fun z=>nfr ((hfp r).mp z))
  rcases ZiS W2 hR with⟨w0,_⟩|⟨y,z,t,stp,eL,rfl,ht⟩
  ·rw[Zen,Zba]at W2
   exact nomatch w0.one W2
  have hbl:=Zd4 _ (by rw[htk.num];exact nd) stp.1 (Qg.mp stp.2.1).1
  have htr:t≠r:=fun e=>by rw[e,hr3]at ht;cases ht
  refine⟨r,_,_,rfl,rfl,hr3,(by rw[Qb,sizeLine_eq];omega),ZaB (Zam L3),by rw[eL];omega,us++[(t,(y.1,y.2.2,z))],L3,s3,w3,k+k3,q'+q3,rfl,by rw[Zd,Qj];rfl,fun u hu=>?_,?_,fun _=>by rw[Qd,QK];omega,?_,W3,ok3,fun b=>(hR.fp).trans (hfp b),fun b o hb nf=>?_,rfl⟩
  ·rcases Qk.mp hu with hu|hu
   ·obtain⟨g2,g3⟩:=hus u hu
    exact⟨g2,by rw[Zc g2];exact kp3 _ _ g3 (M2.fp_tup g3)⟩
   ·rw[Ql.mp hu]
    exact⟨htr,by rw[Zc htr];exact ht⟩
  ·rw[Qj,eL]
   exact .snoc htk stp
  ·refine ZR.cast (M3.keep fun b o hb hor=>?_) (by omega) (by omega)
   rw[Zc (fun e=>?_)]
   ·exact hb
   ·subst e
    rcases hor with hf|⟨xs,rfl⟩
    ·exact nfr ((hfp b).mp (hR.fp.mp hf))
    ·rw[hr3]at hb;cases hb
  ·rw[Zc (Zb hb hr0)]
   exact kp3 b o (k2 b o hb nf) (fun z=>nf ((hfp b).mp z))
 ·refine Zcc ⟨_,rfl,done fun h=>?_⟩
  have:¬ ((((us.map fun u=>V.ref u.1).length:Nat):Int)<many):=fun z=>d1 (decide_eq_true z)
  omega
def spLWay:Sp:=fun vs H Q _=>∃ (a:Addr) (N:List Int) (n:Int),vs=[.ref a,.int n]∧H a=some (.lst (N.map V.int))∧n∈N∧N.length≤60∧Z8 N ∧
 ∀ (r:Addr) (ts:List (Addr×Addr×Addr)) (H':Hp),H r=none→H' r=some (.lst (ts.map fun t=>V.ref t.1))→ts.length=(ZL 8 N n).length→(∀ (i:Nat) (t:Addr×Addr×Addr) (X:List Int),ts[i]? = some t→(ZL 8 N n)[i]? = some X→H' t.1=some (.tup [.ref t.2.1,.ref t.2.2])∧H' t.2.1=some (.lst ((Z4 X n).map V.int))∧H' t.2.2=some (.lst ((Zac X n).map V.int)))→ZD H H'→Q (.ref r) H'
def Zne(Lo:List ZaF)(x:V)(Lo':List ZaF)(k q:Int)(H':Hp):Prop :=
 (x=.non∧Win (hdL Lo) (Lo.map (·.1)) none∧Lo'=Lo∧k=0∧q=0)∨∃ (e:ZaF) (t:Addr) (z:Str),e∈Lo∧Win (hdL Lo) (Lo.map (·.1)) (some e.1)∧x=.ref t∧e.2.2.1[e.2.2.2]? = some z∧H' t=some (.tup [.int e.1,.int (e.2.2.2:Int),.str z])∧Lo'=Zoe Lo e.1∧Ag (hdL Lo') (cds z) (ZcQ e.1 (ZL 8 (Lo.map (·.1)) e.1)) k q
def spLTaken:Sp:=fun vs H Q _=>∃ (o ra ga:Addr) (Lo:List ZaF) (nb li lo:Int),vs=[.ref o]∧Own H o ra ga Lo nb li lo∧(Lo.map (·.1)).Pairwise (·<·) ∧
 ∀ (x:V) (Lo':List ZaF) (k q:Int) (H':Hp),Zne Lo x Lo' k q H'→Own H' o ra ga Lo' nb (li+k) (lo+q)→(∀b u,H b=some u→b≠o→b≠ga→H' b=some u)→Q x H'
structure MS where
 m:Addr
 rd:Addr
 sd:Addr
 L:List Zu
 s:StL
 nb:Int
 li:Int
 lo:Int
 w:Option Int
structure OS where
 o:Addr
 ra:Addr
 ga:Addr
 Lo:List ZaF
 nb:Int
def Zpb(Y:OS)(b:Addr):Prop:=b=Y.o∨b=Y.ra∨b=Y.ga∨∃e∈Y.Lo,b=e.2.1
def MFp(X:MS)(b:Addr):Prop:=Fp X.m X.rd X.sd X.L b
structure MOk (cR cM:Addr) (H:Hp) (X:MS):Prop where
 M:ZR cR cM H X.m X.rd X.sd X.L X.s X.nb X.li X.lo (Zde X.w)
 W:Win (hdM X.L) (Zv X.L) X.w
 ok:ZV (hdM X.L) X.s (Zv X.L)
structure Pair (cR cM:Addr) (H:Hp) (X:MS) (Y:OS):Prop where
 mg:MOk cR cM H X
 ow:Own H Y.o Y.ra Y.ga Y.Lo Y.nb X.li X.lo
 ag:Agr Y.Lo X.L
 sep:∀b,MFp X b→¬ Zpb Y b
theorem MOk.same{cR cM:Addr}{H H':Hp}{X:MS}(h:MOk cR cM H X)(s:ZD H H'):MOk cR cM H' X:=⟨h.M.same s,h.W,h.ok⟩
theorem Zjs{P:List ZF}(nd:(ZaG P).Nodup)(h:Win (hdP P) (ZaG P) none)(ok:∀x∈P,x.2.2≤x.2.1.length):ZaB P=0:=by
 unfold ZaB
 have:∀l:List Nat,(∀a∈l,a=0)→l.sum=0:=fun l hl=>by
  induction l with
  | nil=>rfl
  | cons b r ih=>rw[Qat,hl b (by simp),ih fun a ha=>hl a (Qi _ ha)]
 refine this _ fun a ha=>?_
 obtain⟨x,hx,rfl⟩:=QJ.mp ha
 have hh:=h x.1 (Qm (f:=fun x:ZF=>x.1) hx)
 rw[Zey nd hx]at hh
 cases hg:x.2.1[x.2.2]? with
 | none=>rw[QaE]at hg;show x.2.1.length-x.2.2=0;omega
 | some y=>rw[hg]at hh;cases hh
def Zd6(rs:List (Addr×List Str)):List ZF:=(Zcm 0 rs.length).zip (rs.map fun x=>(x.2,0))
theorem Ziy{α β γ:Type}(f:α→β)(g:α→γ):∀l:List α,l.map (fun x=>(f x,g x))=(l.map f).zip (l.map g)
 | []=>rfl
 | x::r=>by rw[Qe,Qe,Qe,Qao,Ziy f g r]
theorem Zlb{L:List Zu}{rs:List (Addr×List Str)}(h:Zm8 L rs):Zam L=Zd6 rs:=by
 unfold Zam Zd6
 rw[Ziy (fun e:Zu=>e.n) (fun e=>(e.ss,e.g)) L,← h.1,← h.2];rfl
theorem ZkT(rs:List (Addr×List Str)):ZaB (Zd6 rs)=(rs.map fun x=>x.2.length).sum:=by
 unfold ZaB Zd6
 have e:((Zcm 0 rs.length).zip (rs.map fun x=>(x.2,0))).map (fun x:ZF=>x.2.1.length-x.2.2)=((((Zcm 0 rs.length).zip (rs.map fun x=>(x.2,0))).map (·.2))).map (fun y:List Str×Nat=>y.1.length-y.2):=by rw[QF];rfl
 rw[e,List.map_snd_zip (by rw[Qb,ZeD];exact Qf _),QF]
 rfl
theorem ZkN{L':List Zu}{P:List ZF}{ts:List ZY}{k q:Int}{w':Option Int}{many:Nat}(nd:(ZaG P).Nodup)(h:ZbY P ts (Zam L') k q)(h1:(ts.length:Int)<(many:Int)→w'=none)(h2:ts≠[]→(ts.length:Int)≤(many:Int))(W:Win (hdM L') (Zv L') w')(ok:∀x∈Zam L',x.2.2≤x.2.1.length):ts.length=min many (ZaB P):=by
 have hl:=h.left nd
 by_cases hlt:(ts.length:Int)<(many:Int)
 ·have e:=h1 hlt
  subst e
  rw[Zen,Zba]at W
  have hz:=Zjs (by rw[h.num];exact nd) W ok
  omega
 ·by_cases hn:ts=[]
  ·subst hn
   simp only[List.length_nil]at hlt ⊢
   omega
  ·have:=h2 hn
   omega
theorem Zd5{H:Hp}{n:Nat}:∀ (us vs:List (Addr×ZY)),us.map (·.2)=vs.map (·.2)→(∀u∈us,H u.1=some (.tup [.int u.2.1,.int (u.2.2.1:Int),.str u.2.2.2]))→(∀u∈vs,H u.1=some (.tup [.int u.2.1,.int (u.2.2.1:Int),.str u.2.2.2]))→F2 (IsD H (n+2)) (us.map fun u=>V.ref u.1) (vs.map fun u=>V.ref u.1)
 | [],[],_,_,_=>.nil
 | [],_::_,e,_,_=>by cases e
 | _::_,[],e,_,_=>by cases e
 | u::us,v::vs,e,h,g=>by
  rw[Qe,Qe]at e
  obtain⟨e1,e2⟩:=List.cons.inj e
  have hu:=h u (by simp)
  have hv:=g v (by simp)
  rw[← e1]at hv
  exact .cons (Zmh hu hv (by show 3≤1000;decide) (.cons (Zge _) (.cons (Zge _) (.cons (Zg6 (.inr (.inr (.inr ⟨_,rfl⟩)))) .nil)))) (Zd5 us vs e2 (fun x hx=>h x (Qi _ hx)) (fun x hx=>g x (Qi _ hx)))
theorem ZdJ:∀a b:List Nat,Spec.ltCps a b=true↔a<b
 | [],[]=>by simp[Spec.ltCps]
 | [],y::s=>by simp[Spec.ltCps]
 | x::r,[]=>by simp[Spec.ltCps]
 | x::r,y::s=>by
  have ih:=ZdJ r s
  rw[List.cons_lt_cons_iff]
  simp[Spec.ltCps,ih]
def LeS(a b:Str):Prop:=¬ b.cps.toList<a.cps.toList
theorem LeS.trans{a b c:Str}(h:LeS a b)(k:LeS b c):LeS a c:=List.not_lt.mpr (List.le_trans (List.not_lt.mp h) (List.not_lt.mp k))
theorem ZfA:∀ (r:List Str) (x:Str),risingS x r=true↔(x::r).Pairwise LeS
 | [],x=>by simp[risingS]
 | y::r,x=>by
  have ih:=ZfA r y
  rw[List.pairwise_cons]
  unfold risingS
  rw[QaA,Bool.not_eq_true']
  constructor
  ·rintro⟨h1,h2⟩
   have p:=ih.mp h2
   have hxy:LeS x y:=fun z=>by rw[(ZdJ _ _).mpr z]at h1;cases h1
   refine⟨fun b hb=>?_,p⟩
   rcases Qz.mp hb with rfl|hb
   ·exact hxy
   ·exact hxy.trans ((Qap.mp p).1 b hb)
  ·rintro⟨h1,h2⟩
   exact⟨Bool.eq_false_iff.mpr fun z=>h1 y (by simp) ((ZdJ _ _).mp z),ih.mpr h2⟩
theorem ZgA(ss:List Str):sortedS ss=true↔ss.Pairwise LeS:=by
 cases ss with
 | nil=>simp[sortedS]
 | cons x r=>exact ZfA r x
def Zho(P:List ZF):List Str:=P.flatMap fun x=>x.2.1.drop x.2.2
theorem ZfZ{ss:List Str}{g:Nat}{z:Str}(h:ss[g]? = some z):ss.drop g=z::ss.drop (g+1):=by
 obtain⟨hlt,e⟩:=Qg.mp h
 rw[List.drop_eq_getElem_cons hlt,e]
theorem ZgQ:∀ (P:List ZF),(ZaG P).Nodup→∀ {x:ZF} {z:Str},x∈P→x.2.1[x.2.2]? = some z→(z::Zho (ZaQ P x.1)).Perm (Zho P)
 | [],_,_,_,h,_=>by cases h
 | y::P,nd,x,z,h,hz=>by
  unfold ZaG at nd
  rw[Qe,Q3]at nd
  unfold Zho ZaQ
  rw[Qe,QaZ,QaZ]
  rcases Qz.mp h with rfl|h
  ·have e:P.map (Zav x.1)=P:=by
    conv=>rhs;rw[← List.map_id P]
    refine QY fun u hu=>?_
    unfold Zav
    rw[if_neg (fun z:u.1=x.1=>nd.1 (z ▸ Qm (f:=fun x:ZF=>x.1) hu))]
    rfl
   rw[e,ZfZ hz]
   unfold Zav
   rw[if_pos rfl]
   exact QaU _
  ·have ih:=ZgQ P nd.2 h hz
   unfold Zho ZaQ at ih
   have e:Zav x.1 y=y:=if_neg (fun z:y.1=x.1=>nd.1 (z ▸ Qm (f:=fun x:ZF=>x.1) h))
   rw[e]
   exact List.perm_middle.symm.trans (ih.append_left _)
theorem Zkk{a b:Str}(h:ZA (cds a) (cds b)≤0):LeS a b:=fun z=>by
 have z':cds b<cds a:=z
 have:=(ZdY _ _).mp z'
 have:=ZaK (cds a) (cds b)
 omega
theorem LeS.refl(a:Str):LeS a a:=Zkk (by rw[Zd2];exact Int.le_refl _)
theorem LeS.anti{a b:Str}(h:LeS a b)(k:LeS b a):a=b:=by
 have h1:¬ ZA (cds b) (cds a)<0:=fun z=>h ((ZdY _ _).mpr z)
 have h2:¬ ZA (cds a) (cds b)<0:=fun z=>k ((ZdY _ _).mpr z)
 have:=ZaK (cds a) (cds b)
 have e:cds a=cds b:=ZbW _ _ (by omega)
 obtain⟨⟨a⟩⟩:=a
 obtain⟨⟨b⟩⟩:=b
 have e':a=b:=e
 rw[e']
def Zc2(P:List ZF):Prop:=∀x∈P,sortedS x.2.1=true
theorem Zc2.bump{P:List ZF}(h:Zc2 P)(n:Int):Zc2 (ZaQ P n):=fun x hx=>by
 obtain⟨y,hy,rfl⟩:=QJ.mp hx
 unfold Zav
 split
 ·exact h y hy
 ·exact h y hy
theorem Znv{x y:Str}(h:cds x=cds y):x=y:=by
 obtain⟨x⟩:=x
 obtain⟨y⟩:=y
 have:x=y:=Array.ext' h
 rw[this]
theorem Zhv{K:PySem.W.Frag}{a:Addr}{xs:List V}{k:Nat}{D:Addr}{σ:L2.St}{H1:Hp}{g:TG}{tc:TT}{te:TE}{Q:VK}(Pv:Nat→List V→L2.St→Hp→Prop)(h0:Pv 0 [] (σ++List.replicate k none) (upd H1 D (.lst [])))
  (hl:∀i zs σ H,Pv i zs σ H→SqL K H a xs)
  (hs:∀i zs σ H x p,xs[i]? = some x→Pv i zs σ H→H p=none→g (.ref p) σ (upd H p (.tup [.int i,x])) fun σ4 H4=>tc σ4 H4 fun b H5=>if b=true then te σ4 H5 fun z H6=>H6 D=some (.lst zs)∧zs.length<sizeLine∧Pv (i+1) (zs++[z]) σ4 (upd H6 D (.lst (zs++[z]))) else Pv (i+1) zs σ4 H5)
  (hd:∀zs σ H,Pv xs.length zs σ H→Q (.ref D) H):ZdN (Ite K a) D k σ H1 g tc te Q:=by
 refine⟨fun i m zs σ H=>m=xs.length-i∧i≤xs.length∧Pv i zs σ H,⟨xs.length,by simp,Qv _,h0⟩,?_⟩
 rintro i m zs σ H ⟨rfl,hi,p⟩
 have q1:=hl i zs σ H p
 by_cases hlt:i<xs.length
 ·refine .inr ⟨⟨xs,q1,hlt⟩,Pv (i+1),fun ys' σ' H' p'=>⟨xs.length-(i+1),by omega,rfl,hlt,p'⟩,fun x H' y=>?_⟩
  obtain⟨r,hr,rfl,e⟩:=y
  have e':=e xs q1 _ (Qa hlt)
  subst e'
  exact hs i zs σ H _ r (Qa hlt) p hr
 ·have e:i=xs.length:=by omega
  exact .inl ⟨⟨xs,q1,by omega⟩,hd zs σ H (e ▸ p)⟩
def Zim(P:List ZF)(x:ZF)(z:Str):Prop:=x∈P∧x.2.1[x.2.2]? = some z∧Win (hdP P) (ZaG P) (some x.1)
inductive TkW (P:List ZF):List ZY→List ZF→Prop
 | nil:TkW P [] P
 | snoc {ts:List ZY} {P1:List ZF} {x:ZF} {z:Str}:TkW P ts P1→Zim P1 x z→TkW P (ts++[(x.1,x.2.2,z)]) (ZaQ P1 x.1)
theorem ZbY.tk{P P':List ZF}{ts:List ZY}{k q:Int}(h:ZbY P ts P' k q):TkW P ts P':=by
 induction h with
 | nil=>exact .nil
 | snoc h s ih=>exact .snoc ih ⟨s.1,s.2.1,s.2.2.1⟩
theorem TkW.num{P P':List ZF}{ts:List ZY}(h:TkW P ts P'):ZaG P'=ZaG P:=by
 induction h with
 | nil=>rfl
 | snoc _ _ ih=>rw[Zfw,ih]
theorem Zim.le{P:List ZF}(nd:(ZaG P).Nodup)(srt:Zc2 P){x:ZF}{z:Str}(h:Zim P x z):∀y∈Zho P,LeS z y:=fun y hy=>by
 obtain⟨hx,hz,W⟩:=h
 obtain⟨_,zc,hzc,hall⟩:=W
 rw[Zey nd hx,hz]at hzc
 have hzc':cds z=zc:=Qo hzc
 subst hzc'
 obtain⟨u,hu,hyu⟩:=List.mem_flatMap.mp hy
 cases hh:u.2.1[u.2.2]? with
 | none=>rw[QV (List.getElem?_eq_none_iff.mp hh)]at hyu;cases hyu
 | some hd =>
  have hle:LeS hd y:=by
   have p:(u.2.1.drop u.2.2).Pairwise LeS:=((ZgA _).mp (srt u hu)).sublist (QaV _ _)
   rw[ZfZ hh]at p hyu
   rcases Qz.mp hyu with rfl|hyu
   ·exact LeS.refl _
   ·exact(Qap.mp p).1 y hyu
  have hd':=Zey nd hu
  rw[hh]at hd'
  rcases hall u.1 (Qm (f:=fun x:ZF=>x.1) hu) _ hd' with e|b
  ·have e2:=ZdC nd hu hx e
   subst e2
   have:=Qo (hz.symm.trans hh)
   rw[this];exact hle
  ·refine(Zkk ?_).trans hle
   rcases b with b|⟨b,_⟩<;>omega
theorem TkW.srt{P P':List ZF}{ts:List ZY}(h:TkW P ts P')(nd:(ZaG P).Nodup)(srt:Zc2 P):Zc2 P'∧(ts.map (·.2.2)++Zho P').Perm (Zho P)∧(ts.map (·.2.2)).Pairwise LeS∧∀a∈ts.map (·.2.2),∀b∈Zho P',LeS a b:=by
 induction h with
 | nil=>exact⟨srt,QaU _,List.Pairwise.nil,fun a ha=>by cases ha⟩
 | snoc h s ih =>
  obtain⟨i1,i2,i3,i4⟩:=ih
  have nd1:=nd
  rw[← h.num]at nd1
  have pm:=ZgQ _ nd1 s.1 s.2.1
  have le:=s.le nd1 i1
  refine⟨i1.bump _,?_,?_,fun a ha b hb=>?_⟩
  ·rw[Qj,QT]
   exact(pm.append_left _).trans i2
  ·rw[Qj]
   refine Q7.mpr ⟨i3,QaO _ _,fun a ha b hb=>?_⟩
   have eb:=Ql.mp hb
   rw[eb]
   exact i4 a ha _ (pm.mem_iff.mp (QA ..))
  ·have hb':=pm.mem_iff.mp (Qi _ hb)
   rw[Qj]at ha
   rcases Qk.mp ha with ha|ha
   ·exact i4 a ha b hb'
   ·rw[Ql.mp ha]
    exact le b hb'
def LtT(u v:ZY):Prop:=ZA (cds u.2.2) (cds v.2.2)<0∨(u.2.2=v.2.2∧(u.1<v.1∨(u.1=v.1∧u.2.1<v.2.1)))
theorem Zd1{a b:Str}(h:LeS a b):ZA (cds a) (cds b)<0∨a=b:=by
 by_cases e:ZA (cds a) (cds b)<0
 ·exact .inl e
 ·refine .inr (h.anti fun z=>e ((ZdY _ _).mp z))
theorem ZjM{ss:List Str}(h:sortedS ss=true){i j:Nat}(hij:i≤j){x y:Str}(hx:ss[i]? = some x)(hy:ss[j]? = some y):LeS x y:=by
 rcases Nat.lt_or_eq_of_le hij with hlt|rfl
 ·have p:=(ZgA _).mp h
  obtain⟨h1,e1⟩:=Qg.mp hx
  obtain⟨h2,e2⟩:=Qg.mp hy
  rw[← e1,← e2]
  exact QaD.mp p i j h1 h2 hlt
 ·rw[Qo (hx.symm.trans hy)];exact LeS.refl _
theorem Zgc{a b c:Str}(h:ZA (cds a) (cds b)<0)(g:LeS b c):ZA (cds a) (cds c)<0:=by
 rcases Zd1 g with g|rfl
 ·have h1:=Zbs _ _ _ (Int.le_of_lt h) (Int.le_of_lt g)
  by_cases e:ZA (cds a) (cds c)=0
  ·have e2:=ZbW _ _ e
   rw[← e2]at g
   have:=ZaK (cds a) (cds b)
   omega
  ·omega
 ·exact h
theorem TkW.lt{P P':List ZF}{ts:List ZY}(h:TkW P ts P')(nd:(ZaG P).Nodup)(srt:Zc2 P):ts.Pairwise LtT∧∀u∈ts,∀x∈P',∀ (k:Nat) (y:Str),x.2.2≤k→x.2.1[k]? = some y→LtT u (x.1,k,y):=by
 induction h with
 | nil=>exact⟨List.Pairwise.nil,fun u hu=>by cases hu⟩
 | snoc h s ih =>
  rename_i ts P1 x z
  obtain⟨i1,i2⟩:=ih
  have nd1:(ZaG P1).Nodup:=by rw[h.num];exact nd
  have srt1:=(h.srt nd srt).1
  obtain⟨hx,hz,W⟩:=s
  obtain⟨_,zc,hzc,hall⟩:=W
  rw[Zey nd1 hx,hz]at hzc
  have hzc':cds z=zc:=Qo hzc
  subst hzc'
  refine⟨Q7.mpr ⟨i1,QaO _ _,fun u hu v hv=>?_⟩,fun u hu w hw k y hk hy=>?_⟩
  ·rw[Ql.mp hv]
   exact i2 u hu x hx x.2.2 z (Qf _) hz
  ·obtain⟨w0,hw0,rfl⟩:=QJ.mp hw
   have e1:(Zav x.1 w0).1=w0.1:=by unfold Zav;split<;>rfl
   have e2:(Zav x.1 w0).2.1=w0.2.1:=by unfold Zav;split<;>rfl
   have e3:w0.2.2≤(Zav x.1 w0).2.2:=by unfold Zav;split<;>simp
   rw[e2]at hy
   rw[e1]
   rcases Qk.mp hu with hu|hu
   ·exact i2 u hu w0 hw0 k y (QP e3 hk) hy
   ·rw[Ql.mp hu]
    by_cases hn:w0.1=x.1
    ·have:=ZdC nd1 hw0 hx hn
     subst this
     have hk':w0.2.2+1≤k:=by
      have:(Zav w0.1 w0).2.2=w0.2.2+1:=by unfold Zav;rw[if_pos rfl]
      omega
     rcases Zd1 (ZjM (srt1 w0 hw0) (by omega) hz hy) with g|g
     ·exact .inl g
     ·exact .inr ⟨g,.inr ⟨rfl,hk'⟩⟩
    ·have hk':w0.2.2≤k:=QP e3 hk
     obtain⟨hkl,_⟩:=Qg.mp hy
     obtain⟨hd,hhd⟩:∃hd,w0.2.1[w0.2.2]? = some hd:=⟨_,Qa (by omega)⟩
     have hle:=ZjM (srt1 w0 hw0) hk' hhd hy
     have hd':=Zey nd1 hw0
     rw[hhd]at hd'
     rcases hall w0.1 (Qm (f:=fun x:ZF=>x.1) hw0) _ hd' with e|b
     ·exact absurd e hn
     ·rcases b with b|⟨b,bl⟩
      ·exact .inl (Zgc b hle)
      ·have ez:z=hd:=Znv (ZbW _ _ b)
       rw[ez]
       rcases Zd1 hle with g|g
       ·exact .inl g
       ·exact .inr ⟨g,.inl bl⟩
theorem Zij:∀ (ns:List Int) (rs:List (Addr×List Str)),(∀x∈rs,sortedS x.2=true)→Zc2 (ns.zip (rs.map fun x=>(x.2,0)))
 | [],_,_=>fun x hx=>by rw[List.zip_nil_left]at hx;cases hx
 | _::_,[],_=>fun x hx=>by cases hx
 | n::ns,y::rs,h=>fun x hx=>by
  rw[Qe,Qao]at hx
  rcases Qz.mp hx with rfl|hx
  ·exact h y (by simp)
  ·exact Zij ns rs (fun z hz=>h z (Qi _ hz)) x hx
theorem Zlj(rs:List (Addr×List Str))(h:∀x∈rs,x.2.length≤60):(rs.map fun x=>x.2.length).sum≤rs.length*60:=by
 induction rs with
 | nil=>exact Qf _
 | cons x r ih =>
  have:=ih fun y hy=>h y (Qi _ hy)
  have:=h x (by simp)
  rw[Qe,Qat,QH]
  omega
theorem ZdX(rd:Addr)(nb li lo:Int)(sd:Addr)(best:V):(mgF rd nb li lo sd best).lookup ("take_few" : Str)=none:=ZbH _ _ _ _ _ _ (by ac_rfl) (by ac_rfl) (by ac_rfl) (by ac_rfl) (by ac_rfl) (by ac_rfl)
def Zg9(H:Hp)(u:Addr×ZY):Prop:=H u.1=some (.tup [.int u.2.1,.int (u.2.2.1:Int),.str u.2.2.2])
theorem Znm{L:List Zu}(h:∀e∈L,e.g≤e.ss.length):(Zcn (L.map toL)).sum=((ZaB (Zam L):Nat):Int):=by
 induction L with
 | nil=>rfl
 | cons e r ih =>
  have i:=ih fun x hx=>h x (Qi _ hx)
  have g:=h e (by simp)
  unfold Zcn ZaB Zam at i ⊢
  rw[Qe,Qe,Qe,Qe,Qat,Qat,i,Qak]
  congr 1
  show (e.ss.length:Int)-(e.g:Int)=((e.ss.length-e.g:Nat):Int)
  omega
def kT(u:ZY):List Key:=[.inr u.2.2,.inl u.1,.inl (u.2.1:Int)]
def ZhL(x:ZF):List ZY:=((x.2.1.drop x.2.2).zipIdx x.2.2).map fun e=>(x.1,e.2,e.1)
def ZdE(P:List ZF):List ZY:=P.flatMap ZhL
theorem Zk2{x:ZF}{u:ZY}(h:u∈ZhL x):u.1=x.1∧x.2.2≤u.2.1∧x.2.1[u.2.1]? = some u.2.2:=by
 unfold ZhL at h
 obtain⟨e,he,rfl⟩:=QJ.mp h
 have h1:=List.mem_zipIdx_iff_le_and_getElem?_sub.mp he
 refine⟨rfl,h1.1,?_⟩
 have h2:=h1.2
 rw[List.getElem?_drop]at h2
 show x.2.1[e.2]? = some e.1
 rw[← h2]
 congr 1
 omega
theorem ZkX{P:List ZF}{u:ZY}(h:u∈ZdE P):∃x∈P,u.1=x.1∧x.2.2≤u.2.1∧x.2.1[u.2.1]? = some u.2.2:=by
 obtain⟨x,hx,hu⟩:=List.mem_flatMap.mp h
 exact⟨x,hx,Zk2 hu⟩
theorem Zfi:∀ (P:List ZF),(ZaG P).Nodup→∀ {x:ZF} {z:Str},x∈P→x.2.1[x.2.2]? = some z→((x.1,x.2.2,z)::ZdE (ZaQ P x.1)).Perm (ZdE P)
 | [],_,_,_,h,_=>by cases h
 | y::P,nd,x,z,h,hz=>by
  unfold ZaG at nd
  rw[Qe,Q3]at nd
  unfold ZdE ZaQ
  rw[Qe,QaZ,QaZ]
  rcases Qz.mp h with rfl|h
  ·have e:P.map (Zav x.1)=P:=by
    conv=>rhs;rw[← List.map_id P]
    refine QY fun u hu=>?_
    unfold Zav
    rw[if_neg (fun z:u.1=x.1=>nd.1 (z ▸ Qm (f:=fun x:ZF=>x.1) hu))]
    rfl
   have e2:ZhL x=(x.1,x.2.2,z)::ZhL (Zav x.1 x):=by
    unfold ZhL Zav
    rw[if_pos rfl,ZfZ hz]
    rfl
   rw[e,e2]
   exact QaU _
  ·have ih:=Zfi P nd.2 h hz
   unfold ZdE ZaQ at ih
   have e:Zav x.1 y=y:=if_neg (fun z:y.1=x.1=>nd.1 (z ▸ Qm (f:=fun x:ZF=>x.1) h))
   rw[e]
   exact List.perm_middle.symm.trans (ih.append_left _)
theorem Zkb(P:List ZF):(ZdE P).length=ZaB P:=by
 unfold ZdE ZaB
 rw[List.length_flatMap]
 congr 1
 refine QY fun x _=>?_
 unfold ZhL
 rw[Qb,List.length_zipIdx,Qp]
def Zdr(P:List ZF)(D:List ZY):Prop:=D.Perm (ZdE P)∧D.Pairwise fun a b=>ZaS (kT b) (kT a)=false
theorem ZlK{u v:ZY}(h:LtT u v):ZaS (kT u) (kT v)=true:=by
 unfold kT
 rcases h with h|⟨e,h⟩
 ·have hne:u.2.2≠v.2.2:=fun z=>by rw[z,Zd2]at h;omega
  rw[ZbL,if_neg (fun z=>hne (Sum.inr.inj z))]
  exact decide_eq_true ((ZdY _ _).mpr h)
 ·rw[ZbL,if_pos (by rw[e]),ZbL]
  rcases h with h|⟨e2,h⟩
  ·rw[if_neg (fun z=>by have:=Sum.inl.inj z;omega)]
   exact decide_eq_true h
  ·rw[if_pos (by rw[e2]),ZbL,if_neg (fun z=>by have:=Sum.inl.inj z;omega)]
   exact decide_eq_true (by omega)
theorem Zdr.len{P:List ZF}{D:List ZY}(O:Zdr P D):D.length=ZaB P:=by rw[O.1.length_eq,Zkb]
theorem Zdr.step{P:List ZF}{D:List ZY}(O:Zdr P D)(nd:(ZaG P).Nodup)(srt:Zc2 P){x:ZF}{z:Str}(s:Zim P x z):∃D',D=(x.1,x.2.2,z)::D'∧Zdr (ZaQ P x.1) D':=by
 have pb:=Zfi P nd s.1 s.2.1
 have hin:(x.1,x.2.2,z)∈D:=O.1.mem_iff.mpr (pb.mem_iff.mp (QA ..))
 have hlt:=((TkW.nil.snoc s).lt nd srt).2 (x.1,x.2.2,z) (by simp)
 cases D with
 | nil=>cases hin
 | cons d D' =>
  have hd:d=(x.1,x.2.2,z):=by
   rcases Qz.mp hin with e|hin
   ·exact e.symm
   ·have h1:=(Qap.mp O.2).1 _ hin
    have h2:d∈ZdE P:=O.1.mem_iff.mp (QA ..)
    rcases Qz.mp (pb.mem_iff.mpr h2) with e|h3
    ·exact e
    ·obtain⟨y,hy,e1,e2,e3⟩:=ZkX h3
     have h4:=ZlK (hlt y hy d.2.1 d.2.2 e2 e3)
     have e4:(y.1,d.2.1,d.2.2)=d:=by rw[← e1]
     rw[e4,h1]at h4
     cases h4
  subst hd
  exact⟨D',rfl,(List.perm_cons _).mp (O.1.trans pb.symm),(Qap.mp O.2).2⟩
theorem Zlm(rs:List (Addr×List Str))(x:Addr×List Str):Zd6 (rs++[x])=Zd6 rs++[((rs.length:Int),x.2,0)]:=by
 unfold Zd6
 rw[Qj,Qd,QK]
 have e:Zcm 0 (rs.length+1)=Zcm 0 rs.length++[(rs.length:Int)]:=by
  unfold Zcm
  rw[List.range_succ,Qj,List.map_singleton,Int.zero_add]
 rw[e,List.zip_append (by unfold Zcm;rw[Qb,Qb,List.length_range])]
 rfl
theorem Zi4(rs:List (Addr×List Str))(x:Addr×List Str):ZdE (Zd6 (rs++[x]))=ZdE (Zd6 rs)++(x.2.zipIdx.map fun e=>((rs.length:Int),e.2,e.1)):=by
 rw[Zlm]
 unfold ZdE
 rw[List.flatMap_append,List.flatMap_singleton]
 rfl
def Zjx(us:List (Addr×ZY)):ZdP:=us.map fun u=>(u.1,kT u.2)
theorem ZfN(us:List (Addr×ZY)):ZcC (Zjx us)=us.map fun u=>V.ref u.1:=by unfold ZcC Zjx;rw[QF];rfl
def KAt(H:Hp)(u:Addr×ZY):Prop:=H u.1=some (.tup [.str u.2.2.2,.int u.2.1,.int (u.2.2.1:Int)])
def ZnJ:Sp:=fun vs H Q _=>∃ (r:Addr) (rs:List (Addr×List Str)),vs=[.ref r]∧Zda H r rs ∧
 ∀ (l:Addr) (us:List (Addr×ZY)) (H':Hp),H l=none→H' l=some (.lst (us.map fun u=>V.ref u.1))→(∀u∈us,KAt H' u)→Zdr (Zd6 rs) (us.map (·.2))→ZD H H'→Q (.ref l) H'
theorem ZjD(T:Zay K mg cRow cMerge):Df P w K mg base 1 "_law_order" ["_law_rows_here"] ZnJ:=by
 refine T.t_l_order.df Zb9 (fun vs H Q E h=>?_) (fun cdv f A outer s H vs Q E hr h=>?_)
 ·obtain⟨r,rs,rfl,_⟩:=h
  rfl
 obtain⟨r,rs,rfl,hrs,q⟩:=h
 refine⟨_,#[Zg,#[Zz,1,Zb9.nd,(Or.inl rfl),#[ZaJ,#[Ze]]],#[Zg,#[Zb4,PassesOwn.never,#[iE,K,T.b.n_enumerate,#[Za,‹0›,#[Ze]]],#[gT,K,2,#[ZB,#[ZJ,2,Zb9.nd,(Or.inr rfl)],#[ZB,#[ZJ,3,Zb9.nd,(Or.inl rfl)],(@ZaZ _)]]],#[Zi,#[ZaO,#[Zdu,QO,PySem.F.slot_list_extend,PySem.F.type_list_extend,ZjB,‹1›,#[Za,#[ZcL,Zi7,#[iE,K,T.b.n_enumerate,#[Za,‹3›,#[Ze]]],(fun _ _ _ _=>#[gT,K,2,#[ZB,#[cg,4,Zi7],#[ZB,#[cg,5,Zi7],(@ZaZ _)]]]),(fun _ _ _ _=>(@Zb8 _)),(fun _ _ _ _=>#[ZaV,#[Za,#[cw,5,Zi7],#[Za,#[cv,2,Zi7],#[Za,#[cw,4,Zi7],#[Ze]]]]])],#[Ze]]]]]],#[Zi,#[Zr,#[Zm,(ZoD K),T.b.n_sorted,boot_sorted,#[Za,‹1›,#[Ze]]]]]]],?_⟩
 have hfew:=hrs.few
 refine⟨(by show 0≤sizeLine;decide),fun fo hfo=>?_⟩
 have s1:=Zj hfo (.lst [])
 refine⟨_,rfl,r,_,rfl,SqL.of (s1 _ _ hrs.at'),?_⟩
 refine Ze1 (K:=K) (a:=r) (xs:=rs.map fun x=>V.ref x.1) (fun i σ H2=>∃ (v2 v3:Option V) (us:List (Addr×ZY)),σ=[some (.ref r),some (.ref fo),v2,v3]∧H2 fo=some (.lst (us.map fun u=>V.ref u.1))∧(∀u∈us,u.1≠fo∧KAt H2 u)∧us.map (·.2)=ZdE (Zd6 (rs.take i))∧us.length≤100*i∧ZD H H2) ⟨_,_,[],rfl,Zd,(fun u h=>by cases h),rfl,by decide,s1⟩ (fun i σ H2 hq=>by obtain⟨_,_,_,_,_,_,_,_,s2⟩:=hq;exact SqL.of (s2 _ _ hrs.at')) ?_ ?_
 ·rintro i y σ H2 p hy ⟨v2,v3,us,rfl,hf2,hus,hal,hln,s2⟩ hp
  rw[Qu]at hy
  cases hz:rs[i]? with
  | none=>rw[hz]at hy;cases hy
  | some x =>
  rw[hz]at hy
  cases hy
  have hil:i<rs.length:=(Qg.mp hz).1
  obtain⟨lx,l100,laz⟩:=hrs.lst x (QM hz)
  have sp:=Zj hp (.tup [.int (i:Int),.ref x.1])
  have hp3:(upd H2 p (.tup [.int (i:Int),.ref x.1])) p=some (.tup [.int (i:Int),.ref x.1]):=Zd
  have hf3:=sp _ _ hf2
  have hus3:∀u∈us,u.1≠fo∧KAt (upd H2 p (.tup [.int (i:Int),.ref x.1])) u:=fun u hu=>⟨(hus u hu).1,sp _ _ (hus u hu).2⟩
  have s3:=s2.trans sp
  generalize upd H2 p (.tup [.int (i:Int),.ref x.1])=H3 at hp3 hf3 hus3 s3 ⊢
  have lx3:=s3 _ _ lx
  refine⟨p,_,rfl,SqT.of hp3,rfl,_,_,rfl,_,_,rfl,rfl,?_⟩
  refine⟨_,rfl,.inl ⟨rfl,_,SqL.of hf3⟩,_,rfl,x.1,x.2.map V.str,rfl,SqL.of lx3,fun D hD=>?_⟩
  refine Zhv (K:=K) (a:=x.1) (xs:=x.2.map V.str) (fun k zs σ H4=>(∃v1 v2:Option V,σ=[some (.ref r),some (.ref fo),some (.int (i:Int)),some (.ref x.1),v1,v2])∧(∃ws:List (Addr×ZY),zs=(ws.map fun u=>V.ref u.1)∧ws.length=k∧ws.map (·.2)=((x.2.zipIdx).take k).map (fun e=>((i:Int),e.2,e.1))∧∀u∈ws,u.1≠D∧H3 u.1=none∧KAt H4 u)∧k≤x.2.length∧H4 D=some (.lst zs)∧ZD H3 H4) ?_ (fun _ _ _ _ h=>SqL.of (h.2.2.2.2 _ _ lx3)) ?_ ?_
  ·exact⟨⟨none,none,rfl⟩,⟨[],rfl,rfl,rfl,fun u h=>by cases h⟩,Qv _,Zd,Zj hD _⟩
  ·rintro k zs σ H4 y p4 hy ⟨⟨v1,v2',rfl⟩,⟨ws,rfl,hwl,hw,hws⟩,hk,hD4,s4⟩ hp4
   rw[Qu]at hy
   cases hz2:x.2[k]? with
   | none=>rw[hz2]at hy;cases hy
   | some z =>
   rw[hz2]at hy
   cases hy
   have hkl:k<x.2.length:=(Qg.mp hz2).1
   have sp4:=Zj hp4 (.tup [.int (k:Int),.str z])
   have hp5:(upd H4 p4 (.tup [.int (k:Int),.str z])) p4=some (.tup [.int (k:Int),.str z]):=Zd
   have hD5:=sp4 _ _ hD4
   have s5:=s4.trans sp4
   have hws5:∀u∈ws,u.1≠D∧H3 u.1=none∧KAt (upd H4 p4 (.tup [.int (k:Int),.str z])) u:=fun u hu=>⟨(hws u hu).1,(hws u hu).2.1,sp4 _ _ (hws u hu).2.2⟩
   generalize upd H4 p4 (.tup [.int (k:Int),.str z])=H5 at hp5 hD5 s5 hws5 ⊢
   refine⟨p4,_,rfl,SqT.of hp5,rfl,_,_,rfl,_,_,rfl,rfl,?_⟩
   refine⟨_,rfl,_,rfl,_,rfl,(by show 3≤sizeLine;decide),fun n hn=>?_⟩
   have sn:=Zj hn (.tup [.str z,.int (i:Int),.int (k:Int)])
   have nDn:D≠n:=Zb hD5 hn
   refine⟨sn _ _ hD5,(by rw[Qb,hwl,sizeLine_eq];omega),⟨_,_,rfl⟩,⟨ws++[(n,((i:Int),k,z))],by rw[Qj];rfl,by rw[Qd,hwl];rfl,?_,fun u hu=>?_⟩,hkl,Zd,fun b o hb=>?_⟩
   ·rw[Qj,hw,Qaa,List.getElem?_zipIdx,hz2,Qj]
    simp
   ·rcases Qk.mp hu with hu|hu
    ·obtain⟨g1,g2,g3⟩:=hws5 u hu
     exact⟨g1,g2,by show upd _ D _ u.1=_;rw[Zc g1];exact sn _ _ g3⟩
    ·rw[Ql.mp hu]
     exact⟨nDn.symm,s5.free hn,by show upd _ D _ n=_;rw[Zc nDn.symm];exact Zd⟩
   ·rw[Zc (Zb hb hD)];exact sn _ _ (s5 b o hb)
  rintro zs σ H4 ⟨⟨v1,v2',rfl⟩,⟨ws,rfl,hwl,hw,hws⟩,_,hD4,s4⟩
  rw[Qb]at hwl hw
  rw[Qx (by rw[List.length_zipIdx];exact Qf _)]at hw
  have hf4:=s4 _ _ hf3
  have nDf:fo≠D:=Zb hf3 hD
  refine⟨fo,D,_,_,rfl,rfl,hf4,hD4,(by rw[Qb,Qb,hwl,sizeLine_eq];omega),?_⟩
  refine⟨_,_,us++ws,rfl,by rw[Zd,Qj],fun u hu=>?_,?_,by rw[Qd,hwl];omega,fun b o hb=>?_⟩
  ·rcases Qk.mp hu with hu|hu
   ·obtain⟨g1,g2⟩:=hus3 u hu
    exact⟨g1,by show upd _ fo _ u.1=_;rw[Zc g1];exact s4 _ _ g2⟩
   ·obtain⟨g1,g2,g3⟩:=hws u hu
    have nf:u.1≠fo:=fun z=>by rw[z,hf3]at g2;cases g2
    exact⟨nf,by show upd _ fo _ u.1=_;rw[Zc nf];exact g3⟩
  ·rw[Qj,hal,hw,Qaa,hz]
   show _=ZdE (Zd6 (rs.take i++[x]))
   rw[Zi4,Qr,Q6 (by omega)]
  ·rw[Zc (Zb hb hfo)];exact s4 _ _ (s3 b o hb)
 ·rintro σ H2 ⟨v2,v3,us,rfl,hf2,hus,hal,hln,s2⟩
  rw[Qb,Qx (Qf _)]at hal
  refine⟨_,rfl,fo,Zjx us,[false,true,true],rfl,SqL.of (by rw[ZfN];exact hf2),fun t ht=>?_,(by decide),fun t ht=>?_,fun l ts' hl hp hs=>?_⟩
  ·obtain⟨u,hu,rfl⟩:=QJ.mp ht
   exact(hus u hu).2
  ·obtain⟨u,hu,rfl⟩:=QJ.mp ht
   rfl
  ·obtain⟨us',hp',e⟩:=Zg3 (fun u:Addr×ZY=>(u.1,kT u.2)) hp us rfl
   have e2:ts'=Zjx us':=e
   subst e2
   have sl:=Zj hl (.lst (ZcC (Zjx us')))
   refine q l us' _ (s2.free hl) (by rw[Zd,ZfN]) (fun u hu=>sl _ _ (hus u (hp'.mem_iff.mp hu)).2) ⟨?_,?_⟩ (s2.trans sl)
   ·rw[← hal];exact hp'.map _
   ·have:=hs
    unfold Zjx at this
    rw[List.pairwise_map]at this ⊢
    exact this
theorem Zdr.takes{P P':List ZF}{ts:List ZY}(h:TkW P ts P')(nd:(ZaG P).Nodup)(srt:Zc2 P):∀ {D:List ZY},Zdr P D→∃D',D=ts++D'∧Zdr P' D'∧Zc2 P':=by
 induction h with
 | nil=>exact fun O=>⟨_,rfl,O,srt⟩
 | snoc h s ih =>
  intro D O
  obtain⟨D1,e1,O1,srt1⟩:=ih O
  obtain⟨D2,e2,O2⟩:=O1.step (by rw[h.num];exact nd) srt1 s
  exact⟨D2,by rw[e1,e2,QT];rfl,O2,srt1.bump _⟩
theorem ZlD(xs:List V)(n m:Nat):ZcV xs (some (n:Int)) (some ((n:Int)+(m:Int)))=(xs.drop n).take m:=by
 unfold ZcV
 rw[← Qak,HT.sIx_nat,HT.sIx_nat]
 by_cases h:n≤xs.length
 ·rw[Q6 h]
  by_cases h2:n+m≤xs.length
  ·rw[Q6 h2,QaN]
  ·rw[Qa4 (by omega),Qx (by rw[Qp];omega),Qx (by rw[Qp];omega)]
 ·rw[Qa4 (by omega),Qa4 (by omega),QV (by omega:xs.length≤n),QV (Qf _),List.take_nil,List.take_nil]
theorem ZiM(xs:List V)(n:Nat):ZcV xs (some (n:Int)) none=xs.drop n:=by
 unfold ZcV
 rw[HT.sIx_nat,HT.sIx_none]
 by_cases h:n≤xs.length
 ·rw[Q6 h,Qx (by rw[Qp];omega)]
 ·rw[Qa4 (by omega),QV (by omega:xs.length≤n),QV (Qf _),List.take_nil]
theorem MOk.draw{cR cM:Addr}{H H':Hp}{X:MS}{p:Addr}{c:Int}(h:MOk cR cM H X)(l:Zar H p c)(np:¬ MFp X p)(B:But p H H'):MOk cR cM H' X:=by
 obtain⟨a,b,hp,_⟩:=l
 refine⟨h.M.keep fun b o hb hor=>B b o hb fun z=>?_,h.W,h.ok⟩
 rcases hor with f|⟨xs,rfl⟩
 ·exact np (z ▸ f)
 ·rw[z,hp]at hb;cases hb
theorem Zgs{L L':List Zu}{ts:List ZY}{k q:Int}{w':Option Int}{many:Nat}{D:List ZY}{n:Nat}(nd:(ZaG (Zam L)).Nodup)(srt:Zc2 (Zam L))(O:Zdr (Zam L) (D.drop n))(h:ZbY (Zam L) ts (Zam L') k q)(h1:(ts.length:Int)<(many:Int)→w'=none)(h2:ts≠[]→(ts.length:Int)≤(many:Int))(W:Win (hdM L') (Zv L') w')(ok:∀x∈Zam L',x.2.2≤x.2.1.length):ts=(D.drop n).take many∧Zdr (Zam L') (D.drop (n+many))∧Zc2 (Zam L'):=by
 have hl:=ZkN nd h h1 h2 W ok
 obtain⟨D',e,O',srt'⟩:=Zdr.takes h.tk nd srt O
 have hlen:=O.len
 have e1:ts=(D.drop n).take many:=by
  rw[e]
  by_cases hm:many≤ZaB (Zam L)
  ·rw[Q6 hm]at hl
   rw[← hl,List.take_left]
  ·have:D'=[]:=QI (by rw[e,Qd]at hlen;omega)
   rw[this,Qas,Qx (by omega)]
 have e2:D'=D.drop (n+many):=by
  rw[← List.drop_drop,e]
  by_cases hm:many≤ZaB (Zam L)
  ·rw[Q6 hm]at hl
   rw[← hl,List.drop_left]
  ·have:D'=[]:=QI (by rw[e,Qd]at hlen;omega)
   rw[this,Qas,QV (by omega)]
 exact⟨e1,by rw[← e2];exact O',srt'⟩
def ZiG(K:PySem.W.Frag):Sp:=fun vs H Q _=>∃ (a:Addr) (ns:List Int),vs=[.ref a]∧SqL K H a (ns.map V.int)∧ns.length≤63∧∀H',Q (.bl true) H'
theorem ZmZ{f:Addr}{fd:FuncData}(F:Fun K "law" "law" ZbC f fd)(T:Zay K mg cRow cMerge):ZcU P w K mg base CX0 18 f fd ["_law_script"] (ZiG K):=by
 have f_l_mix:Df P w K mg base 1 "_law_mix" ["_law_cell", "_law_k"] ZkV:=Zm9 T
 have f_l_left:Df P w K mg base 1 "_law_left" ["_law_script", "_law_k"] (ZkA K):=Zlx T
 have f_l_pick:Df P w K mg base 2 "_law_pick" ["_law_left_here", "_law_many_here"] Zc5:=ZlX T f_l_mix
 have f_l_stems:Df P w K mg base 3 "_law_stems" ["_law_left_here"] Zgk:=Zkd T f_l_pick
 have f_l_key:Df P w K mg base 3 "_law_key" ["_law_left_here", "_law_stems_here"] ZkO:=Zm3 T f_l_pick
 have f_l_keys:Df P w K mg base 4 "_law_keys" ["_law_left_here", "_law_stems_here", "_law_most"] Zhy:=Zl5 T f_l_pick f_l_key
 have f_l_many:Df P w K mg base 3 "_law_many" ["_law_left_here"] ZhD:=Zmo T f_l_pick
 have f_l_row:Df P w K mg base 5 "_law_row" ["_law_left_here", "_law_stems_here", "_law_most"] Zh5:=ZlL T f_l_keys
 have f_l_rows:Df P w K mg base 6 "_law_rows" ["_law_left_here"] Zh9:=Zko T f_l_pick f_l_stems f_l_many f_l_row
 have f_l_same:Df P w K mg base 5 "_law_same" ["_law_found", "_law_due"] (ZjS 4):=Zit T 4
 have f_alike_from:Df P w K mg base 1 "alike_from" ["one", "other", "far"] Zby:=Zfe T
 have f_alike:Df P w K mg base 2 "alike" ["one", "other"] Zer:=Zkf T f_alike_from
 have f_order_at:Df P w K mg base 1 "order_at" ["one", "other", "at"] Zem:=ZjY T
 have f_liken:Df P w K mg base 3 "liken" ["one", "other"] Zf6:=Zky T f_alike f_order_at
 have f_liken_from:Df P w K mg base 2 "liken_from" ["one", "other", "far"] Zcx:=Zfb T f_alike_from f_order_at
 have f_first_break:Df P w K mg base 4 "first_break" ["keys"] (Zj2 K):=ZkG T f_liken
 have f_refuse_break:Df P w K mg base 5 "refuse_break" ["number", "keys"] (Ze2 K):=Zjh T f_first_break
 have f_alikes:Df P w K mg base 3 "alikes" ["row"] (ZeB K):=Zi0 T f_alike
 have f_halves:Df P w K mg base 1 "halves" ["numbers"] (ZdH K true):=Zjo T
 have f_Row_to_go:=ZlG T (P:=P) (w:=w) (base:=base)
 have f_Row_head:=Zmg T f_Row_to_go
 have f_Row_init:=ZhE T f_alikes
 have f_Merge_meet:=ZlW T f_Row_head f_liken_from
 have f_Merge_play:=ZiA T f_Row_head f_halves f_Merge_meet 8
 have f_Merge_play_all:=Zhg T f_Merge_play
 have f_Merge_init:=Ze4 T f_refuse_break f_Row_init f_Merge_play_all
 have f_Merge_coming:=ZiV T f_Row_head
 have f_Merge_left:=ZjW T f_Row_to_go
 have f_way_up:Df P w K mg base 2 "way_up" ["numbers", "n"] Zk7:=ZmQ T f_halves
 have f_matches_up:=ZhS T f_way_up
 have f_Merge_play_again:=ZkP T f_Merge_meet
 have f_Merge_send_out:=Zl1 T f_Row_head f_matches_up f_Merge_play_again
 have f_Merge_take:=ZlN T f_Merge_coming f_Merge_send_out
 have f_Merge_take_few:=Zns T f_Merge_take
 have f_l_order:=ZjD T (P:=P) (w:=w) (base:=base)
 refine F.ok Zbt (fun vs H Q E h=>?_) (fun cdv A outer s H vs Q E hr h=>?_)
 ·obtain⟨a,ns,rfl,_⟩:=h
  rfl
 obtain⟨a,sc,rfl,hS,h63,q⟩:=h
 refine⟨_,#[Zg,#[Zb4,PassesOwn.never,#[Zbm,T.b.n_range,#[Za,#[ZW,ZaP,#[Zh],#[Zm,(Zc7 K),T.b.n_len,QD,#[Za,#[ZbV,(slL K),‹0›,(@Zdn _),(@Zb5 _ _ _ #[Zh])],#[Ze]]]],#[Ze]]],#[ZJ,1,Zbt.nd,(Or.inl rfl)],#[Zg,#[Zz,2,Zbt.nd,(Or.inl rfl),#[ZM,f_l_left,hr,#[Za,‹0›,#[Za,‹1›,#[Ze]]],(by rfl)]],#[Zg,#[Zz,3,Zbt.nd,(Or.inl rfl),#[ZM,f_l_rows,hr,#[Za,‹2›,#[Ze]],(by rfl)]],#[Zg,(@ZhR _ _ _ _ _ 4 _ _ _ _ _ _ _ _ _ _ _ _ Zbt.nd rfl (Or.inl rfl) Zh3 rfl rfl rfl (@iL _ K _ _ _ #[ZM,f_l_order,hr,#[Za,‹3›,#[Ze]],(by rfl)] (by rfl)) (fun _ _ _ _=>#[gT,K,3,#[ZB,#[cg,10,Zh3],#[ZB,#[cg,11,Zh3],#[ZB,#[cg,12,Zh3],(@ZaZ _)]]]]) (fun _ _ _ _=>(@Zb8 _)) (fun _ _ _ _=>#[ZaV,#[Za,#[cw,11,Zh3],#[Za,#[cw,12,Zh3],#[Za,#[cw,10,Zh3],#[Ze]]]]]) (by rfl) (by intro _;rfl) (by trivial)),#[Zg,#[Zz,5,Zbt.nd,(Or.inl rfl),#[ZmL,f_Merge_init,hr,#[Za,‹3›,#[Ze]]]],#[Zg,#[Zz,6,Zbt.nd,(Or.inl rfl),#[Zh]],#[Zg,#[Zb4,PassesOwn.never,#[Zbm,T.b.n_range,#[Za,#[Zh],#[Ze]]],#[ZJ,7,Zbt.nd,(Or.inl rfl)],#[Zg,#[Zz,8,Zbt.nd,(Or.inl rfl),#[ZG,(ixL K),#[ZaJ,#[Za,#[Zh],#[Za,#[Zh],#[Za,#[Zh],#[Za,#[ZM,f_l_pick,hr,#[Za,‹2›,#[Za,#[Zh],#[Ze]]],(by rfl)],#[Za,#[ZW,Zkz,#[Zh],#[Zh]],#[Ze]]]]]]],#[ZG,(ixL K),#[ZaJ,#[Za,#[Zh],#[Za,#[Zh],#[Za,#[Zh],#[Za,#[Zh],#[Za,#[Zh],#[Za,#[Zh],#[Za,#[Zh],#[Za,#[Zh],#[Za,#[Zh],#[Za,#[Zh],#[Ze]]]]]]]]]]]],#[ZM,f_l_pick,hr,#[Za,‹2›,#[Za,#[Zh],#[Ze]]],(by rfl)]]]],#[Zg,#[Zz,9,Zbt.nd,(Or.inl rfl),#[ZcZ,f_Merge_take_few,T.cl_Merge,hr,‹5›,#[Za,‹8›,#[Ze]]]],#[Zg,#[Zaz,(@PW.pt _ _ _ (@Zh8 _ _ _ _ _ _ _ (@ZhV _ _ _ _ #[Zd8,#[ZM,f_l_same,hr,#[Za,‹9›,#[Za,#[ZbV,(slL K),‹4›,(@Zb5 _ _ _ ‹6›),(@Zb5 _ _ _ #[ZW,ZaP,‹6›,‹8›])],#[Ze]]],(by rfl)]]) (@Zgh _ _ _ _ (@ZhV _ _ _ _ #[Zd8,#[ZM,f_l_same,hr,#[Za,#[Zbo,f_Merge_left,T.cl_Merge,hr,‹5›],#[Za,#[Zm,(Zc7 K),T.b.n_len,QD,#[Za,#[ZbV,(slL K),‹4›,(@Zb5 _ _ _ #[ZW,ZaP,‹6›,‹8›]),(@Zdn _)],#[Ze]]],#[Ze]]],(by rfl)]])))),#[Zi,#[Zr,(@Zil _ _ _ _)]],(@ZU _)],#[Zg,#[Zz,6,Zbt.nd,(Or.inl rfl),#[ZW,ZaP,‹6›,‹8›]],#[Zi,#[ZaO,#[Zdu,QO,QW,QX,ZaR,‹9›,#[Za,#[Zad],#[Ze]]]]]]]]]],#[Zi,#[Zaz,(@ZhV _ _ _ _ #[Zd8,#[ZM,f_l_same,hr,#[Za,#[ZaJ,#[Za,#[ZcZ,f_Merge_take_few,T.cl_Merge,hr,‹5›,#[Za,#[ZW,ZaP,#[Zm,(Zc7 K),T.b.n_len,QD,#[Za,‹4›,#[Ze]]],#[Zh]],#[Ze]]],#[Za,#[ZcZ,f_Merge_take_few,T.cl_Merge,hr,‹5›,#[Za,#[Zh],#[Ze]]],#[Ze]]]],#[Za,#[ZaJ,#[Za,#[ZbV,(slL K),‹4›,(@Zb5 _ _ _ ‹6›),(@Zdn _)],#[Za,#[ZaJ,#[Ze]],#[Ze]]]],#[Ze]]],(by rfl)]]),#[Zi,#[Zr,(@Zil _ _ _ _)]],(@ZU _)]]]]]]]]],#[Zi,#[Zr,(@Zil _ _ _ _)]]],?_⟩
 clear f_l_mix f_l_left f_l_pick f_l_stems f_l_key f_l_keys f_l_many f_l_row f_l_rows f_l_same f_alike_from f_alike f_order_at f_liken f_liken_from f_first_break f_refuse_break f_alikes f_halves f_Row_to_go f_Row_head f_Row_init f_Merge_meet f_Merge_play f_Merge_play_all f_Merge_init f_Merge_coming f_Merge_left f_way_up f_matches_up f_Merge_play_again f_Merge_send_out f_Merge_take f_Merge_take_few f_l_order
 have hcl:=Zed (sc.map V.int) none (some 6)
 have hlen:(sc.map V.int).length=sc.length:=by rw[Qb]
 refine⟨_,rfl,_,rfl,a,_,rfl,hS,fun e he=>⟨e,_,rfl,.inl (SqL.of Zd),_,_,rfl,rfl,_,rfl,by omega,by omega,?_⟩⟩
 have s1:ZD H (upd H e (.lst (ZcV (sc.map V.int) none (some 6)))):=Zj he _
 refine ZcK (fun i σ H2=>∃v1 v2 v3 v4 v5 v6 v7 v8 v9:Option V,σ=[some (.ref a),v1,v2,v3,v4,v5,v6,v7,v8,v9]∧ZD H H2) (xw9 _ _ _ _ _ _ _ _ _ ⟨rfl,s1⟩) ?_ ?_
 ·rintro ii σ H2 hi ⟨v1,v2,v3,v4,v5,v6,v7,v8,v9,rfl,s2⟩
  have hi8:(ii:Int)<65:=by omega
  refine⟨_,rfl,_,rfl,a,sc,_,rfl,s2.seq hS,h63,by omega,by omega,fun p H3 hp L3 s3=>?_⟩
  have nHp:H p=none:=s2.free hp
  refine⟨_,rfl,p,0,rfl,L3,by decide,fun r rs c4 H4 hr0 hrs hxs h12 L4 a1 a2 B4=>?_⟩
  have s4:ZD H H4:=fun b o hb=>B4 b o (s3 b o (s2 b o hb)) (Zb hb nHp)
  have hsrt:∀x∈rs,sortedS x.2=true:=fun x hx=>(hxs x hx).2.2.2.1
  have hsum:=Zlj rs fun x hx=>(hxs x hx).2.2.2.2
  refine⟨_,rfl,r,rs,rfl,hrs,fun l us H5 hl0 hl5 hus hO s5=>⟨l,rfl,⟨_,SqL.of hl5⟩,fun D hD=>?_⟩⟩
  have hul:us.length=ZaB (Zd6 rs):=by have:=hO.len;rw[Qb]at this;exact this
  rw[ZkT]at hul
  refine ZjH (K:=K) (a:=l) (xs:=us.map fun u=>V.ref u.1) (fun i zs σ H6=>(∃w1 w2 w3:Option V,σ=[some (.ref a),some (.int (0+(ii:Int))),some (.ref p),some (.ref r),v4,v5,v6,v7,v8,v9,w1,w2,w3])∧(∃ws:List (Addr×ZY),zs=(ws.map fun u=>V.ref u.1)∧ws.length=i∧ws.map (·.2)=(us.take i).map (·.2)∧∀u∈ws,u.1≠D∧Zg9 H6 u)∧i≤us.length∧H6 D=some (.lst zs)∧ZD H5 H6) ?_ (fun _ _ _ _ h=>SqL.of (h.2.2.2.2 _ _ hl5)) ?_ ?_
  ·exact⟨⟨none,none,none,rfl⟩,⟨[],rfl,rfl,rfl,fun u h=>by cases h⟩,Qv _,Zd,Zj hD _⟩
  ·rintro i y zs σ H6 hy ⟨⟨w1,w2,w3,rfl⟩,⟨ws,rfl,hwl,hw,hws⟩,hi',hD6,s6⟩
   rw[Qu]at hy
   cases hz:us[i]? with
   | none=>rw[hz]at hy;cases hy
   | some u =>
   rw[hz]at hy
   cases hy
   have hil:i<us.length:=(Qg.mp hz).1
   refine⟨u.1,_,rfl,SqT.of (s6 _ _ (hus u (QM hz))),rfl,_,_,rfl,_,_,rfl,_,_,rfl,rfl,?_⟩
   refine⟨_,rfl,_,rfl,_,rfl,(by show 3≤sizeLine;decide),fun n hn0=>?_⟩
   have sn:=Zj hn0 (.tup [.int u.2.1,.int (u.2.2.1:Int),.str u.2.2.2])
   have nDn:D≠n:=Zb hD6 hn0
   refine⟨sn _ _ hD6,(by rw[Qb,hwl,sizeLine_eq];omega),⟨_,_,_,rfl⟩,⟨ws++[(n,u.2)],by rw[Qj];rfl,by rw[Qd,hwl];rfl,?_,fun x hx=>?_⟩,hil,Zd,fun b o hb=>?_⟩
   ·rw[Qaa,hz,Qj,Qj,hw];rfl
   ·rcases Qk.mp hx with hx|hx
    ·obtain⟨g1,g3⟩:=hws x hx
     exact⟨g1,by show upd _ D _ x.1=_;rw[Zc g1];exact sn _ _ g3⟩
    ·rw[Ql.mp hx]
     exact⟨nDn.symm,by show upd _ D _ n=_;rw[Zc nDn.symm];exact Zd⟩
   ·rw[Zc (Zb hb hD)];exact sn _ _ (s6 b o hb)
  rintro zs σ H6 ⟨⟨w1,w2,w3,rfl⟩,⟨ws,rfl,hwl,hw,hws⟩,_,hD6,s6⟩
  rw[Qb]at hwl hw
  rw[Qx (Qf _)]at hw
  rw[← hw]at hO
  have s46:=s5.trans s6
  have hrs6:=hrs.same s46
  have s06:=s4.trans s46
  have L6:=L4.same s46
  have npp:H4 p=none→False:=fun z=>by obtain⟨o,ho⟩:=L4.here;rw[ho]at z;cases z
  have nDp:D≠p:=fun z=>by obtain⟨o,ho⟩:=(L4.same s5).here;rw[z,ho]at hD;cases hD
  have hwp:∀u∈ws,u.1≠p:=fun u hu z=>by have:=(hws u hu).2;unfold Zg9 at this;obtain⟨a1,a2,hp,_⟩:=L6;rw[z,hp]at this;cases this
  clear hus hl5 hl0 hD s5 s6 L4 B4 hr0 s4 hp L3 s2 s3 hrs
  refine⟨_,rfl,fun m dx hm hdx nmd=>?_⟩
  have s7:ZD H6 (upd (upd H6 dx (.own m)) m (.ins cMerge dx [])):=fun b o hb=>by rw[Zc (Zb hb hm),Zc (Zb hb hdx)];exact hb
  have hm7:(upd (upd H6 dx (.own m)) m (.ins cMerge dx [])) m=some (.ins cMerge dx []):=Zd
  generalize upd (upd H6 dx (.own m)) m (.ins cMerge dx [])=H7 at s7 hm7 ⊢
  refine(xw4 m dx r rs ⟨rfl,hm7,hrs6.same s7,hsrt,fun rd sd L st w0 k0 q0 H8 M8 hnew W8 S8 P8 fp8 k8=>⟨rfl,?_⟩⟩)
  have s68:ZD H6 H8:=fun b o hb=>k8 b o (s7 b o hb) (Zb hb hm)
  have fpn:∀b,MFp ⟨m,rd,sd,L,st,(rs.length:Int),k0,q0,w0⟩ b→H6 b=none:=fun b hb=>by
   rcases fp8 b hb with z|z
   ·rw[z];exact hm
   ·exact s7.free z
  have ok8:=ZeC 8 (hdM L) st (Zv L) M8.up (QP (show (Zv L).length≤60 by unfold Zv;rw[Qb];exact M8.few) (by decide)) (by decide) S8
  have eP:=Zlb hnew
  clear fp8 k8 hnew S8 P8 hm7 s7 hm hdx nmd
  have nfp:¬ MFp ⟨m,rd,sd,L,st,(rs.length:Int),k0,q0,w0⟩ p:=fun z=>by obtain⟨o,ho⟩:=L6.here;rw[fpn p z]at ho;cases ho
  refine⟨_,rfl,by decide,by decide,?_⟩
  refine ZcK (fun i σ H9=>∃ (X:MS) (n:Nat) (c9:Int) (v7 v8 v9:Option V),σ=[some (.ref a),some (.int (0+(ii:Int))),some (.ref p),some (.ref r),some (.ref D),some (.ref X.m),some (.int (n:Int)),v7,v8,v9]∧MOk cRow cMerge H9 X∧Zdr (Zam X.L) ((ws.map (·.2)).drop n)∧Zc2 (Zam X.L)∧(∀b,MFp X b→H6 b=none)∧(n:Int)≤1000000*(i:Int)∧Zar H9 p c9∧c9≤c4+2*(i:Int)∧But p H6 H9) ⟨⟨m,rd,sd,L,st,(rs.length:Int),k0,q0,w0⟩,0,xw4 c4 _ _ _ ⟨rfl,⟨M8,W8,ok8⟩,by show Zdr (Zam L) _;rw[eP,List.drop_zero];exact hO,by show Zc2 (Zam L);rw[eP];exact Zij _ rs hsrt,fpn,by omega,L6.same s68,by omega,But.same s68⟩⟩ ?_ ?_
  ·rintro i σ H9 hi9 ⟨X,n,c9,v7,v8,v9,rfl,mg,hO9,srt9,hf,hn9,L9,hc9,B9⟩
   have hi12:(i:Int)<12:=by omega
   have npX:¬ MFp X p:=fun z=>by obtain⟨o,ho⟩:=L6.here;rw[hf p z]at ho;cases ho
   refine⟨_,rfl,p,c9,8,rfl,L9,by omega,by decide,by decide,fun r1 H10 r10 r11 L10 B10=>?_⟩
   have mg10:=mg.draw L9 npX B10
   refine⟨_,_,rfl,rfl,⟨by decide,by decide,by decide⟩,(by show 5≤sizeLine;decide),fun e1 he1=>?_⟩
   have se1:=Zj he1 (.lst [.int 0,.int 1,.int 2,.int r1,(fun i j:Int=>V.int (i ^ j.toNat)) 10 6])
   have he1':(upd H10 e1 (.lst [.int 0,.int 1,.int 2,.int r1,(fun i j:Int=>V.int (i ^ j.toNat)) 10 6])) e1=some (.lst ([0,1,2,r1,1000000].map V.int)):=Zd
   have mg11:=mg10.same se1
   have L11:=L10.same se1
   have B11:=(B9.trans B10).trans (But.same se1)
   generalize upd H10 e1 (.lst [.int 0,.int 1,.int 2,.int r1,(fun i j:Int=>V.int (i ^ j.toNat)) 10 6])=H11 at he1' mg11 L11 B11 ⊢
   have ne1:e1≠p:=fun z=>by obtain⟨o,ho⟩:=L10.here;rw[z,ho]at he1;cases he1
   refine⟨(by show 10≤sizeLine;decide),fun e2 he2=>?_⟩
   have se2:=Zj he2 (.lst ([0,1,2,3,3,3,3,3,3,4].map V.int))
   have ne2:e2≠p:=fun z=>by obtain⟨o,ho⟩:=L11.here;rw[z,ho]at he2;cases he2
   refine⟨_,rfl,p,c9+1,10,rfl,L11.same se2,by omega,by decide,by decide,fun r2 H12 r20 r21 L12 B12=>?_⟩
   have he2':H12 e2=some (.lst ([0,1,2,3,3,3,3,3,3,4].map V.int)):=B12 _ _ Zd ne2
   have he1'':H12 e1=some (.lst ([0,1,2,r1,1000000].map V.int)):=B12 _ _ (se2 _ _ he1') ne1
   have mg12:=(mg11.same se2).draw (L11.same se2) npX B12
   have B012:=(B11.trans (But.same se2)).trans B12
   obtain⟨w,hw',hatw⟩:=Zes (ns:=[0,1,2,3,3,3,3,3,3,4]) r20 r21
   have hw4:0≤w∧w<5:=by simp only[List.mem_cons,List.not_mem_nil,or_false]at hw';omega
   obtain⟨mi,hmi',hatm⟩:=Zes (ns:=[0,1,2,r1,1000000]) hw4.1 hw4.2
   have hmi:0≤mi∧mi≤1000000:=by simp only[List.mem_cons,List.not_mem_nil,or_false]at hmi';omega
   refine⟨e2,_,_,_,rfl,rfl,SqL.of he2',hatw,e1,_,_,_,rfl,rfl,SqL.of he1'',hatm,?_⟩
   obtain⟨mm,rfl⟩:∃mm:Nat,mi=(mm:Int):=⟨mi.toNat,by omega⟩
   obtain⟨dx12,hm12⟩:=mg12.M.ob
   have hlen9:=hO9.len
   rw[Qp,Qb]at hlen9
   refine⟨_,rfl,X.m,dx12,_,rfl,hm12,ZdX ..,_,rfl,Zoi X.m X.rd X.sd X.L X.s X.nb X.li X.lo X.w _ ⟨rfl,mg12.M,mg12.W,mg12.ok,by omega,fun rr us L13 s13 w13 k13 q13 H13 hrr hrr13 hus htk hfin hmany M13 W13 ok13 fp13 kp13=>?_⟩⟩
   have nd:(ZaG (Zam X.L)).Nodup:=by rw[← Zba];exact mg.M.nd
   obtain⟨eT,hO13,srt13⟩:=Zgs (ts:=us.map (·.2)) nd srt9 hO9 htk (by rw[Qb];exact hfin) (by rw[Qb];exact fun z=>hmany fun y=>z (by rw[y];rfl)) W13 (fun x hx=>by obtain⟨e,he,rfl⟩:=QJ.mp hx;exact(M13.each e he).le)
   have mg13:MOk cRow cMerge H13 ⟨X.m,X.rd,X.sd,L13,s13,X.nb,X.li+k13,X.lo+q13,w13⟩:=⟨M13,W13,ok13⟩
   have fpn13:∀b,MFp ⟨X.m,X.rd,X.sd,L13,s13,X.nb,X.li+k13,X.lo+q13,w13⟩ b→H6 b=none:=fun b hb=>hf b ((fp13 b).mp hb)
   have B13:But p H6 H13:=fun b o hb nb=>kp13 b o (B012 b o hb nb) fun z=>by rw[hf b z]at hb;cases hb
   have L13':Zar H13 p (c9+1+1):=by obtain⟨g1,g2,g3,g4⟩:=L12;exact⟨g1,g2,kp13 _ _ g3 npX,g4⟩
   have nrp:rr≠p:=fun z=>by obtain⟨o,ho⟩:=L12.here;rw[z,ho]at hrr;cases hrr
   have nrf:¬ MFp X rr:=fun z=>by have:=kp13;obtain⟨o,ho,_⟩:=mg12.M.fp_live z;rw[hrr]at ho;cases ho
   have hrr6:H6 rr=none:=by
    cases e':H6 rr with
    | none=>rfl
    | some o=>have:=B012 rr o e' nrp;rw[hrr]at this;cases this
   have nrf13:¬ MFp ⟨X.m,X.rd,X.sd,L13,s13,X.nb,X.li+k13,X.lo+q13,w13⟩ rr:=fun z=>nrf ((fp13 rr).mp z)
   have hulen:us.length≤720:=by
    have:=congrArg List.length eT
    rw[Qb,Qr,Qp,Qb]at this
    omega
   clear kp13 fp13 M13 W13 ok13 hmany hfin htk mg12 mg11 mg10 B12 B11 B10 se1 se2 he1 he2 he1' he1'' he2' mg L9 L10 L11 L12 hatm hatw
   have hD13:=B13 _ _ hD6 nDp
   have hws13:∀u∈ws,Zg9 H13 u:=fun u hu=>B13 _ _ (hws u hu).2 (hwp u hu)
   refine⟨_,rfl,_,rfl,_,rfl,_,rfl,_,rfl,_,rfl,_,_,rfl,rfl,_,rfl,D,_,rfl,SqL.of hD13,fun d1 hd1=>?_⟩
   rw[ZlD,← Qa5,← List.map_take]
   have s14:=Zj hd1 (.lst (((ws.drop n).take mm).map fun u=>V.ref u.1))
   have hd1':(upd H13 d1 (.lst (((ws.drop n).take mm).map fun u=>V.ref u.1))) d1=some (.lst (((ws.drop n).take mm).map fun u=>V.ref u.1)):=Zd
   generalize upd H13 d1 (.lst (((ws.drop n).take mm).map fun u=>V.ref u.1))=H14 at s14 hd1' ⊢
   have hwl':ws.length≤720:=by omega
   have D14:IsD H14 4 (.ref rr) (.ref d1):=Zeq (s14 _ _ hrr13) hd1' (by
    have:=congrArg List.length eT
    rw[Qb,Qr,Qp,Qb]at this
    rw[Qb];omega) (Zd5 us _ (by rw[eT,List.map_take,Qa5]) (fun u hu=>s14 _ _ (hus u hu)) fun u hu=>s14 _ _ (hws13 u (Q0 (Qae hu))))
   refine⟨_,_,rfl,D14,fun H15 s15=>⟨_,rfl,Zcc ?_⟩⟩
   have mg15:=(mg13.same s14).same s15
   have s1315:=s14.trans s15
   clear D14 hd1'
   obtain⟨dx15,hm15⟩:=mg15.M.ob
   have hO15:=hO13.len
   refine⟨_,rfl,X.m,dx15,_,rfl,hm15,Zhx ..,X.m,X.rd,X.sd,L13,s13,xw4 X.nb _ _ _ ⟨rfl,mg15.M,fun H16 s16=>?_⟩⟩
   rw[Znm fun e he=>(mg15.M.each e he).le]
   have s1316:=s1315.trans s16
   refine⟨_,rfl,_,rfl,_,rfl,_,_,rfl,rfl,_,rfl,D,_,rfl,SqL.of (s1316 _ _ hD13),fun d2 hd2=>?_⟩
   have s17:=Zj hd2 (.lst (ZcV (ws.map fun u=>V.ref u.1) (some ((n:Int)+(mm:Int))) none))
   refine⟨d2,_,rfl,.inl (SqL.of Zd),?_⟩
   have s1317:=s1316.trans s17
   have eL:((ZcV (ws.map fun u=>V.ref u.1) (some ((n:Int)+(mm:Int))) none).length:Nat)=ZaB (Zam L13):=by
    rw[← hO15,← Qak,ZiM,Qp,Qb,Qp,Qb]
   rw[eL]
   refine⟨_,_,rfl,Zge _,fun H18 s18=>⟨_,rfl,Zcc ?_⟩⟩
   have s1318:=s1317.trans s18
   have mg18:=mg13.same s1318
   have L18:=L13'.same s1318
   have B18:=B13.trans (But.same s1318)
   have hrr18:=s1318 _ _ hrr13
   refine⟨_,rfl,_,rfl,_,_,rfl,rfl,?_⟩
   refine⟨_,rfl,.inl ⟨rfl,_,SqL.of hrr18⟩,?_⟩
   have kp19:∀b o,H18 b=some o→b≠rr→upd H18 rr (.lst ((us.map fun u=>V.ref u.1)++[V.non])) b=some o:=fun b o hb nb=>by rw[Zc nb];exact hb
   refine⟨rr,_,_,rfl,rfl,hrr18,(by rw[Qb,sizeLine_eq];omega),?_⟩
   refine⟨⟨X.m,X.rd,X.sd,L13,s13,X.nb,X.li+k13,X.lo+q13,w13⟩,n+mm,c9+1+1,_,_,_,by rw[Qak];rfl,⟨mg18.M.keep fun b o hb hor=>kp19 b o hb fun z=>?_,mg18.W,mg18.ok⟩,hO13,srt13,fpn13,by rw[Qak];omega,?_,by omega,fun b o hb nb=>kp19 b o (B18 b o hb nb) fun z=>?_⟩
   ·rcases hor with g|⟨xs,rfl⟩
    ·exact nrf13 (z ▸ g)
    ·rw[z,hrr18]at hb;cases hb
   ·obtain⟨g1,g2,g3,g4⟩:=L18
    exact⟨g1,g2,kp19 _ _ g3 nrp.symm,g4⟩
   ·rw[z,hrr6]at hb;cases hb
  ·rintro σ H9 ⟨X,n,c9,v7,v8,v9,rfl,mg,hO9,srt9,hf,hn9,L9,hc9,B9⟩
   have npX:¬ MFp X p:=fun z=>by obtain⟨o,ho⟩:=L6.here;rw[hf p z]at ho;cases ho
   obtain⟨dx9,hm9⟩:=mg.M.ob
   have nd:(ZaG (Zam X.L)).Nodup:=by rw[← Zba];exact mg.M.nd
   have hlen9:=hO9.len
   rw[Qp,Qb]at hlen9
   have hD9:=B9 _ _ hD6 nDp
   refine⟨_,rfl,X.m,dx9,_,rfl,hm9,ZdX ..,_,rfl,D,_,rfl,.inl (SqL.of hD9),_,_,rfl,rfl,?_⟩
   rw[Qb]
   refine(Zoi X.m X.rd X.sd X.L X.s X.nb X.li X.lo X.w _ ⟨rfl,mg.M,mg.W,mg.ok,by omega,fun rr us L13 s13 w13 k13 q13 H13 hrr hrr13 hus htk hfin hmany M13 W13 ok13 fp13 kp13=>?_⟩)
   obtain⟨eT,hO13,srt13⟩:=Zgs (ts:=us.map (·.2)) (many:=ws.length+1) nd srt9 hO9 htk (by rw[Qb,Qak];exact hfin) (by rw[Qb,Qak];exact fun z=>hmany fun y=>z (by rw[y];rfl)) W13 (fun x hx=>by obtain⟨e,he,rfl⟩:=QJ.mp hx;exact(M13.each e he).le)
   rw[Qx (by rw[Qp,Qb];omega)]at eT
   have nrf:¬ Fp X.m X.rd X.sd L13 rr:=fun z=>by obtain⟨o,ho,_⟩:=mg.M.fp_live ((fp13 rr).mp z);rw[hrr]at ho;cases ho
   obtain⟨dx13,hm13⟩:=M13.ob
   have hl13:=hO13.len
   refine⟨_,rfl,X.m,dx13,_,rfl,hm13,ZdX ..,X.m,X.rd,X.sd,L13,s13,X.nb,_,_,w13,_,rfl,M13,W13,ok13,by rw[← hl13,Qp,Qb];omega,fun r2 us2 L14 s14 w14 k14 q14 H14 hr2 hr14 hus2 htk2 hfin2 hmany2 M14 W14 ok14 fp14 kp14=>?_⟩
   obtain⟨eT2,_,_⟩:=Zgs (ts:=us2.map (·.2)) (many:=3) (by rw[← Zba];exact M13.nd) srt13 hO13 htk2 (by rw[Qb];exact hfin2) (by rw[Qb];exact fun z=>hmany2 fun y=>z (by rw[y];rfl)) W14 (fun x hx=>by obtain⟨e,he,rfl⟩:=QJ.mp hx;exact(M14.each e he).le)
   rw[QV (by rw[Qb];omega),List.take_nil]at eT2
   have eU2:us2=[]:=List.map_eq_nil_iff.mp eT2
   subst eU2
   have B13:But p H6 H13:=fun b o hb nb=>kp13 b o (B9 b o hb nb) fun z=>by rw[hf b z]at hb;cases hb
   have B14:But p H6 H14:=fun b o hb nb=>kp14 b o (B13 b o hb nb) fun z=>by rw[hf b ((fp13 b).mp z)]at hb;cases hb
   have hrr14:=kp14 _ _ hrr13 nrf
   have hus14:∀u∈us,Zg9 H14 u:=fun u hu=>kp14 _ _ (hus u hu) (M13.fp_tup (hus u hu))
   have hws14:∀u∈ws,Zg9 H14 u:=fun u hu=>B14 _ _ (hws u hu).2 (hwp u hu)
   have hD14:=B14 _ _ hD6 nDp
   clear kp14 kp13 fp13 fp14 M14 W14 ok14 M13 W13 ok13 htk htk2 hfin hfin2 hmany hmany2 hus hus2
   refine⟨(by show 2≤sizeLine;decide),fun d1 hd1=>?_⟩
   have s15:=Zj hd1 (.lst [.ref rr,.ref r2])
   have hd1':(upd H14 d1 (.lst [.ref rr,.ref r2])) d1=some (.lst [.ref rr,.ref r2]):=Zd
   generalize upd H14 d1 (.lst [.ref rr,.ref r2])=H15 at s15 hd1' ⊢
   refine⟨_,rfl,_,rfl,_,rfl,D,_,rfl,SqL.of (s15 _ _ hD14),fun d2 hd2=>?_⟩
   rw[ZiM,← Qa5]
   have s16:=Zj hd2 (.lst ((ws.drop n).map fun u=>V.ref u.1))
   have hd2':(upd H15 d2 (.lst ((ws.drop n).map fun u=>V.ref u.1))) d2=some (.lst ((ws.drop n).map fun u=>V.ref u.1)):=Zd
   generalize upd H15 d2 (.lst ((ws.drop n).map fun u=>V.ref u.1))=H16 at s16 hd2' ⊢
   refine⟨(by show 0≤sizeLine;decide),fun d3 hd3=>?_⟩
   have s17:=Zj hd3 (.lst [])
   have hd3':(upd H16 d3 (.lst [])) d3=some (.lst []):=Zd
   generalize upd H16 d3 (.lst [])=H17 at s17 hd3' ⊢
   refine⟨(by show 2≤sizeLine;decide),fun d4 hd4=>?_⟩
   have s18:=Zj hd4 (.lst [.ref d2,.ref d3])
   have hd4':(upd H17 d4 (.lst [.ref d2,.ref d3])) d4=some (.lst [.ref d2,.ref d3]):=Zd
   generalize upd H17 d4 (.lst [.ref d2,.ref d3])=H18 at s18 hd4' ⊢
   have s1418:=s15.trans (s16.trans (s17.trans s18))
   have s1518:=s16.trans (s17.trans s18)
   have hul':us.length=ws.length-n:=by
    have:=congrArg List.length eT
    rw[Qb,Qp,Qb]at this
    exact this
   have D18:IsD H18 4 (.ref d1) (.ref d4):=by
    refine Zeq (s1518 _ _ hd1') hd4' (by show 2≤1000;decide) (.cons ?_ (.cons ?_ .nil))
    ·exact Zeq (s1418 _ _ hrr14) (s18 _ _ (s17 _ _ hd2')) (by rw[Qb];omega) (Zd5 us _ (by rw[eT,Qa5]) (fun u hu=>s1418 _ _ (hus14 u hu)) fun u hu=>s1418 _ _ (hws14 u (Q0 hu)))
    ·exact Zeq (s1418 _ _ hr14) (s18 _ _ hd3') (by show 0≤1000;decide) .nil
   refine⟨_,_,rfl,D18,fun H19 s19=>⟨_,rfl,Zcc ?_⟩⟩
   have nHp6:H p=none:=nHp
   exact(xw9 _ _ _ _ _ _ _ _ _ ⟨rfl,fun b o hb=>s19 _ _ (s1418 _ _ (B14 b o (s06 b o hb) (Zb hb nHp)))⟩)
 ·rintro σ H2 ⟨v1,v2,v3,v4,v5,v6,v7,v8,v9,rfl,s2⟩
  exact q H2
end
theorem Zae{K:PySem.W.Frag}{h:Heap}{mg:Str→Option Value}{x:Str}{st:Stmt}{ps:List Str}{f:Addr}{od an:Option Addr}{sl:Array (Option Value)}{oc kV dc pm cd ct:Value}(X:K.In h)(G:h.Ns mainGlobals mg)
  (a:PySem.W.nsIn K mainGlobals x=some (some (.ref f))) (l:K.lookup f=some ⟨oc,od,.func (PySem.W.fnOf x x (Zp st) (Zo st) (Zf st) .none kV dc pm an cd ct),sl⟩) (c:PySem.W.codeIn K cd x=true) (k:PySem.W.keepIn K (.ref f)=true)
  (hb:∀ (kV doc pm:Value) (an:Option Addr) (cdv ct:Value) (us:List Value),us.length=ps.length→bindArgs (PySem.W.fnOf x x (Zp st) (Zo st) (Zf st) .none kV doc pm an cdv ct) ⟨us,[]⟩=pure (ps.zip us)):Top K mg x st ps :=
 ⟨_,_,ZN (st:=st) l c k,PySem.W.mg_of X G a,(ZN (st:=st) l c k).binds hb⟩
theorem Zdj:∀us:List Value,us.length=1→∃a0,us=[a0]
 | [a0],_=>⟨a0,rfl⟩
theorem Zc4:∀us:List Value,us.length=2→∃a0 a1,us=[a0,a1]
 | [a0,a1],_=>⟨a0,a1,rfl⟩
theorem ZiP:∀us:List Value,us.length=3→∃a0 a1 a2,us=[a0,a1,a2]
 | [a0,a1,a2],_=>⟨a0,a1,a2,rfl⟩
theorem Zo2:∀us:List Value,us.length=4→∃a0 a1 a2 a3,us=[a0,a1,a2,a3]
 | [a0,a1,a2,a3],_=>⟨a0,a1,a2,a3,rfl⟩
theorem all_mk{l:PySem.W.OpenLaw}{w:World}{K:PySem.W.Frag}{h:Heap}{mg:Str→Option Value}{fa:Addr}(X:K.In h)(G:h.Ns mainGlobals mg)(hfa:mg "law" = some (.ref fa))
  {cRow:Addr}
  {cMerge:Addr}
  (aCRow:#[Xns,K,"Row",cRow]) (pgRow:PySem.W.plainGet K cRow Str.empty=true) (hdRow:PySem.W.hasDictIn K cRow=true) (poRow:PySem.W.plainOver K cRow=true) (saRow:PySem.W.findIn K (.ref cRow) "__setattr__" = some (some (.builtin "object.__setattr__"))) (mkRow:PySem.W.makesIn K cRow=true) (kcRow:#[Xki,K,cRow])
  (nARow_all_keys:PySem.W.findIn K (.ref cRow) "all_keys" = some none)
  (nARow_fars:PySem.W.findIn K (.ref cRow) "fars" = some none)
  (nARow_gone:PySem.W.findIn K (.ref cRow) "gone" = some none)
  (aCMerge:#[Xns,K,"Merge",cMerge]) (pgMerge:PySem.W.plainGet K cMerge Str.empty=true) (hdMerge:PySem.W.hasDictIn K cMerge=true) (poMerge:PySem.W.plainOver K cMerge=true) (saMerge:PySem.W.findIn K (.ref cMerge) "__setattr__" = some (some (.builtin "object.__setattr__"))) (mkMerge:PySem.W.makesIn K cMerge=true) (kcMerge:#[Xki,K,cMerge])
  (nAMerge_best:PySem.W.findIn K (.ref cMerge) "best" = some none)
  (nAMerge_likened:PySem.W.findIn K (.ref cMerge) "likened" = some none)
  (nAMerge_looked:PySem.W.findIn K (.ref cMerge) "looked" = some none)
  (nAMerge_next_number:PySem.W.findIn K (.ref cMerge) "next_number" = some none)
  (nAMerge_rows:PySem.W.findIn K (.ref cMerge) "rows" = some none)
  (nAMerge_stays:PySem.W.findIn K (.ref cMerge) "stays" = some none)
  (a0:#[Xns,K,"halves",f0]) (l0:#[Xlk,K,f0,oc0,od0,"halves","halves",ZbR,kV0,dc0,pm0,an0,cd0,ct0,sl0]) (c0:#[Xci,K,cd0,"halves"]) (k0:#[Xki,K,f0])
  (a1:#[Xns,K,"way_up",f1]) (l1:#[Xlk,K,f1,oc1,od1,"way_up","way_up",ZbS,kV1,dc1,pm1,an1,cd1,ct1,sl1]) (c1:#[Xci,K,cd1,"way_up"]) (k1:#[Xki,K,f1])
  (a2:#[Xns,K,"alike",f2]) (l2:#[Xlk,K,f2,oc2,od2,"alike","alike",ZcA,kV2,dc2,pm2,an2,cd2,ct2,sl2]) (c2:#[Xci,K,cd2,"alike"]) (k2:#[Xki,K,f2])
  (a3:#[Xns,K,"liken",f3]) (l3:#[Xlk,K,f3,oc3,od3,"liken","liken",Zcv,kV3,dc3,pm3,an3,cd3,ct3,sl3]) (c3:#[Xci,K,cd3,"liken"]) (k3:#[Xki,K,f3])
  (a4:#[Xns,K,"liken_from",f4]) (l4:#[Xlk,K,f4,oc4,od4,"liken_from","liken_from",ZaM,kV4,dc4,pm4,an4,cd4,ct4,sl4]) (c4:#[Xci,K,cd4,"liken_from"]) (k4:#[Xki,K,f4])
  (a5:#[Xns,K,"alike_from",f5]) (l5:#[Xlk,K,f5,oc5,od5,"alike_from","alike_from",ZaN,kV5,dc5,pm5,an5,cd5,ct5,sl5]) (c5:#[Xci,K,cd5,"alike_from"]) (k5:#[Xki,K,f5])
  (a6:#[Xns,K,"order_at",f6]) (l6:#[Xlk,K,f6,oc6,od6,"order_at","order_at",Za7,kV6,dc6,pm6,an6,cd6,ct6,sl6]) (c6:#[Xci,K,cd6,"order_at"]) (k6:#[Xki,K,f6])
  (a7:#[Xns,K,"first_break",f7]) (l7:#[Xlk,K,f7,oc7,od7,"first_break","first_break",ZaD,kV7,dc7,pm7,an7,cd7,ct7,sl7]) (c7:#[Xci,K,cd7,"first_break"]) (k7:#[Xki,K,f7])
  (a8:#[Xns,K,"alikes",f8]) (l8:#[Xlk,K,f8,oc8,od8,"alikes","alikes",ZbJ,kV8,dc8,pm8,an8,cd8,ct8,sl8]) (c8:#[Xci,K,cd8,"alikes"]) (k8:#[Xki,K,f8])
  (a9:#[Xns,K,"refuse_break",f9]) (l9:#[Xlk,K,f9,oc9,od9,"refuse_break","refuse_break",Zaw,kV9,dc9,pm9,an9,cd9,ct9,sl9]) (c9:#[Xci,K,cd9,"refuse_break"]) (k9:#[Xki,K,f9])
  (a10:#[Xns,K,"matches_up",f10]) (l10:#[Xlk,K,f10,oc10,od10,"matches_up","matches_up",ZaL,kV10,dc10,pm10,an10,cd10,ct10,sl10]) (c10:#[Xci,K,cd10,"matches_up"]) (k10:#[Xki,K,f10])
  (a11:#[Xns,K,"_law_mix",f11]) (l11:#[Xlk,K,f11,oc11,od11,"_law_mix","_law_mix",Zct,kV11,dc11,pm11,an11,cd11,ct11,sl11]) (c11:#[Xci,K,cd11,"_law_mix"]) (k11:#[Xki,K,f11])
  (a12:#[Xns,K,"_law_left",f12]) (l12:#[Xlk,K,f12,oc12,od12,"_law_left","_law_left",ZbZ,kV12,dc12,pm12,an12,cd12,ct12,sl12]) (c12:#[Xci,K,cd12,"_law_left"]) (k12:#[Xki,K,f12])
  (a13:#[Xns,K,"_law_pick",f13]) (l13:#[Xlk,K,f13,oc13,od13,"_law_pick","_law_pick",Zb2,kV13,dc13,pm13,an13,cd13,ct13,sl13]) (c13:#[Xci,K,cd13,"_law_pick"]) (k13:#[Xki,K,f13])
  (a14:#[Xns,K,"_law_stems",f14]) (l14:#[Xlk,K,f14,oc14,od14,"_law_stems","_law_stems",Za3,kV14,dc14,pm14,an14,cd14,ct14,sl14]) (c14:#[Xci,K,cd14,"_law_stems"]) (k14:#[Xki,K,f14])
  (a15:#[Xns,K,"_law_key",f15]) (l15:#[Xlk,K,f15,oc15,od15,"_law_key","_law_key",ZbM,kV15,dc15,pm15,an15,cd15,ct15,sl15]) (c15:#[Xci,K,cd15,"_law_key"]) (k15:#[Xki,K,f15])
  (a16:#[Xns,K,"_law_keys",f16]) (l16:#[Xlk,K,f16,oc16,od16,"_law_keys","_law_keys",Zb1,kV16,dc16,pm16,an16,cd16,ct16,sl16]) (c16:#[Xci,K,cd16,"_law_keys"]) (k16:#[Xki,K,f16])
  (a17:#[Xns,K,"_law_row",f17]) (l17:#[Xlk,K,f17,oc17,od17,"_law_row","_law_row",Zcs,kV17,dc17,pm17,an17,cd17,ct17,sl17]) (c17:#[Xci,K,cd17,"_law_row"]) (k17:#[Xki,K,f17])
  (a18:#[Xns,K,"_law_many",f18]) (l18:#[Xlk,K,f18,oc18,od18,"_law_many","_law_many",ZbI,kV18,dc18,pm18,an18,cd18,ct18,sl18]) (c18:#[Xci,K,cd18,"_law_many"]) (k18:#[Xki,K,f18])
  (a19:#[Xns,K,"_law_rows",f19]) (l19:#[Xlk,K,f19,oc19,od19,"_law_rows","_law_rows",Zbh,kV19,dc19,pm19,an19,cd19,ct19,sl19]) (c19:#[Xci,K,cd19,"_law_rows"]) (k19:#[Xki,K,f19])
  (a20:#[Xns,K,"_law_order",f20]) (l20:#[Xlk,K,f20,oc20,od20,"_law_order","_law_order",Za2,kV20,dc20,pm20,an20,cd20,ct20,sl20]) (c20:#[Xci,K,cd20,"_law_order"]) (k20:#[Xki,K,f20])
  (a21:#[Xns,K,"_law_same",f21]) (l21:#[Xlk,K,f21,oc21,od21,"_law_same","_law_same",Zbj,kV21,dc21,pm21,an21,cd21,ct21,sl21]) (c21:#[Xci,K,cd21,"_law_same"]) (k21:#[Xki,K,f21])
  (a22:#[Xns,K,"law",f22]) (l22:#[Xlk,K,f22,oc22,od22,"law","law",ZbC,kV22,dc22,pm22,an22,cd22,ct22,sl22]) (c22:#[Xci,K,cd22,"law"]) (k22:#[Xki,K,f22])
  (a23:#[Xfi,K,cRow,"__init__",f23]) (i23:#[Xif,K,f23]) (l23:#[Xlk,K,f23,oc23,od23,"__init__","Row.__init__",ZaE,kV23,dc23,pm23,an23,cd23,ct23,sl23]) (c23:#[Xci,K,cd23,"Row.__init__"]) (k23:#[Xki,K,f23])
  (a24:#[Xfi,K,cRow,"to_go",f24]) (i24:#[Xif,K,f24]) (l24:#[Xlk,K,f24,oc24,od24,"to_go","Row.to_go",Zas,kV24,dc24,pm24,an24,cd24,ct24,sl24]) (c24:#[Xci,K,cd24,"Row.to_go"]) (k24:#[Xki,K,f24])
  (a25:#[Xfi,K,cRow,"head",f25]) (i25:#[Xif,K,f25]) (l25:#[Xlk,K,f25,oc25,od25,"head","Row.head",ZaC,kV25,dc25,pm25,an25,cd25,ct25,sl25]) (c25:#[Xci,K,cd25,"Row.head"]) (k25:#[Xki,K,f25])
  (a26:#[Xfi,K,cMerge,"__init__",f26]) (i26:#[Xif,K,f26]) (l26:#[Xlk,K,f26,oc26,od26,"__init__","Merge.__init__",Zal,kV26,dc26,pm26,an26,cd26,ct26,sl26]) (c26:#[Xci,K,cd26,"Merge.__init__"]) (k26:#[Xki,K,f26])
  (a27:#[Xfi,K,cMerge,"coming",f27]) (i27:#[Xif,K,f27]) (l27:#[Xlk,K,f27,oc27,od27,"coming","Merge.coming",Z6,kV27,dc27,pm27,an27,cd27,ct27,sl27]) (c27:#[Xci,K,cd27,"Merge.coming"]) (k27:#[Xki,K,f27])
  (a28:#[Xfi,K,cMerge,"take",f28]) (i28:#[Xif,K,f28]) (l28:#[Xlk,K,f28,oc28,od28,"take","Merge.take",Zah,kV28,dc28,pm28,an28,cd28,ct28,sl28]) (c28:#[Xci,K,cd28,"Merge.take"]) (k28:#[Xki,K,f28])
  (a29:#[Xfi,K,cMerge,"take_few",f29]) (i29:#[Xif,K,f29]) (l29:#[Xlk,K,f29,oc29,od29,"take_few","Merge.take_few",ZS,kV29,dc29,pm29,an29,cd29,ct29,sl29]) (c29:#[Xci,K,cd29,"Merge.take_few"]) (k29:#[Xki,K,f29])
  (a30:#[Xfi,K,cMerge,"left",f30]) (i30:#[Xif,K,f30]) (l30:#[Xlk,K,f30,oc30,od30,"left","Merge.left",Zab,kV30,dc30,pm30,an30,cd30,ct30,sl30]) (c30:#[Xci,K,cd30,"Merge.left"]) (k30:#[Xki,K,f30])
  (a31:#[Xfi,K,cMerge,"looks",f31]) (i31:#[Xif,K,f31]) (l31:#[Xlk,K,f31,oc31,od31,"looks","Merge.looks",Zao,kV31,dc31,pm31,an31,cd31,ct31,sl31]) (c31:#[Xci,K,cd31,"Merge.looks"]) (k31:#[Xki,K,f31])
  (a32:#[Xfi,K,cMerge,"play_all",f32]) (i32:#[Xif,K,f32]) (l32:#[Xlk,K,f32,oc32,od32,"play_all","Merge.play_all",ZT,kV32,dc32,pm32,an32,cd32,ct32,sl32]) (c32:#[Xci,K,cd32,"Merge.play_all"]) (k32:#[Xki,K,f32])
  (a33:#[Xfi,K,cMerge,"play",f33]) (i33:#[Xif,K,f33]) (l33:#[Xlk,K,f33,oc33,od33,"play","Merge.play",Zai,kV33,dc33,pm33,an33,cd33,ct33,sl33]) (c33:#[Xci,K,cd33,"Merge.play"]) (k33:#[Xki,K,f33])
  (a34:#[Xfi,K,cMerge,"send_out",f34]) (i34:#[Xif,K,f34]) (l34:#[Xlk,K,f34,oc34,od34,"send_out","Merge.send_out",ZQ,kV34,dc34,pm34,an34,cd34,ct34,sl34]) (c34:#[Xci,K,cd34,"Merge.send_out"]) (k34:#[Xki,K,f34])
  (a35:#[Xfi,K,cMerge,"play_again",f35]) (i35:#[Xif,K,f35]) (l35:#[Xlk,K,f35,oc35,od35,"play_again","Merge.play_again",ZI,kV35,dc35,pm35,an35,cd35,ct35,sl35]) (c35:#[Xci,K,cd35,"Merge.play_again"]) (k35:#[Xki,K,f35])
  (a36:#[Xfi,K,cMerge,"meet",f36]) (i36:#[Xif,K,f36]) (l36:#[Xlk,K,f36,oc36,od36,"meet","Merge.meet",Zak,kV36,dc36,pm36,an36,cd36,ct36,sl36]) (c36:#[Xci,K,cd36,"Merge.meet"]) (k36:#[Xki,K,f36])
  (z0:PySem.W.nsIn K mainGlobals "abs" = some none) (z1:PySem.W.nsIn K mainGlobals "all" = some none) (z2:PySem.W.nsIn K mainGlobals "bool" = some none) (z3:PySem.W.nsIn K mainGlobals "enumerate" = some none) (z4:PySem.W.nsIn K mainGlobals "int" = some none) (z5:PySem.W.nsIn K mainGlobals "isinstance" = some none) (z6:PySem.W.nsIn K mainGlobals "len" = some none) (z7:PySem.W.nsIn K mainGlobals "list" = some none) (z8:PySem.W.nsIn K mainGlobals "max" = some none) (z9:PySem.W.nsIn K mainGlobals "min" = some none) (z10:PySem.W.nsIn K mainGlobals "range" = some none) (z11:PySem.W.nsIn K mainGlobals "sorted" = some none) (z12:PySem.W.nsIn K mainGlobals "str" = some none) (z13:PySem.W.nsIn K mainGlobals "sum" = some none) (z14:PySem.W.nsIn K mainGlobals "tuple" = some none) (z15:PySem.W.nsIn K mainGlobals "zip" = some none) :
  ∃fd:FuncData,(∀ (s:Shared) (v:Value),BindsTo s fd ⟨[v],[]⟩ [("_law_script",v)])∧∀base:Heap,K.In base→base.Ns mainGlobals mg→ZcU l.prog w K mg base CX0 18 fa fd ["_law_script"] (ZiG K):=by
 have e:=hfa.symm.trans (PySem.W.mg_of X G a22)
 cases e
 have T:Zay K mg cRow cMerge:=⟨⟨QG X G z0,QG X G z1,QG X G z2,QG X G z3,QG X G z4,QG X G z5,QG X G z6,QG X G z7,QG X G z8,QG X G z9,QG X G z10,QG X G z11,QG X G z12,QG X G z13,QG X G z14,QG X G z15⟩,Zae X G a0 l0 c0 k0 (fun _ _ _ _ _ _ us hl=>by obtain⟨_,rfl⟩:=Zdj us hl;exact rfl),Zae X G a1 l1 c1 k1 (fun _ _ _ _ _ _ us hl=>by obtain⟨_,_,rfl⟩:=Zc4 us hl;exact rfl),Zae X G a2 l2 c2 k2 (fun _ _ _ _ _ _ us hl=>by obtain⟨_,_,rfl⟩:=Zc4 us hl;exact rfl),Zae X G a3 l3 c3 k3 (fun _ _ _ _ _ _ us hl=>by obtain⟨_,_,rfl⟩:=Zc4 us hl;exact rfl),Zae X G a4 l4 c4 k4 (fun _ _ _ _ _ _ us hl=>by obtain⟨_,_,_,rfl⟩:=ZiP us hl;exact rfl),Zae X G a5 l5 c5 k5 (fun _ _ _ _ _ _ us hl=>by obtain⟨_,_,_,rfl⟩:=ZiP us hl;exact rfl),Zae X G a6 l6 c6 k6 (fun _ _ _ _ _ _ us hl=>by obtain⟨_,_,_,rfl⟩:=ZiP us hl;exact rfl),Zae X G a7 l7 c7 k7 (fun _ _ _ _ _ _ us hl=>by obtain⟨_,rfl⟩:=Zdj us hl;exact rfl),Zae X G a8 l8 c8 k8 (fun _ _ _ _ _ _ us hl=>by obtain⟨_,rfl⟩:=Zdj us hl;exact rfl),Zae X G a9 l9 c9 k9 (fun _ _ _ _ _ _ us hl=>by obtain⟨_,_,rfl⟩:=Zc4 us hl;exact rfl),Zae X G a10 l10 c10 k10 (fun _ _ _ _ _ _ us hl=>by obtain⟨_,_,rfl⟩:=Zc4 us hl;exact rfl),Zae X G a11 l11 c11 k11 (fun _ _ _ _ _ _ us hl=>by obtain⟨_,_,rfl⟩:=Zc4 us hl;exact rfl),Zae X G a12 l12 c12 k12 (fun _ _ _ _ _ _ us hl=>by obtain⟨_,_,rfl⟩:=Zc4 us hl;exact rfl),Zae X G a13 l13 c13 k13 (fun _ _ _ _ _ _ us hl=>by obtain⟨_,_,rfl⟩:=Zc4 us hl;exact rfl),Zae X G a14 l14 c14 k14 (fun _ _ _ _ _ _ us hl=>by obtain⟨_,rfl⟩:=Zdj us hl;exact rfl),Zae X G a15 l15 c15 k15 (fun _ _ _ _ _ _ us hl=>by obtain⟨_,_,rfl⟩:=Zc4 us hl;exact rfl),Zae X G a16 l16 c16 k16 (fun _ _ _ _ _ _ us hl=>by obtain⟨_,_,_,rfl⟩:=ZiP us hl;exact rfl),Zae X G a17 l17 c17 k17 (fun _ _ _ _ _ _ us hl=>by obtain⟨_,_,_,rfl⟩:=ZiP us hl;exact rfl),Zae X G a18 l18 c18 k18 (fun _ _ _ _ _ _ us hl=>by obtain⟨_,rfl⟩:=Zdj us hl;exact rfl),Zae X G a19 l19 c19 k19 (fun _ _ _ _ _ _ us hl=>by obtain⟨_,rfl⟩:=Zdj us hl;exact rfl),Zae X G a20 l20 c20 k20 (fun _ _ _ _ _ _ us hl=>by obtain⟨_,rfl⟩:=Zdj us hl;exact rfl),Zae X G a21 l21 c21 k21 (fun _ _ _ _ _ _ us hl=>by obtain⟨_,_,rfl⟩:=Zc4 us hl;exact rfl),⟨_,_,ZN (st:=ZaE) l23 c23 k23,⟨mkRow,a23,i23,kcRow⟩,(ZN (st:=ZaE) l23 c23 k23).binds (ps:=["self", "keys"]) (fun _ _ _ _ _ _ us hl=>by obtain⟨_,_,rfl⟩:=Zc4 us hl;exact rfl),PySem.W.mg_of X G aCRow⟩,⟨_,_,ZN (st:=Zas) l24 c24 k24,⟨a24,i24,k24⟩,(ZN (st:=Zas) l24 c24 k24).binds (ps:=["self"]) (fun _ _ _ _ _ _ us hl=>by obtain⟨_,rfl⟩:=Zdj us hl;exact rfl)⟩,⟨_,_,ZN (st:=ZaC) l25 c25 k25,⟨a25,i25,k25⟩,(ZN (st:=ZaC) l25 c25 k25).binds (ps:=["self"]) (fun _ _ _ _ _ _ us hl=>by obtain⟨_,rfl⟩:=Zdj us hl;exact rfl)⟩,⟨_,_,ZN (st:=Zal) l26 c26 k26,⟨mkMerge,a26,i26,kcMerge⟩,(ZN (st:=Zal) l26 c26 k26).binds (ps:=["self", "rows"]) (fun _ _ _ _ _ _ us hl=>by obtain⟨_,_,rfl⟩:=Zc4 us hl;exact rfl),PySem.W.mg_of X G aCMerge⟩,⟨_,_,ZN (st:=Z6) l27 c27 k27,⟨a27,i27,k27⟩,(ZN (st:=Z6) l27 c27 k27).binds (ps:=["self"]) (fun _ _ _ _ _ _ us hl=>by obtain⟨_,rfl⟩:=Zdj us hl;exact rfl)⟩,⟨_,_,ZN (st:=Zah) l28 c28 k28,⟨a28,i28,k28⟩,(ZN (st:=Zah) l28 c28 k28).binds (ps:=["self"]) (fun _ _ _ _ _ _ us hl=>by obtain⟨_,rfl⟩:=Zdj us hl;exact rfl)⟩,⟨_,_,ZN (st:=ZS) l29 c29 k29,⟨a29,i29,k29⟩,(ZN (st:=ZS) l29 c29 k29).binds (ps:=["self", "many"]) (fun _ _ _ _ _ _ us hl=>by obtain⟨_,_,rfl⟩:=Zc4 us hl;exact rfl)⟩,⟨_,_,ZN (st:=Zab) l30 c30 k30,⟨a30,i30,k30⟩,(ZN (st:=Zab) l30 c30 k30).binds (ps:=["self"]) (fun _ _ _ _ _ _ us hl=>by obtain⟨_,rfl⟩:=Zdj us hl;exact rfl)⟩,⟨_,_,ZN (st:=Zao) l31 c31 k31,⟨a31,i31,k31⟩,(ZN (st:=Zao) l31 c31 k31).binds (ps:=["self"]) (fun _ _ _ _ _ _ us hl=>by obtain⟨_,rfl⟩:=Zdj us hl;exact rfl)⟩,⟨_,_,ZN (st:=ZT) l32 c32 k32,⟨a32,i32,k32⟩,(ZN (st:=ZT) l32 c32 k32).binds (ps:=["self"]) (fun _ _ _ _ _ _ us hl=>by obtain⟨_,rfl⟩:=Zdj us hl;exact rfl)⟩,⟨_,_,ZN (st:=Zai) l33 c33 k33,⟨a33,i33,k33⟩,(ZN (st:=Zai) l33 c33 k33).binds (ps:=["self", "numbers"]) (fun _ _ _ _ _ _ us hl=>by obtain⟨_,_,rfl⟩:=Zc4 us hl;exact rfl)⟩,⟨_,_,ZN (st:=ZQ) l34 c34 k34,⟨a34,i34,k34⟩,(ZN (st:=ZQ) l34 c34 k34).binds (ps:=["self", "number"]) (fun _ _ _ _ _ _ us hl=>by obtain⟨_,_,rfl⟩:=Zc4 us hl;exact rfl)⟩,⟨_,_,ZN (st:=ZI) l35 c35 k35,⟨a35,i35,k35⟩,(ZN (st:=ZI) l35 c35 k35).binds (ps:=["self", "meeting", "comer"]) (fun _ _ _ _ _ _ us hl=>by obtain⟨_,_,_,rfl⟩:=ZiP us hl;exact rfl)⟩,⟨_,_,ZN (st:=Zak) l36 c36 k36,⟨a36,i36,k36⟩,(ZN (st:=Zak) l36 c36 k36).binds (ps:=["self", "one", "other", "far"]) (fun _ _ _ _ _ _ us hl=>by obtain⟨_,_,_,_,rfl⟩:=Zo2 us hl;exact rfl)⟩,⟨pgRow,hdRow,poRow,saRow⟩,nARow_all_keys,nARow_fars,nARow_gone,⟨pgMerge,hdMerge,poMerge,saMerge⟩,nAMerge_best,nAMerge_likened,nAMerge_looked,nAMerge_next_number,nAMerge_rows,nAMerge_stays⟩
 exact⟨PySem.W.fnOf "law" "law" (Zp ZbC) (Zo ZbC) (Zf ZbC) .none kV22 dc22 pm22 an22 cd22 ct22,fun s v=>.of_eq rfl,fun base _ _=>ZmZ (ZN (st:=ZbC) l22 c22 k22) T⟩
theorem walk{l:PySem.W.OpenLaw}{q:Program}{loose:List Str}{XP:(Str→Option Value)→Heap→Prop}{YP:World→Heap→Prop}{d:DefRec}{K:Params→PySem.W.Frag}(hn:l.most=some 63)(hdf:d.params.defaults=[])
  (hY:∀ (w:World) (h:Heap),YP w h→(K w.params).In h)
  (F:∀ (w:World) (mg:Str→Option Value) (fa:Addr) (h:Heap),(K w.params).In h→h.Ns mainGlobals mg→mg d.name=some (.ref fa) →
   ∃fd:FuncData,(∀ (s:Shared) (u:Value),BindsTo s fd ⟨[u],[]⟩ [("_law_script",u)])∧∀base:Heap,(K w.params).In base→base.Ns mainGlobals mg→ZcU l.prog w (K w.params) mg base CX0 18 fa fd ["_law_script"] (ZiG (K w.params))) :
  PySem.W.WalkO q loose XP YP l.row.toRowW d [] (fun f vs=>PySem.call f vs) :=
 L2.walk_of (n:=63) (k:=18) (x := "_law_script") (CX:=fun _=>CX0) (sp:=fun w=>ZiG (K w.params)) hn (by decide) hdf ⟨rfl,by decide,by decide,rfl⟩ hY F (fun _ _ a ns hl _ hS=>⟨a,ns,rfl,hS,hl,fun _=>rfl⟩) fun _ _ _ _ _ z=>z
end My
open PySem PySem.W PyProof.Rows
namespace PySem.W.Fast
def tw14178693580835917842:=0
def tw9420757816785140914:=0
def tw16429962303560509725:=0
def tw4117121427160787836:=0
def tw11928067807291173881:=0
def tw11922750444123991385:=0
def tw16372832246448232856:=0
def tw2914125677163614186:=0
def tw5155870124661002726:=0
def tw13098119953119082417:=0
def tw1717682993767189585:=0
def tw17855902856209499312:=0
def tw12702143992294371312:=0
def tw15691264024978328098:=0
def tw2738421158208926957:=0
def tw9733751666528081421:=0
def tw10963338803364009470:=0
def tw1555709681670033608:=0
def tw4433627228640817947:=0
def tw1520884123789576950:=0
def tw16021235261289147043:=0
def tw7223987714996174034:=0
def tw7318608994716672837:=0
def tw15288498527249383723:=0
def tw9669884871922179409:=0
def tw6785494262522511987:=0
def tw2136921082638249724:=0
def tw563010061702449318:=0
def tw17253663697016626758:=0
def tw2189407303630742663:=0
def tw2318225450657819628:=0
def tw15594391676902015967:=0
def tw16718456351573189078:=0
def tw8814407839454814989:=0
def tw16847757293233330710:=0
def tw4250509251734349348:=0
def tw16336250633696664892:=0
def tw1414575464734034492:=0
def tw16913140651647346426:=0
def tw14209092476682406719:=0
def tw1906905310351580605:=0
def tw7137350730628974724:=0
def tw6660402724958034504:=0
def tw389520335880836821:=0
def tw6251078118149884801:=0
def tw7428146492629425511:=0
def tw13804749696389399827:=0
def tw5036117730635345029:=0
def tw1174706100815300947:=0
def tw18200802302570049241:=0
def tw245918359679325558:=0
def tw17622754705428009485:=0
def tw2667403494823939949:=0
def tw5078897499290893976:=0
def tw11717373777537897262:=0
def tw4436585257146340090:=0
def tw215396372286416106:=0
def tw15835862292556314973:=0
def tw1098939515840791269:=0
def tw16304359724854247014:=0
def tw6726927091926552568:=0
def tw195195082071254793:=0
def tw1879274601691648126:=0
def tw13383643894234419716:=0
def tw9071228127759592464:=0
def tw11804662277968234231:=0
def tw3125569230441528321:=0
def tw122415493237032782:=0
def tw4332861107096909510:=0
def tw9397368051768935427:=0
def tw7419643901399043334:=0
def tw12779721010807576061:=0
def tw11755166629248232688:=0
def tw1830352276858352326:=0
def tw2715117203104760159:=0
def tw1324139052298697155:=0
def tw3085447548983286424:=0
def tw173057696116217699:=0
def tw14735578029999818726:=0
def tw17986587754367407340:=0
def tw15131378361191722115:=0
def tw13892327361635991901:=0
def tw7954154407278829881:=0
def tw8219992599270328061:=0
def tw16942828144394504471:=0
def tw5937300064053791703:=0
def tw4901155908292663797:=0
def tw9722925765702821671:=0
def tw8769581553377205813:=0
def tw13325577255162709012:=0
def tw13633293765989905274:=0
def tw12026540959568900440:=0
def tw15707662641510815078:=0
def tw2266558101932021083:=0
def tw14183647989262091854:=0
def tw15126689258259158351:=0
def tw10632471674305219549:=0
def tw1151275573901556164:=0
def tw16699820133443350075:=0
def tw4658691257945081962:=0
def tw6414946627857413928:=0
def tw6675843180978108738:=0
def tw16582559935528720454:=0
def tw11255716829047266447:=0
def tw18175488617422733240:=0
def tw2353579303906195764:=0
def tw7329509304966212968:=0
def tw12411157671532104149:=0
def tw14016074049119182577:=0
def tw9068740724920797516:=0
def tw2737835413296854790:=0
def tw12382265470874026225:=0
def tw8024463789580040476:=0
def tw4079262827642024517:=0
def tw5030961567700599557:=0
def tw18156176689074998320:=0
def tw1678278138411001347:=0
def tw17857581433576299104:=0
def tw11634040559584621165:=0
def tw426456199173498315:=0
def tw740069280136528624:=0
def tw16745092368411762468:=0
def tw17946094330741122746:=0
def tw2770666239417974529:=0
def tw2396478451668340947:=0
def tw1371320476091739266:=0
def tw11723115500660966287:=0
def tw10657236929607707322:=0
def tw846230810220469011:=0
def tw696120113536884497:=0
def tw11060252893415826821:=0
def tw18258699366579882791:=0
def tw13871621049654862765:=0
def tw2737918723068653083:=0
def tw9059434858912114347:=0
def tw8835651129631193538:=0
def tw14324332487404473256:=0
def tw4687167078542633766:=0
def tw7290741665999651776:=0
def tw2453203379790803999:=0
def tw5199117587205993334:=0
def tw15736932583069324549:=0
def tw686430991365848619:=0
def tw5622048927021665406:=0
def tw16417076701315996248:=0
def tw14298406816868997346:=0
def tw2525805100401227193:=0
def tw5873583492038732276:=0
def tw6518140178168512847:=0
def tw13526999037910572938:=0
def tw8206258811983365774:=0
def tw15788338167261550170:=0
def tw14624975471655647804:=0
def tw10548613729320252031:=0
def tw15214584409232655651:=0
def tw9134384224638985571:=0
def tw7421566483764215229:=0
def tw642227518840299324:=0
def tw13676155586502707781:=0
def tw15489041206975498628:=0
def tw6213765629424266892:=0
def tw15130725467973102932:=0
def tw239925416214383045:=0
def tw179893502041915404:=0
def tw12576941854833585177:=0
def tw16796429089626306376:=0
def tw8132257978259763708:=0
def tw8057118691444604384:=0
def tw13715424883755631436:=0
def tw291303826980344796:=0
def tw10247932724188195282:=0
def tw15524746671753491498:=0
def tw580508038220405932:=0
def tw18409591398002751253:=0
def tw3789523502223180118:=0
def tw16519362665824775619:=0
def tw6773304421931325250:=0
def tw10872915277868465105:=0
def tw7128141930573317149:=0
def tw1612451338523723772:=0
def tw12642974218760698993:=0
def tw8268477175617467452:=0
def tw15756517359489447755:=0
def tw11095462341754276803:=0
def tw3308729116339137573:=0
def tw778881952784938232:=0
def tw17098547557945308318:=0
def tw8942134347119780029:=0
def tw13720258762750611485:=0
def tw4803672218968626803:=0
def tw8801315929334281489:=0
def tw16950818868567255825:=0
def tw12851006031294993409:=0
def tw5044806050673543602:=0
def tw1421574600739896114:=0
def tw9910668433292310701:=0
def tw790565069800175652:=0
def tw5171120080744281442:=0
def tw16085060403068012251:=0
def tw2277018723995430376:=0
def tw5395070281603019568:=0
def tw8397879762929395946:=0
def tw10321453084353335928:=0
def tw10779879079952023707:=0
def tw3941943641732498029:=0
def tw4800460677600005078:=0
def tw16492621390466407126:=0
def tw2313489096398113816:=0
def tw5168321341031803944:=0
def tw4916917948625173864:=0
def tw2652312853751598780:=0
def tw4505237442864340680:=0
def tw6514950333384885536:=0
def tw16578142363975110296:=0
def tw8053379906979798564:=0
def tw16341259419148258405:=0
def tw16941745748068795995:=0
def tw524049729933668885:=0
def tw10027338044190867371:=0
def tw18120672395500148009:=0
def tw16970922562194782963:=0
def tw9681198456982584943:=0
def tw189340172070030638:=0
def tw6856137278064939522:=0
def tw5393018442404912399:=0
def tw16947857428399382635:=0
def tw7632999967072208245:=0
def tw6437584839770769679:=0
def tw16008317740383923130:=0
def tw8039044076918601747:=0
def tw17148174861376655541:=0
def tw2937558902553755826:=0
def tw5866043365151642392:=0
def tw10454212973338315600:=0
def tw12365843185104050152:=0
def tw18211374705988656290:=0
def tw3551741918095550185:=0
def tw14827585825918816299:=0
def tw11221802649789483231:=0
def tw12246417831240682592:=0
def tw10989523000711673821:=0
def tw17332692789046403793:=0
def tw15390303727595962020:=0
def tw4873999379998055225:=0
def tw8500767817301212706:=0
def tw4369230729914571958:=0
def tw14655278473989573098:=0
def tw17079408775004206599:=0
def tw15048520327115935738:=0
def tw14128909972251102068:=0
def tw11207185142401958374:=0
def tw104422484389797163:=0
def tw15746174463271265598:=0
def tw2032562928008034133:=0
def tw13792933719140375936:=0
def tw5920313372410949789:=0
def tw18183209285392911710:=0
def tw7336603572069171628:=0
def tw9027473708442218270:=0
def tw3694166012451453675:=0
def tw74153990914737716:=0
def tw16972453508607776731:=0
def tw5926087081913177312:=0
def tw16555127915237086104:=0
def tw12914761725281143447:=0
def tw13223028469231103472:=0
def tw5979204383904649007:=0
def tw690757907817254735:=0
def tw374805449136019887:=0
def tw11046999509467497779:=0
def tw7178714871830086605:=0
def tw4628992752983640077:=0
def tw14003497839936135480:=0
def tw10596661787775802140:=0
def tw11827240712895574045:=0
def tw8744960996249203400:=0
def tw10358298457122388201:=0
def tw11467746255212236637:=0
def tw3806839532590032524:=0
def tw16266797922385968902:=0
def tw14497140283486820417:=0
def tw16102494765779277191:=0
def tw469710683310681295:=0
def tw10859644555117701473:=0
def tw17633956146854451025:=0
def tw8607360461060444655:=0
def tw332631043224724458:=0
def tw16645698376056239494:=0
def tw11597237537106282908:=0
def tw104075020150276459:=0
def tw15679203584032216437:=0
def tw5866547537938370265:=0
def tw8032164746650415595:=0
def tw15601445253227265076:=0
def tw931895462519722854:=0
def tw14251692366172441967:=0
def tw324794859366551635:=0
def tw9947377657657279556:=0
def tw8829808990575523144:=0
def tw12124585935759547557:=0
def tw7114327685023314740:=0
def tw14580043792941444209:=0
def tw11477274749788305446:=0
def tw17538262237730220846:=0
def tw17478004492833248412:=0
def tw17013171712690408143:=0
def tw16819745961363355520:=0
def tw3266444559736853897:=0
def tw7995785349533953540:=0
def tw16420965677748582627:=0
def tw9873320944107517574:=0
def tw9757723321426391031:=0
def tw8680726866044917428:=0
def tw4715066759861012686:=0
def tw9847113744708363761:=0
def tw11949009865036794490:=0
def tw2614029563256549324:=0
def tw15412038943252335732:=0
def tw5490755749978424387:=0
def tw11147409740658933356:=0
def tw17692429274618897968:=0
def tw2070138852184542292:=0
def tw5280469390588790250:=0
def tw10952564503187870221:=0
def tw11383948067395208235:=0
def tw16980993518139383931:=0
def tw18182605055321494425:=0
def tw3127444528475328101:=0
def tw14072216469965144320:=0
def tw6096834960809145527:=0
def tw18084036563613558352:=0
def tw3523097371300857122:=0
def tw14306013534504426344:=0
def tw9880749276710995527:=0
def tw3387665763260618991:=0
def tw6652740763454057269:=0
def tw12721860621104190754:=0
def tw6483419926165835096:=0
def tw2192284387640463112:=0
def tw18441466221956233405:=0
def tw11203888795051306816:=0
def tw8903478525874650347:=0
def tw12088047416301869821:=0
def tw654328406859296221:=0
def tw16225235720391171080:=0
def tw16444820295614968246:=0
def tw4776492614639894668:=0
def tw11151696871621601470:=0
def tw14297341977407540578:=0
def tw18122038190621521885:=0
def tw12981499147108042719:=0
def tw12374203171808015592:=0
def tw16303013356932074252:=0
def tw4807783491107325542:=0
def tw981023124923231365:=0
def tw9347116176275540997:=0
def tw2966998875247229598:=0
def tw1584487455667023012:=0
def tw9849386970632201859:=0
def tw9038911221610736369:=0
def tw9271897665563373009:=0
def tw9070966173897891527:=0
def tw13342011440474503339:=0
def tw2591592327501988392:=0
def tw2476990481732196224:=0
def tw4996262648718220381:=0
def tw18005118063331315059:=0
def tw17305710614332936914:=0
def tw13365050323796662423:=0
def tw5523651415782406734:=0
def tw5439580676597886155:=0
def tw5302150539919644604:=0
def tw553516946625161329:=0
def tw3036489728167711501:=0
def tw5840826695318014465:=0
def tw17942089216459168504:=0
def tw13289681502908628018:=0
def tw12017814703001872232:=0
def tw14826189899107044963:=0
def tw6728169700933780437:=0
def tw4868195039551780068:=0
def tw9945391021070429064:=0
def tw1896153771585500413:=0
def tw12700690379573886700:=0
def tw16829210268711238036:=0
def tw691727459638807430:=0
def tw13073033072198722658:=0
def tw9056459988062393453:=0
def tw5308136279149859840:=0
def tw5664900129399770997:=0
def tw10642061942251648317:=0
def tw3502134921120326466:=0
def tw1318545668241993323:=0
def tw1345087302825337723:=0
def tw9688358549428748768:=0
def tw16326091375899286507:=0
def tw2357628678010875517:=0
def tw11947612347679111816:=0
def tw7318844630167806391:=0
def tw15448771781135429231:=0
def tw5376791839350639529:=0
def tw4070824199475164524:=0
def tw10955736222480687345:=0
def tw12653725424962176025:=0
def tw15871677835069713992:=0
def tw9474070875637768172:=0
def tw1626908130149878726:=0
def tw7073289183358084260:=0
def tw15377798966924837540:=0
def tw4368735514563227804:=0
def tw6484603162521460730:=0
def tw10292634823969658710:=0
def tw11985626219041273310:=0
def tw14708922077661261863:=0
def tw14955723992141474013:=0
def tw426502111113478538:=0
def tw2375987135516338269:=0
def tw10370076472023091394:=0
def tw5630548134400136241:=0
def tw14867340336580352468:=0
def tw12396821411821765325:=0
def tw13129541414814391427:=0
def tw5945418995661005819:=0
def tw17901825432516424045:=0
def tw2373715024100566948:=0
end PySem.W.Fast
set_option maxRecDepth 100000 in
set_option maxHeartbeats 0 in
theorem PySem.Challenge.cw_mergetree_k14_so_many_at_once_holds : PySem.Challenge.rw_mergetree_k14_so_many_at_once.Holds := by
 w_on;o_law;k_head;(case hw=>w_witness2)
 k_fill
 refine My.walk (l:=PySem.Challenge.rw_mergetree_k14_so_many_at_once) rfl rfl (fun w h Y=>PySem.W.kIn_of Y) ?F
 case F =>
  intro w mg fa h KX G hmg
  refine' My.all_mk KX G hmg ?aCRow ?pgRow ?hdRow ?poRow ?saRow ?mkRow ?kcRow ?nARow_all_keys ?nARow_fars ?nARow_gone ?aCMerge ?pgMerge ?hdMerge ?poMerge ?saMerge ?mkMerge ?kcMerge ?nAMerge_best ?nAMerge_likened ?nAMerge_looked ?nAMerge_next_number ?nAMerge_rows ?nAMerge_stays ?a0 ?l0 ?c0 ?k0 ?a1 ?l1 ?c1 ?k1 ?a2 ?l2 ?c2 ?k2 ?a3 ?l3 ?c3 ?k3 ?a4 ?l4 ?c4 ?k4 ?a5 ?l5 ?c5 ?k5 ?a6 ?l6 ?c6 ?k6 ?a7 ?l7 ?c7 ?k7 ?a8 ?l8 ?c8 ?k8 ?a9 ?l9 ?c9 ?k9 ?a10 ?l10 ?c10 ?k10 ?a11 ?l11 ?c11 ?k11 ?a12 ?l12 ?c12 ?k12 ?a13 ?l13 ?c13 ?k13 ?a14 ?l14 ?c14 ?k14 ?a15 ?l15 ?c15 ?k15 ?a16 ?l16 ?c16 ?k16 ?a17 ?l17 ?c17 ?k17 ?a18 ?l18 ?c18 ?k18 ?a19 ?l19 ?c19 ?k19 ?a20 ?l20 ?c20 ?k20 ?a21 ?l21 ?c21 ?k21 ?a22 ?l22 ?c22 ?k22 ?a23 ?i23 ?l23 ?c23 ?k23 ?a24 ?i24 ?l24 ?c24 ?k24 ?a25 ?i25 ?l25 ?c25 ?k25 ?a26 ?i26 ?l26 ?c26 ?k26 ?a27 ?i27 ?l27 ?c27 ?k27 ?a28 ?i28 ?l28 ?c28 ?k28 ?a29 ?i29 ?l29 ?c29 ?k29 ?a30 ?i30 ?l30 ?c30 ?k30 ?a31 ?i31 ?l31 ?c31 ?k31 ?a32 ?i32 ?l32 ?c32 ?k32 ?a33 ?i33 ?l33 ?c33 ?k33 ?a34 ?i34 ?l34 ?c34 ?k34 ?a35 ?i35 ?l35 ?c35 ?k35 ?a36 ?i36 ?l36 ?c36 ?k36 ?z0 ?z1 ?z2 ?z3 ?z4 ?z5 ?z6 ?z7 ?z8 ?z9 ?z10 ?z11 ?z12 ?z13 ?z14 ?z15
  (case aCRow=>k_is)
  (case pgRow=>k_is)
  (case hdRow=>k_is)
  (case poRow=>k_is)
  (case saRow=>k_is)
  (case mkRow=>k_is)
  (case kcRow=>k_is)
  (case nARow_all_keys=>k_is)
  (case nARow_fars=>k_is)
  (case nARow_gone=>k_is)
  (case aCMerge=>k_is)
  (case pgMerge=>k_is)
  (case hdMerge=>k_is)
  (case poMerge=>k_is)
  (case saMerge=>k_is)
  (case mkMerge=>k_is)
  (case kcMerge=>k_is)
  (case nAMerge_best=>k_is)
  (case nAMerge_likened=>k_is)
  (case nAMerge_looked=>k_is)
  (case nAMerge_next_number=>k_is)
  (case nAMerge_rows=>k_is)
  (case nAMerge_stays=>k_is)
  (case a0|l0|c0|k0=>k_is)
  (case a1|l1|c1|k1=>k_is)
  (case a2|l2|c2|k2=>k_is)
  (case a3|l3|c3|k3=>k_is)
  (case a4|l4|c4|k4=>k_is)
  (case a5|l5|c5|k5=>k_is)
  (case a6|l6|c6|k6=>k_is)
  (case a7|l7|c7|k7=>k_is)
  (case a8|l8|c8|k8=>k_is)
  (case a9|l9|c9|k9=>k_is)
  (case a10|l10|c10|k10=>k_is)
  (case a11|l11|c11|k11=>k_is)
  (case a12|l12|c12|k12=>k_is)
  (case a13|l13|c13|k13=>k_is)
  (case a14|l14|c14|k14=>k_is)
  (case a15|l15|c15|k15=>k_is)
  (case a16|l16|c16|k16=>k_is)
  (case a17|l17|c17|k17=>k_is)
  (case a18|l18|c18|k18=>k_is)
  (case a19|l19|c19|k19=>k_is)
  (case a20|l20|c20|k20=>k_is)
  (case a21|l21|c21|k21=>k_is)
  (case a22|l22|c22|k22=>k_is)
  (case a23|i23|l23|c23|k23=>k_is)
  (case a24|i24|l24|c24|k24=>k_is)
  (case a25|i25|l25|c25|k25=>k_is)
  (case a26|i26|l26|c26|k26=>k_is)
  (case a27|i27|l27|c27|k27=>k_is)
  (case a28|i28|l28|c28|k28=>k_is)
  (case a29|i29|l29|c29|k29=>k_is)
  (case a30|i30|l30|c30|k30=>k_is)
  (case a31|i31|l31|c31|k31=>k_is)
  (case a32|i32|l32|c32|k32=>k_is)
  (case a33|i33|l33|c33|k33=>k_is)
  (case a34|i34|l34|c34|k34=>k_is)
  (case a35|i35|l35|c35|k35=>k_is)
  (case a36|i36|l36|c36|k36=>k_is)
  (case z0=>k_is)
  (case z1=>k_is)
  (case z2=>k_is)
  (case z3=>k_is)
  (case z4=>k_is)
  (case z5=>k_is)
  (case z6=>k_is)
  (case z7=>k_is)
  (case z8=>k_is)
  (case z9=>k_is)
  (case z10=>k_is)
  (case z11=>k_is)
  (case z12=>k_is)
  (case z13=>k_is)
  (case z14=>k_is)
  (case z15=>k_is)
