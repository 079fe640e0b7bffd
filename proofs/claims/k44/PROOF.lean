import PyProof.Rows.All
import Wide.All
import OpenK.AllK
import Wide.FinOn
import Lean
import PyProof.EqAt
import PyProof.EqKinds
import PyProof.TupleCall
import PyProof.AttrMissHeap
import KE.KEqDict
import KE.KItemsList
import PyProof.WalksMore
import PyProof.TupleOfStr
import PySem.Challenge.RW_mergetree_k44_no_near_ones
set_option maxHeartbeats 4000000
set_option maxRecDepth 100000
set_option Elab.async false
set_option linter.all false
local macro_rules|`(tactic|ac_rfl)=>`(tactic|decide +kernel)
abbrev Qa:=@PySem.Heap.get?_push_of_some
abbrev Qb:=@List.length_map
abbrev Qc:=@List.getElem?_eq_getElem
abbrev Qd:=@Nat.le_refl
abbrev Qe:=@List.length_append
abbrev Qf:=@List.mem_append_right
abbrev Qg:=@List.mem_singleton
abbrev Qh:=@List.map_append
abbrev Qi:=@List.mem_cons_of_mem
abbrev Qj:=@Bool.false_ne_true
abbrev Qk:=@PySem.Heap.lt_size
abbrev Ql:=@Nat.zero_le
abbrev Qm:=@PySem.Heap.get?_push_size
abbrev Qn:=@List.getElem?_eq_some_iff
abbrev Qo:=@List.size_toArray
abbrev Qp:=@List.mem_cons_self
abbrev Qq:=@List.take_of_length_le
abbrev Qr:=@List.getElem?_map
abbrev Qs:=@Array.length_toList
abbrev Qt:=@List.mem_append
abbrev Qu:=@List.length_take
abbrev Qv:=@Nat.ne_of_lt
abbrev Qw:=@List.take_add_one
abbrev Qx:=@Nat.lt_of_lt_of_le
abbrev Qy:=@List.length_singleton
abbrev Qz:=@PySem.W.mg_none_of
abbrev QA:=@List.mem_of_getElem?
abbrev QB:=@PySem.boot_len
abbrev QC:=@List.mem_map
abbrev QD:=@List.map_cons
abbrev QE:=@List.length_cons
abbrev QF:=@PySem.F.plainAttrs_list
abbrev QG:=@List.append_assoc
abbrev QH:=@List.append_nil
abbrev QI:=@List.take_append_drop
abbrev QJ:=@Array.toList_append
abbrev QK:=@List.mem_range
abbrev QL:=@Nat.le_trans
abbrev QM:=@List.mem_cons
abbrev QN:=@List.length_drop
abbrev QO:=@List.mem_append_left
abbrev QP:=@Array.getElem?_toList
abbrev QR:=@List.filterMap_cons
abbrev QS:=@Option.some.inj
abbrev QT:=@List.getD_eq_getElem?_getD
abbrev QU:=@Array.getElem_toList
abbrev QV:=@List.eq_nil_of_length_eq_zero
abbrev QW:=@List.getElem_mem
abbrev QX:=@List.getElem?_eq_none
abbrev QY:=@Nat.ne_of_gt
abbrev QZ:=@List.getElem?_append_right
abbrev Q0:=@Nat.lt_irrefl
abbrev Q1:=@PySem.W.kia_one
abbrev Q3:=@List.map_map
abbrev Q4:=@PySem.Heap.get?_update_of_ne
abbrev Q5:=@PySem.Heap.size_push
abbrev Q6:=@PySem.F.slot_dict_itemiterator_next
abbrev Q7:=@Nat.le_of_lt
abbrev Q8:=@PySem.F.slot_dict_keyiterator_next
abbrev Q9:=@List.mem_iff_getElem
abbrev Qaa:=@Int.le_refl
abbrev Qab:=@PyProof.Rows.slot_tuple_getitem
abbrev Qac:=@List.mem_of_mem_take
abbrev Qad:=@List.mem_of_mem_drop
abbrev Qae:=@List.getElem_take
abbrev Qaf:=@PySem.mem_of_lookup
abbrev Qag:=@Nat.add_lt_add_left
abbrev Qah:=@PyProof.Rows.callWith_type1
abbrev Qai:=@List.getElem?_append_left
abbrev Qaj:=@List.pairwise_iff_getElem
abbrev Qak:=@Array.toList_push
abbrev Qal:=@List.flatten_cons
abbrev Qam:=@List.reverse_cons
abbrev Qan:=@PySem.F.slot_list_extend
abbrev Qao:=@PySem.F.type_list_extend
abbrev Qap:=@PySem.F.slot_list_append
abbrev Qaq:=@PySem.F.type_list_append
abbrev Qar:=@PySem.Heap.SameBut.update
abbrev Qas:=@List.reverse_append
abbrev Qat:=@Nat.mul_le_mul_left
abbrev Qau:=@Bool.and_eq_true
abbrev Qav:=@Nat.lt_add_of_pos_right
abbrev Qaw:=@Nat.le_add_right
abbrev Qax:=@List.take_zero
abbrev Qay:=@List.pairwise_singleton
abbrev Qaz:=@Nat.le_succ
abbrev QaA:=@List.dropLast_concat_getLast
abbrev QaB:=@Nat.le_add_left
abbrev QaC:=@List.getElem?_toArray
abbrev QaD:=@List.Perm.append_left
abbrev QaE:=@List.dropLast_eq_take
abbrev QaF:=@Int.toNat_natCast
abbrev QaG:=@List.getElem_drop
abbrev QaH:=@List.ext_getElem?
abbrev QaI:=@List.length_dropLast
abbrev QaJ:=@List.pairwise_append
abbrev QaK:=@Array.toList_reverse
abbrev QaL:=@List.lookup_cons
abbrev QaM:=@Array.getElem?_eq_getElem
abbrev QaN:=@List.rel_of_pairwise_cons
abbrev QaO:=@List.flatten_append
abbrev QaP:=@List.length_pos_iff
abbrev QaQ:=@Array.getElem_mem_toList
abbrev QaR:=@Bool.eq_iff_iff
abbrev QaS:=@List.nodup_cons
abbrev QaT:=@List.range_succ
abbrev QaU:=@List.getElem?_take
abbrev QaV:=@Int.emod_lt_of_pos
abbrev QaW:=@List.filter_append
abbrev QaX:=@Nat.lt_trans
abbrev QaY:=@List.Perm.append_right
abbrev QaZ:=@List.length_range
abbrev Qa0:=@List.pairwise_map
namespace L2
open PySem PySem.Spec PyProof.Rows
abbrev Key:=Sum Int Str
def ZeK:Key→Value→Bool
 | .inl k,v=>Value.isInt k v
 | .inr x,v=>Value.isStrOf x v
def ZnJ(w:World):Key→Int
 | .inl k=>hashInt k
 | .inr x=>hashStr w x
theorem Z4:∀ {k:Key} {v:Value},ZeK k v=true→(∃i t,k=Sum.inl i∧v=Value.int i t)∨(∃x t,k=Sum.inr x∧v=Value.str x t)
 | .inl i,v,h=>by
  obtain⟨t,e⟩:=Value.isInt_shape (k:=i) (v:=v) h
  exact .inl ⟨i,t,rfl,e⟩
 | .inr x,v,h=>by
  obtain⟨t,e⟩:=Value.isStrOf_shape (x:=x) (v:=v) h
  exact .inr ⟨x,t,rfl,e⟩
theorem ZiL(i:Int)(t:Tok):ZeK (.inl i) (.int i t)=true:=by simp[ZeK,Value.isInt]
theorem Zii(x:Str)(t:Tok):ZeK (.inr x) (.str x t)=true:=by simp[ZeK,Value.isStrOf]
theorem Zmh(a b:Int):decide ((Sum.inl a:Key)=Sum.inl b)=(a == b):=by
 by_cases e:a=b
 ·subst e;simp
 ·have h:¬ (Sum.inl a:Key)=Sum.inl b:=fun q=>e (Sum.inl.inj q)
  rw[decide_eq_false h]
  exact(beq_eq_false_iff_ne.mpr e).symm
theorem Zmy(a b:Str):decide ((Sum.inr a:Key)=Sum.inr b)=decide (a=b):=by
 by_cases e:a=b
 ·subst e;simp
 ·have h:¬ (Sum.inr a:Key)=Sum.inr b:=fun q=>e (Sum.inr.inj q)
  rw[decide_eq_false h,decide_eq_false e]
theorem ZmN(a:Int)(b:Str):decide ((Sum.inl a:Key)=Sum.inr b)=false:=decide_eq_false (fun q=>nomatch q)
theorem Zmp(a:Str)(b:Int):decide ((Sum.inr a:Key)=Sum.inl b)=false:=decide_eq_false (fun q=>nomatch q)
def ZN(prog:Program)(w:World):PySem.KeyKind prog w Key where
 is:=ZeK
 hash:=ZnJ w
 inj:=fun v a b ha hb=>by
  rcases Z4 ha with⟨i,t,rfl,rfl⟩|⟨x,t,rfl,rfl⟩
  ·rcases Z4 hb with⟨j,u,rfl,e⟩|⟨y,u,rfl,e⟩
   ·injection e with e1 _;rw[e1]
   ·exact nomatch e
  ·rcases Z4 hb with⟨j,u,rfl,e⟩|⟨y,u,rfl,e⟩
   ·exact nomatch e
   ·injection e with e1 _;rw[e1]
 byValue:=fun k v h=>by
  rcases Z4 h with⟨i,t,rfl,rfl⟩|⟨x,t,rfl,rfl⟩<;>rfl
 pyHash:=fun hv h=>by
  rcases Z4 hv with⟨i,t,rfl,rfl⟩|⟨x,t,rfl,rfl⟩
  ·exact wpAny_pyHash_int h
  ·exact wpAny_pyHash_str h
 eqBool:=fun hu hv h=>by
  rcases Z4 hu with⟨i,t,rfl,rfl⟩|⟨x,t,rfl,rfl⟩
  ·rcases Z4 hv with⟨j,u,rfl,rfl⟩|⟨y,u,rfl,rfl⟩
   ·rw[Zmh]at h;exact wpAny_eqBool_int h
   ·rw[ZmN]at h;exact SeqAt.EqAt.int_str i t y u _ _ _ _ h
  ·rcases Z4 hv with⟨j,u,rfl,rfl⟩|⟨y,u,rfl,rfl⟩
   ·rw[Zmp]at h;exact SeqAt.EqAt.str_int x t j u _ _ _ _ h
   ·rw[Zmy]at h;exact wpAny_eqBool_str h
 «strs»:=fun k x t v h=>by
  rcases Z4 h with⟨i,u,rfl,e⟩|⟨y,u,rfl,e⟩
  ·exact nomatch e
  ·injection e with e1 _
   subst e1
   cases v<;>rfl
theorem ZfN(prog:Program)(w:World)(i:Int)(t:Tok):(ZN prog w).is (.inl i) (.int i t)=true:=ZiL i t
theorem Zgz(prog:Program)(w:World)(x:Str)(t:Tok):(ZN prog w).is (.inr x) (.str x t)=true:=Zii x t
inductive V where
 | non|bl (b:Bool)|int (i:Int)|str (x:Str)|byt (b:Array UInt8)|flt (b:UInt64)|ref (a:Addr)|ty (n:String)
 deriving DecidableEq
def ZK:V→Value→Prop
 | .non,u=>u=Value.none
 | .bl b,u=>u=Value.bool b
 | .int i,u=>∃t,u=Value.int i t
 | .str x,u=>∃t,u=Value.str x t
 | .byt b,u=>∃t,u=Value.bytes b t
 | .flt b,u=>∃t,u=Value.float b t
 | .ref a,u=>u=Value.ref a
 | .ty n,u=>u=Value.type n
abbrev Zy:List V→List Value→Prop:=Paired ZK
theorem Zy.length{xs:List V}{us:List Value}(r:Zy xs us):xs.length=us.length:=Paired.length r
theorem Zy.get:∀ {xs:List V} {us:List Value} {i:Nat} {x:V},Zy xs us→xs[i]? = some x→∃u,us[i]? = some u∧ZK x u
 | _,_,_,_,.nil,e=>by simp at e
 | _,_,0,_,.cons r _,e=>by simp at e;subst e;exact⟨_,rfl,r⟩
 | _,_,i+1,x,.cons _ t,e=>by
  obtain⟨u,h1,h2⟩:=Zy.get (i:=i) (x:=x) t (by simpa using e)
  exact⟨u,by simpa using h1,h2⟩
theorem Zy.set{x:V}{u:Value}(r:ZK x u):∀ {xs:List V} {us:List Value} (i:Nat),Zy xs us→Zy (xs.set i x) (us.set i u)
 | _,_,_,.nil=>.nil
 | _,_,0,.cons _ t=>.cons r t
 | _,_,i+1,.cons q t=>.cons q (Zy.set r i t)
theorem Zy.append:∀ {xs ys:List V} {us ws:List Value},Zy xs us→Zy ys ws→Zy (xs++ys) (us++ws)
 | _,_,_,_,.nil,s=>s
 | _,_,_,_,.cons r t,s=>.cons r (Zy.append t s)
theorem Zy.take:∀ {xs:List V} {us:List Value} (n:Nat),Zy xs us→Zy (xs.take n) (us.take n)
 | _,_,0,_=>.nil
 | _,_,_+1,.nil=>.nil
 | _,_,n+1,.cons r t=>.cons r (Zy.take n t)
theorem Zy.drop:∀ {xs:List V} {us:List Value} (n:Nat),Zy xs us→Zy (xs.drop n) (us.drop n)
 | _,_,0,r=>r
 | _,_,_+1,.nil=>.nil
 | _,_,n+1,.cons _ t=>Zy.drop n t
def Zme:Option V→Option Value→Prop
 | some v,some u=>ZK v u
 | none,none=>True
 | _,_=>False
def KV{κ:Type}:List (κ×V)→List (κ×Value)→Prop:=Paired fun (p:κ×V) (q:κ×Value)=>p.1=q.1∧ZK p.2 q.2
def kV:Key→V
 | .inl i=>.int i
 | .inr x=>.str x
inductive HO where
  | lst (xs:List V)
  | tup (xs:List V)
  | dK (kvs:List (Key×V))|dT (kvs:List (List Key×V))
  | set (S:Int→Bool) (n:Nat)
  | ins (C dx:Addr) (fs:List (Str×V))
  | own (x:Addr)
  | xd (fs:List (Str×V))
  | met (f x:Addr)
  | rng (lo hi:Int)
  | frz (o:Obj) (u:HO)
  | tbl (ps:Array Value)
  | ext (φ:Heap→Prop)
abbrev Hp:=Addr→Option HO
def upd(H:Hp)(a:Addr)(o:HO):Hp:=fun b=>if b=a then some o else H b
theorem Zb{H:Hp}{a:Addr}{o:HO}:upd H a o a=some o:=by unfold upd;rw[if_pos rfl]
theorem Zj{H:Hp}{a b:Addr}{o:HO}(h:b≠a):upd H a o b=H b:=by unfold upd;rw[if_neg h]
theorem Zj8{H:Hp}{a b:Addr}{o u:HO}(h:H a=some o)(h':H b=some u)(d:o≠u):a≠b:=by
 intro e;subst e;rw[h]at h';exact d (QS h')
theorem Zg{H:Hp}{a b:Addr}{o:HO}(h:H a=some o)(h':H b=none):a≠b:=by
 intro e;subst e;rw[h]at h';cases h'
section
variable (P:Program) (w:World)
def Z7(H:Hp)(h:Heap)(a:Addr):HO→Prop
 | .lst xs=>xs.length≤sizeLine∧∃ (its:List Value) (n:Nat),Zy xs its∧h.get? a=some { cls:=.type "list",data:=.seq its.toArray n }
 | .tup xs=>xs.length≤sizeLine∧∃its:List Value,Zy xs its∧IsTup h a its.toArray
 | .dK kvs=>kvs.length≤sizeLine∧(a == sysModules)=false∧∃vs,KV kvs vs∧h.DictOf (ZN P w) a vs
 | .dT kvs=>kvs.length≤sizeLine∧(a == sysModules)=false∧∃xs:List (List Key×Addr×Value),
   Paired (fun (p:List Key×V) (q:List Key×Addr×Value)=>p.1=q.1∧H q.2.1=some (.tup (p.1.map kV))∧ZK p.2 q.2.2) kvs xs ∧
   ∃o es ep,h.get? a=some o∧o.ExactDict∧o.data=.dict es ep∧es.toList=xs.map (entryOfKey (tupleKind (ZN P w)))∧(xs.map (·.1)).Nodup
 | .set S n=>h.SetOf (intKind P w) a S n
 | .ins C dx fs=>H dx=some (.own a)∧fs.length≤1000∧dx≠a∧h.get? a=some (PySem.W.instObj C dx) ∧
   ∃mA,h.Ns1 dx mA∧(∀f,Zme (fs.lookup f) (mA f))∧PySem.Within mA (fs.map (·.1))
 | .own _=>∃o,h.get? a=some o
 | .xd fs=>∃mA,h.Ns1 a mA∧∀f,Zme (fs.lookup f) (mA f)
 | .rng lo hi=>∃t u v,h.get? a=some { cls:=.type "range",data:=.fields #[.int lo t,.int hi u,.int 1 v] }
 | .frz o u=>h.get? a=some o∧Z7 H h a u
 | .tbl ps=>h.get? a=some { cls:=.none,data:=.fields ps }
 | .met f x=>h.get? a=some (PySem.W.methodObj (.ref f) (.ref x))
 | .ext φ=>φ h∧(∃o,h.get? a=some o)∧∀h1 h2:Heap,φ h1→(∀o,h1.get? a=some o→h2.get? a=some o)→φ h2
def HOk(H:Hp)(h:Heap):Prop:=∀a o,H a=some o→Z7 P w H h a o
end
section
variable {P:Program} {w:World} {H H':Hp} {h h':Heap} {a:Addr} {o:HO}
theorem Z7.lt(x:Z7 P w H h a o):a<h.objs.size:=by
 cases o with
 | lst xs=>obtain⟨_,_,_,_,e⟩:=x;exact Qk e
 | tup xs=>obtain⟨_,_,_,p⟩:=x;exact p.lt
 | dK kvs=>obtain⟨_,_,_,_,o,_,_,e,_⟩:=x;exact Qk e
 | dT kvs=>obtain⟨_,_,_,_,o,_,_,e,_⟩:=x;exact Qk e
 | set S n=>obtain⟨o,_,_,_,e,_⟩:=x;exact Qk e
 | ins C dx fs=>obtain⟨_,_,_,e,_⟩:=x;exact Qk e
 | own y=>obtain⟨_,e⟩:=x;exact Qk e
 | xd fs=>obtain⟨_,⟨_,_,_,e,_⟩,_⟩:=x;exact Qk e
 | rng lo hi=>obtain⟨_,_,_,e⟩:=x;exact Qk e
 | frz ob u=>obtain⟨e,_⟩:=x;exact Qk e
 | tbl ps=>exact Qk (show h.get? a=some _ from x)
 | met f y=>exact Qk (show h.get? a=some _ from x)
 | ext φ=>obtain⟨_,⟨_,e⟩,_⟩:=x;exact Qk e
theorem Paired.mapP{α β:Type}{F G:α→β→Prop}:∀ {l₁:List α} {l₂:List β},Paired F l₁ l₂→(∀a b,F a b→G a b)→Paired G l₁ l₂
 | _,_,.nil,_=>.nil
 | _,_,.cons r t,f=>.cons (f _ _ r) (Paired.mapP t f)
theorem Z7.stay(x:Z7 P w H h a o)(k:∀b u,(b=a∨H b=some (.own a))→h.get? b=some u→h'.get? b=some u)
  (ho:∀b,H b=some (.own a)→H' b=some (.own a)) (ht:∀b xs,H b=some (.tup xs)→H' b=some (.tup xs)):Z7 P w H' h' a o:=by
 induction o with
 | lst xs=>obtain⟨z,its,n,r,e⟩:=x;exact⟨z,its,n,r,k _ _ (.inl rfl) e⟩
 | tup xs=>obtain⟨z,its,r,ob,e,c⟩:=x;exact⟨z,its,r,ob,k _ _ (.inl rfl) e,c⟩
 | dK kvs=>obtain⟨z,y,vs,r,ob,es,ep,e,c⟩:=x;exact⟨z,y,vs,r,ob,es,ep,k _ _ (.inl rfl) e,c⟩
 | dT kvs =>
  obtain⟨z,y,xs,r,ob,es,ep,e,c⟩:=x
  exact⟨z,y,xs,Paired.mapP r fun p q z=>⟨z.1,ht _ _ z.2.1,z.2.2⟩,ob,es,ep,k _ _ (.inl rfl) e,c⟩
 | set S n=>obtain⟨ob,es,ep,t,e,c⟩:=x;exact⟨ob,es,ep,t,k _ _ (.inl rfl) e,c⟩
 | ins C dx fs =>
  obtain⟨d,z,ne,e,mA,⟨od,es,ep,e2,c⟩,r⟩:=x
  exact⟨ho _ d,z,ne,k _ _ (.inl rfl) e,mA,⟨od,es,ep,k _ _ (.inr d) e2,c⟩,r⟩
 | own y=>obtain⟨ob,e⟩:=x;exact⟨ob,k _ _ (.inl rfl) e⟩
 | xd fs=>obtain⟨mA,⟨od,es,ep,e,c⟩,r⟩:=x;exact⟨mA,⟨od,es,ep,k _ _ (.inl rfl) e,c⟩,r⟩
 | rng lo hi=>obtain⟨t,u,v,e⟩:=x;exact⟨t,u,v,k _ _ (.inl rfl) e⟩
 | frz ob u ih=>obtain⟨e,q⟩:=x;exact⟨k _ _ (.inl rfl) e,ih q⟩
 | tbl ps =>
  have e:h.get? a=some { cls:=.none,data:=.fields ps }:=x
  show h'.get? a=some { cls:=.none,data:=.fields ps }
  exact k a _ (.inl rfl) e
 | met f y =>
  have e:h.get? a=some (PySem.W.methodObj (.ref f) (.ref y)):=x
  show h'.get? a=some (PySem.W.methodObj (.ref f) (.ref y))
  exact k a _ (.inl rfl) e
 | ext φ=>obtain⟨p,⟨o,e⟩,st⟩:=x;exact⟨st _ _ p fun o q=>k _ _ (.inl rfl) q,⟨o,k _ _ (.inl rfl) e⟩,st⟩
theorem HOk.lt(x:HOk P w H h)(e:H a=some o):a<h.objs.size:=(x a o e).lt
theorem HOk.fresh(x:HOk P w H h)(e:h.objs.size≤a):H a=none:=by
 cases q:H a with
 | none=>rfl
 | some u=>exact absurd (Qx (x.lt q) e) (Q0 _)
theorem HOk.kept(x:HOk P w H h)(k:∀b u,h.get? b=some u→h'.get? b=some u):HOk P w H h':=fun a o e =>
 (x a o e).stay (fun b u _ q=>k b u q) (fun _ q=>q) fun _ _ q=>q
theorem HOk.laid(x:HOk P w H h)(k:∀b u,h.get? b=some u→h'.get? b=some u)(hp:h.objs.size≤a)(new:Z7 P w (upd H a o) h' a o):HOk P w (upd H a o) h':=fun b u e=>by
 have hn:=x.fresh hp
 by_cases hb:b=a
 ·subst hb;rw[Zb]at e;cases e;exact new
 ·rw[Zj hb]at e
  exact(x b u e).stay (fun c v _ q=>k c v q) (fun c q=>by rw[Zj (Zg q hn)];exact q) fun c xs q=>by rw[Zj (Zg q hn)];exact q
end
def Rd(H:Hp)(a:Addr)(u:HO):Prop:=H a=some u∨∃o,H a=some (.frz o u)
theorem Rd.ok{P:Program}{w:World}{H:Hp}{h:Heap}{a:Addr}{u:HO}(r:Rd H a u)(x:HOk P w H h):Z7 P w H h a u:=by
 rcases r with r|⟨o,r⟩
 ·exact x a u r
 ·obtain⟨_,q⟩:=x a _ r
  exact q
def Mut:Option HO→Prop
 | some (.lst _)=>True
 | some (.dK _)=>True
 | some (.dT _)=>True
 | some (.set _ _)=>True
 | some (.ins _ _ _)=>True
 | some (.ext _)=>True
 | _=>False
section
variable {P:Program} {w:World} {H:Hp} {h h':Heap} {x e:Addr} {o':HO}
theorem HOk.write(ok:HOk P w H h)(mu:Mut (H x))(he:e=x∨H e=some (.own x))(k:∀b u,b≠e→h.get? b=some u→h'.get? b=some u)(heo:∃u,h'.get? e=some u)
  (new:Z7 P w (upd H x o') h' x o'):HOk P w (upd H x o') h':=fun b u q=>by
 have nown:∀c y,H c=some (.own y)→c≠x:=fun c y r z=>by subst z;rw[r]at mu;exact mu
 have ntup:∀c xs,H c=some (.tup xs)→c≠x:=fun c xs r z=>by subst z;rw[r]at mu;exact mu
 by_cases hb:b=x
 ·subst hb;rw[Zb]at q;cases q;exact new
 ·rw[Zj hb]at q
  by_cases hbe:b=e
  ·have q':H b=some (.own x):=by
    rcases he with z|z
    ·exact absurd (hbe.trans z) hb
    ·rw[hbe];exact z
   rw[q]at q';cases q'
   obtain⟨v,hv⟩:=heo
   exact⟨v,by rw[hbe];exact hv⟩
  ·refine(ok b u q).stay (fun c v hc r=>k c v ?_ r) (fun c r=>by rw[Zj (nown c b r)];exact r) fun c xs r=>by rw[Zj (ntup c xs r)];exact r
   rcases hc with rfl|hc
   ·exact hbe
   ·rintro rfl
    rcases he with z|z
    ·exact nown c b hc z
    ·rw[hc]at z;cases z;exact hb rfl
end
structure Un (fs ex:List Addr) (H H':Hp) (h h':Heap):Prop where
 keep:∀b o,h.get? b=some o→H b=none→b ∉ fs→b ∉ ex→h'.get? b=some o
 slot:∀b o,h.get? b=some o→H b=none→b∈fs→b ∉ ex→∃sl,h'.get? b=some { o with slots:=sl }
 free:∀b o,h.get? b=some o→H b=none→b ∉ ex→H' b=none
 there:∀b o,h.get? b=some o→b ∉ ex→∃o',h'.get? b=some o'
 tups:∀b xs,H b=some (.tup xs)→H' b=some (.tup xs)
 frzs:∀b o u,H b=some (.frz o u)→H' b=some (.frz o u)
 tbls:∀b ps,H b=some (.tbl ps)→∃more,H' b=some (.tbl (ps++more))
section
variable {fs fs' ex ex':List Addr} {H H1 H2:Hp} {h h1 h2 h':Heap} {a x e:Addr} {o:HO}
theorem Un.any(u:Un fs ex H H1 h h1){b:Addr}{ob:Obj}(q:h.get? b=some ob)(n:H b=none)(hx:b ∉ ex):∃sl,h1.get? b=some { ob with slots:=sl }:=by
 by_cases hb:b∈fs
 ·exact u.slot b ob q n hb hx
 ·exact⟨ob.slots,u.keep b ob q n hb hx⟩
theorem Un.kept(k:∀b u,h.get? b=some u→h'.get? b=some u):Un fs ex H H h h' :=
 ⟨fun b ob q _ _ _=>k b ob q,fun b ob q _ _ _=>⟨ob.slots,k b ob q⟩,fun _ _ _ n _=>n,fun b ob q _=>⟨ob,k b ob q⟩,fun _ _ q=>q,fun _ _ _ q=>q,fun _ ps q=>⟨#[],by rw[q];simp⟩⟩
theorem Un.refl:Un fs ex H H h h:=Un.kept fun _ _ q=>q
theorem Un.laid(k:∀b u,h.get? b=some u→h'.get? b=some u)(hp:h.objs.size≤a)(hn:H a=none):Un fs ex H (upd H a o) h h' where
 keep:=fun b u q _ _ _=>k b u q
 slot:=fun b u q _ _ _=>⟨u.slots,k b u q⟩
 free:=fun b u q n _=>by rw[Zj (Qv (Qx (Qk q) hp))];exact n
 there:=fun b u q _=>⟨u,k b u q⟩
 tups:=fun b xs q=>by rw[Zj (Zg q hn)];exact q
 frzs:=fun b u xs q=>by rw[Zj (Zg q hn)];exact q
 tbls:=fun b ps q=>⟨#[],by rw[Zj (Zg q hn),q];simp⟩
theorem Un.write(mu:Mut (H x))(he:e=x∨H e=some (.own x))(k:∀b u,b≠e→h.get? b=some u→h'.get? b=some u)(heo:∃u,h'.get? e=some u):Un fs ex H (upd H x o) h h':=by
 have hx:∀b,H b=none→b≠x:=fun b n z=>by subst z;rw[n]at mu;exact mu
 have hb:∀b,H b=none→b≠e:=fun b n z=>by
  subst z
  rcases he with r|r
  ·exact hx b n r
  ·rw[n]at r;cases r
 have hm:∀b u,H b=some u→¬ Mut (some u)→b≠x:=fun b u q nm z=>by subst z;rw[q]at mu;exact nm mu
 refine⟨fun b u q n _ _=>k b u (hb b n) q,fun b u q n _ _=>⟨u.slots,k b u (hb b n) q⟩,fun b u q n _=>by rw[Zj (hx b n)];exact n,fun b u q _=>?_,
  fun b xs q=>by rw[Zj (hm b _ q fun z=>z)];exact q,fun b u xs q=>by rw[Zj (hm b _ q fun z=>z)];exact q,fun b ps q=>⟨#[],by rw[Zj (hm b _ q fun z=>z),q];simp⟩⟩
 by_cases hbe:b=e
 ·subst hbe;exact heo
 ·exact⟨u,k b u hbe q⟩
end
def trk(h:Heap)(H:Hp):List Addr:=(List.range h.objs.size).filter fun a=>(H a).isSome
def Zfh(h:Heap)(H:Hp):Heap:=PySem.W.hideAll h (trk h H)
theorem Zij(h:Heap)(H:Hp):(Zfh h H).objs.size=h.objs.size:=PySem.W.hideAll_size _ _
theorem Zjs{h:Heap}{H:Hp}{b:Addr}{o:Obj}(e:h.get? b=some o)(n:H b=none):(Zfh h H).get? b=some o :=
 PySem.W.hideAll_get _ e fun hm=>by
  have q:(H b).isSome=true:=(List.mem_filter.mp hm).2
  rw[n]at q;simp at q
theorem ZkX{h:Heap}{H:Hp}{b:Addr}{o:Obj}(e:(Zfh h H).get? b=some o):h.get? b=some o∧H b=none:=by
 have e':h.get? b=some o:=PySem.W.of_hideAll (trk h H) e
 refine⟨e',?_⟩
 cases q:H b with
 | none=>rfl
 | some x =>
  have hm:b∈trk h H:=List.mem_filter.mpr ⟨QK.mpr (Qk e'),by simp[q]⟩
  have z:(Zfh h H).get? b=none:=PySem.W.hideAll_none (trk h H) hm
  rw[z]at e;cases e
def Zkt(g h:Heap)(L:Addr):List (Addr×Obj):=(List.range h.objs.size).filterMap fun a=>if a=L∨(g.get? a).isSome=true then none else (h.get? a).map fun o=>(a,o)
def rest(g h:Heap)(L d:Addr):List (Addr×Obj):=(Zkt g h L).filter fun p=>decide (p.1≠d)
structure Mod (K:PySem.W.Frag) (mg:Str→Option Value) (base:Heap):Prop where
 kin:K.In base
 glob:base.Ns mainGlobals mg
 blt:∃mb,base.Ns builtinsNs mb∧∀x:Str,x ≠ "__name__"→mb x=bootBuiltins x
 nolimit:base.NoLimit
structure Cx where
 prog:Program
 w:World
 K:PySem.W.Frag
 mg:Str→Option Value
 base:Heap
 A:Around
 N:List Str
 s₀:Shared
 H₀:Hp
 env:Env
 outer:List Env
 stack:List Env
 ex:List Addr
 fn:Str→Bool
 calm:Bool
 pn:List (Addr×Obj)
 xe:Value→Shared→Prop
def frs(l:List Env):List Addr:=l.filterMap (·.frame)
abbrev Cx.fs(X:Cx):List Addr:=frs X.outer
def Vis(sc:Scope)(x:Str):Prop:=sc.names.lookup x=some .local∨sc.names.lookup x=some .cell∨sc.names.lookup x=some .free
def Loc(sc:Scope)(x:Str):Prop:=sc.names.lookup x=some .local∨sc.names.lookup x=some .cell
def ZnW(env:Env)(h:Heap)(m:Str→Option Value)(x:Str)(u:Value):Prop :=
 (env.kindOf x=some .local∧m x=some u)∨((env.kindOf x=some .cell∨env.kindOf x=some .free)∧∃c,env.cells.lookup x=some c∧h.IsCell c (some u))
structure Cx.Ok (X:Cx):Prop where
 mod:Mod X.K X.mg X.base
 kind:X.env.scope.kind=.function
 glob:X.env.globals=mainGlobals
 blt:X.env.builtins=builtinsNs
 above:X.s₀.heap.objs.size≤X.env.locals
 inj:∀x y c,X.env.cells.lookup x=some c→X.env.cells.lookup y=some c→x=y
 has:∀x,(X.env.kindOf x=some .cell∨X.env.kindOf x=some .free)→∃c,X.env.cells.lookup x=some c
 cab:∀x c,X.fn x=true→X.env.cells.lookup x=some c→X.s₀.heap.objs.size≤c
 hd:X.calm=true→X.A.handled=none
 frames:X.A.frames=some X.stack
 stk:X.stack=X.outer∨(X.stack=X.env::X.outer∧X.env.frame=some X.env.locals)
 exf:∀b∈X.ex,b≠X.env.locals∧∀x c,X.env.cells.lookup x=some c→c≠b
 bs:∀b o,X.base.get? b=some o→X.s₀.heap.get? b=some o∧X.H₀ b=none
 bsz:X.base.objs.size≤X.s₀.heap.objs.size
 noex:∀b o,X.base.get? b=some o→b ∉ X.ex
 exfs:∀b∈X.ex,b ∉ X.fs
 funs:X.s₀.heap.FunFrames X.base X.outer
 frf:∀b∈X.fs,X.H₀ b=none
structure Inv (X:Cx) (pins:List (Addr×Obj)) (σ:List (Option V)) (H:Hp) (s:Shared):Prop where
 ok:X.Ok
 os:s.os=X.s₀.os
 bare:AllBare s.gens
 base:Un X.fs X.ex X.H₀ H X.s₀.heap s.heap
 loc:∃m,s.heap.Ns X.env.locals m∧∀ (i:Nat) (x:Str) (v:V),X.N[i]? = some x→σ[i]? = some (some v)→Vis X.env.scope x→∃u,ZK v u∧ZnW X.env s.heap m x u
 cell:∀x c,X.env.cells.lookup x=some c→∃v,s.heap.IsCell c v
 free:H X.env.locals=none
 freeC:∀x c,X.env.cells.lookup x=some c→H c=none
 pin:∀p∈X.pn++pins,s.heap.get? p.1=some p.2∧H p.1=none∧p.1≠X.env.locals∧p.1 ∉ X.fs∧∀v,p.2.data≠.cell v
 hok:HOk X.prog X.w H s.heap
 len:σ.length=X.N.length
section
variable {X:Cx} {pins:List (Addr×Obj)} {σ:List (Option V)} {H H':Hp} {s:Shared} {h':Heap}
theorem Cx.Ok.nofr(ok:X.Ok){b:Addr}{o:Obj}(e:X.base.get? b=some o):b ∉ X.fs:=fun hb=>by
 have:=(ok.funs.mem hb).1
 rw[e]at this;cases this
theorem Inv.bs(I:Inv X pins σ H s):∀b o,X.base.get? b=some o→s.heap.get? b=some o∧H b=none:=fun b o e =>
 ⟨I.base.keep b o (I.ok.bs b o e).1 (I.ok.bs b o e).2 (I.ok.nofr e) (I.ok.noex b o e),I.base.free b o (I.ok.bs b o e).1 (I.ok.bs b o e).2 (I.ok.noex b o e)⟩
theorem Inv.bk(I:Inv X pins σ H s):∀b o,X.base.get? b=some o→s.heap.get? b=some o:=fun b o e=>(I.bs b o e).1
theorem Inv.mod(I:Inv X pins σ H s):Mod X.K X.mg X.base:=I.ok.mod
theorem Inv.kIn(I:Inv X pins σ H s):X.K.In s.heap:=I.ok.mod.kin.keeps I.bk
theorem Inv.lt(I:Inv X pins σ H s):X.env.locals<s.heap.objs.size:=let ⟨_,hn,_⟩:=I.loc;hn.lt
theorem Inv.sz(I:Inv X pins σ H s):X.s₀.heap.objs.size≤s.heap.objs.size:=QL I.ok.above (Q7 I.lt)
theorem Inv.nofs(I:Inv X pins σ H s){a:Addr}(h:s.heap.objs.size≤a):a ∉ X.fs:=fun hb=>by
 obtain⟨_,o,ho,_⟩:=I.ok.funs.mem hb
 exact absurd (Qx (Qk ho) (QL I.sz h)) (Q0 _)
theorem Inv.cne(I:Inv X pins σ H s):∀x c,X.env.cells.lookup x=some c→c≠X.env.locals:=fun x c e z=>by
 obtain⟨v,o,ho,hd⟩:=I.cell x c e
 obtain⟨m,⟨o',es,ep,ho',hd',_⟩,_⟩:=I.loc
 rw[z,ho']at ho;cases ho;rw[hd']at hd;cases hd
theorem Inv.funs(I:Inv X pins σ H s):s.heap.FunFrames X.base X.outer:=by
 have all:∀ (l:List Env),(∀b∈frs l,b∈X.fs)→X.s₀.heap.FunFrames X.base l→s.heap.FunFrames X.base l:=by
  intro l
  induction l with
  | nil=>intro _ _;trivial
  | cons env r ih =>
   intro hs hl
   obtain⟨hk,⟨L,o,hf,hn,ho,hd⟩,hr⟩:=hl
   have hL:L∈X.fs:=hs L (by unfold frs;rw[QR,hf];exact Qp)
   obtain⟨sl,e⟩:=I.base.slot L o ho (I.ok.frf L hL) hL fun z=>I.ok.exfs L z hL
   exact⟨hk,⟨L,_,hf,hn,e,hd⟩,ih (fun b hb=>hs b (by unfold frs;rw[QR,hf];exact Qi _ hb)) hr⟩
 exact all X.outer (fun _ hb=>hb) I.ok.funs
theorem Inv.stack(I:Inv X pins σ H s):s.heap.FunFrames X.base X.stack:=by
 rcases I.ok.stk with e|⟨e,hf⟩
 ·rw[e];exact I.funs
 ·rw[e]
  obtain⟨m,hn,_⟩:=I.loc
  refine .cons (by rw[I.ok.kind];decide) hf hn ?_ I.funs
  exact Heap.get?_none_of_le (QL I.ok.bsz I.ok.above)
theorem Inv.stkSub(I:Inv X pins σ H s):∀b∈frs X.stack,b∈X.env.locals::X.fs:=fun b hb=>by
 rcases I.ok.stk with e|⟨e,hf⟩
 ·rw[e]at hb;exact Qi _ hb
 ·rw[e]at hb
  unfold frs at hb
  rw[QR,hf]at hb
  exact hb
theorem Inv.stkFree(I:Inv X pins σ H s):∀b∈frs X.stack,H b=none:=fun b hb=>by
 rcases QM.mp (I.stkSub b hb) with e|hb
 ·rw[e];exact I.free
 ·obtain⟨_,o,ho,_⟩:=I.ok.funs.mem hb
  exact I.base.free b o ho (I.ok.frf b hb) fun z=>I.ok.exfs b z hb
theorem Inv.step{g':Array GenState}{t':Nat}{d':Drawn}{ch:List Addr}(I:Inv X pins σ H s)
  (hch:∀b∈ch,(b∈X.ex∨X.s₀.heap.objs.size≤b)∧b≠X.env.locals∧(∀x c,X.env.cells.lookup x=some c→c≠b)∧∀p∈X.pn++pins,p.1≠b)
  (keep:∀b o,b≠X.env.locals→b ∉ X.fs→b ∉ ch→s.heap.get? b=some o→H b=none→h'.get? b=some o)
  (slot:∀b o,b≠X.env.locals→b∈X.fs→b ∉ ch→s.heap.get? b=some o→H b=none→∃sl,h'.get? b=some { o with slots:=sl }) (free:∀b o,b ∉ ch→s.heap.get? b=some o→H b=none→H' b=none)
  (there:∀b o,b ∉ ch→s.heap.get? b=some o→∃o',h'.get? b=some o')
  (tups:∀b xs,H b=some (.tup xs)→H' b=some (.tup xs)) (frzs:∀b o u,H b=some (.frz o u)→H' b=some (.frz o u)) (tbls:∀b ps,H b=some (.tbl ps)→∃more,H' b=some (.tbl (ps++more)))
  (ns:∀m,s.heap.Ns X.env.locals m→h'.Ns X.env.locals m) (hok:HOk X.prog X.w H' h') (hg:AllBare g') :
  Inv X pins σ H' { s with heap:=h',gens:=g',drawn:=d',toks:=t' }:=by
 have neL:∀b o,X.s₀.heap.get? b=some o→b≠X.env.locals:=fun b o e=>Qv (Qx (Qk e) I.ok.above)
 have neC:∀b o,X.s₀.heap.get? b=some o→b ∉ X.ex→b ∉ ch:=fun b o e hx hb=>by
  rcases(hch b hb).1 with z|z
  ·exact hx z
  ·exact absurd (Qx (Qk e) z) (Q0 _)
 have cellK:∀x c,X.env.cells.lookup x=some c→∀v,s.heap.IsCell c v→h'.IsCell c v:=fun x c e v ⟨o,ho,hd⟩=>by
  have nch:c ∉ ch:=fun z=>(hch c z).2.2.1 x c e rfl
  by_cases hc:c∈X.fs
  ·obtain⟨sl,q⟩:=slot c o (I.cne x c e) hc nch ho (I.freeC x c e)
   exact⟨_,q,hd⟩
  ·exact⟨o,keep c o (I.cne x c e) hc nch ho (I.freeC x c e),hd⟩
 refine⟨I.ok,I.os,hg,⟨fun b o e n hb hx=>?_,fun b o e n hb hx=>?_,fun b o e n hx=>?_,fun b o e hx=>?_,fun b xs e=>tups b xs (I.base.tups b xs e),fun b o xs e=>frzs b o xs (I.base.frzs b o xs e),fun b ps e=>?_⟩,?_,fun x c e=>?_,?_,fun x c e=>?_,fun p hp=>?_,hok,I.len⟩
 ·exact keep b o (neL b o e) hb (neC b o e hx) (I.base.keep b o e n hb hx) (I.base.free b o e n hx)
 ·obtain⟨sl,e1⟩:=I.base.slot b o e n hb hx
  obtain⟨sl',e2⟩:=slot b _ (neL b o e) hb (neC b o e hx) e1 (I.base.free b o e n hx)
  exact⟨sl',e2⟩
 ·obtain⟨o',e1⟩:=I.base.there b o e hx
  exact free b o' (neC b o e hx) e1 (I.base.free b o e n hx)
 ·obtain⟨o',e1⟩:=I.base.there b o e hx
  exact there b o' (neC b o e hx) e1
 ·obtain⟨m1,e1⟩:=I.base.tbls b ps e
  obtain⟨m2,e2⟩:=tbls b _ e1
  exact⟨m1++m2,by rw[e2,Array.append_assoc]⟩
 ·obtain⟨m,hn,hl⟩:=I.loc
  refine⟨m,ns m hn,fun i x v e1 e2 e3=>?_⟩
  obtain⟨u,r,l⟩:=hl i x v e1 e2 e3
  refine⟨u,r,?_⟩
  rcases l with l|⟨k,c,e,z⟩
  ·exact .inl l
  ·exact .inr ⟨k,c,e,cellK x c e _ z⟩
 ·obtain⟨v,z⟩:=I.cell x c e
  exact⟨v,cellK x c e v z⟩
 ·obtain⟨m,⟨o,_,_,ho,_⟩,_⟩:=I.loc
  exact free _ o (fun z=>(hch _ z).2.1 rfl) ho I.free
 ·obtain⟨v,o,ho,hd⟩:=I.cell x c e
  exact free c o (fun z=>(hch c z).2.2.1 x c e rfl) ho (I.freeC x c e)
 ·obtain⟨e,n,ne,nf,d⟩:=I.pin p hp
  have nch:p.1 ∉ ch:=fun z=>(hch p.1 z).2.2.2 p hp rfl
  exact⟨keep p.1 p.2 ne nf nch e n,free p.1 p.2 nch e n,ne,nf,d⟩
theorem Inv.un{t':Nat}(I:Inv X pins σ H s)(u:Un X.fs [] H H' s.heap h')(hok:HOk X.prog X.w H' h'):Inv X pins σ H' { s with heap:=h',toks:=t' }:=by
 obtain⟨m,⟨o,es,ep,ho,r⟩,_⟩:=id I.loc
 obtain⟨sl,hL⟩:=u.any ho I.free (by simp)
 exact I.step (g':=s.gens) (d':=s.drawn) (ch:=[]) (fun _ z=>nomatch z) (fun b o _ hb _ e n=>u.keep b o e n hb (by simp)) (fun b o _ hb _ e n=>u.slot b o e n hb (by simp)) (fun b o _ e n=>u.free b o e n (by simp)) (fun b o _ e=>u.there b o e (by simp)) u.tups u.frzs u.tbls (fun m' hm=>by
  obtain⟨o',es',ep',ho',r'⟩:=hm
  rw[ho]at ho';cases ho'
  exact⟨_,es',ep',hL,r'⟩) hok I.bare
theorem Inv.call{g':Array GenState}{t':Nat}{d':Drawn}{ch:List Addr}(I:Inv X pins σ H s)(u:Un (frs X.stack) ch H H' s.heap h')(hok:HOk X.prog X.w H' h')(hg:AllBare g')
  (hch:∀b∈ch,(b∈X.ex∨X.s₀.heap.objs.size≤b)∧b≠X.env.locals∧(∀x c,X.env.cells.lookup x=some c→c≠b)∧∀p∈X.pn++pins,p.1≠b) :
  Inv X pins σ H' { s with heap:=h',gens:=g',drawn:=d',toks:=t' }:=by
 obtain⟨m,⟨o,es,ep,ho,r⟩,_⟩:=id I.loc
 obtain⟨sl,hL⟩:=u.any ho I.free fun z=>(hch _ z).2.1 rfl
 exact I.step (ch:=ch) hch (fun b o hL hb hc e n=>u.keep b o e n (fun z=>(QM.mp (I.stkSub b z)).elim hL hb) hc) (fun b o _ _ hc e n=>u.any e n hc) (fun b o hc e n=>u.free b o e n hc) (fun b o hc e=>u.there b o e hc) u.tups u.frzs u.tbls (fun m' hm=>by
  obtain⟨o',es',ep',ho',r'⟩:=hm
  rw[ho]at ho';cases ho'
  exact⟨_,es',ep',hL,r'⟩) hok hg
theorem Inv.turned{t':Nat}{it:Addr}(I:Inv X pins σ H s)(k:∀b o,b≠it→s.heap.get? b=some o→h'.get? b=some o)(hn:H it=none)(hL:it≠X.env.locals)
  (h1:it∈X.ex∨X.s₀.heap.objs.size≤it) (h2:∀x c,X.env.cells.lookup x=some c→c≠it) (h3:∀p∈X.pn++pins,p.1≠it):Inv X pins σ H { s with heap:=h',toks:=t' }:=by
 have nit:∀b u,H b=some u→b≠it:=fun b u e z=>by rw[z,hn]at e;cases e
 refine I.step (g':=s.gens) (d':=s.drawn) (ch:=[it]) (fun b hb=>?_) (fun b o _ _ hc e _=>k b o (fun z=>hc (by simp[z])) e) (fun b o _ _ hc e _=>⟨o.slots,k b o (fun z=>hc (by simp[z])) e⟩) (fun _ _ _ _ n=>n)
  (fun b o hc e=>⟨o,k b o (fun z=>hc (by simp[z])) e⟩) (fun _ _ e=>e) (fun _ _ _ e=>e) (fun b ps e=>⟨#[],by rw[e];simp⟩) (fun m hm=>?_) (fun b u e=>?_) I.bare
 ·have e:b=it:=by simpa using hb
  subst e
  exact⟨h1,hL,h2,h3⟩
 ·obtain⟨o,es,ep,ho,r⟩:=hm
  exact⟨o,es,ep,k _ o (Ne.symm hL) ho,r⟩
 ·refine(I.hok b u e).stay (fun c v hc q=>k c v ?_ q) (fun _ q=>q) fun _ _ q=>q
  rcases hc with z|z
  ·rw[z];exact nit b u e
  ·exact nit c _ z
theorem Inv.tok(I:Inv X pins σ H s)(t:Nat):Inv X pins σ H { s with toks:=t }:=I.un (h':=s.heap) (t':=t) Un.refl I.hok
theorem Inv.kept{t':Nat}(I:Inv X pins σ H s)(k:∀b u,s.heap.get? b=some u→h'.get? b=some u):Inv X pins σ H { s with heap:=h',toks:=t' }:=I.un (Un.kept k) (I.hok.kept k)
theorem Inv.laid{a:Addr}{o:HO}{t':Nat}(I:Inv X pins σ H s)(k:∀b u,s.heap.get? b=some u→h'.get? b=some u)(hp:s.heap.objs.size≤a)(new:Z7 X.prog X.w (upd H a o) h' a o) :
  Inv X pins σ (upd H a o) { s with heap:=h',toks:=t' }:=I.un (Un.laid k hp (I.hok.fresh hp)) (I.hok.laid k hp new)
theorem Inv.write{x e:Addr}{o:HO}{t':Nat}(I:Inv X pins σ H s)(mu:Mut (H x))(he:e=x∨H e=some (.own x))(k:∀b u,b≠e→s.heap.get? b=some u→h'.get? b=some u)(heo:∃u,h'.get? e=some u)
  (new:Z7 X.prog X.w (upd H x o) h' x o):Inv X pins σ (upd H x o) { s with heap:=h',toks:=t' }:=I.un (Un.write mu he k heo) (I.hok.write mu he k heo new)
theorem Inv.pins_of{pins':List (Addr×Obj)}(I:Inv X pins σ H s)(h:∀p∈pins',s.heap.get? p.1=some p.2∧H p.1=none∧p.1≠X.env.locals∧p.1 ∉ X.fs∧∀v,p.2.data≠.cell v):Inv X pins' σ H s :=
 ⟨I.ok,I.os,I.bare,I.base,I.loc,I.cell,I.free,I.freeC,fun p hp=>(Qt.mp hp).elim (fun z=>I.pin p (QO _ z)) (h p),I.hok,I.len⟩
theorem ZfM{N:List Str}(hN:N.Nodup){i j:Nat}{x:Str}(a:N[i]? = some x)(b:N[j]? = some x):i=j:=by
 obtain⟨h1,e1⟩:=Qn.mp a
 obtain⟨h2,e2⟩:=Qn.mp b
 exact(List.getElem_inj hN).mp (e1.trans e2.symm)
theorem Zdl{M:Model}{A:Around}{E:Value→Shared→Prop}{i:Nat}{x:Str}{v:V}{u:Value}{Q:Unit→Shared→Prop}(I:Inv X pins σ H s)(hN:X.N.Nodup)(hi:X.N[i]? = some x)(hx:Loc X.env.scope x)(r:ZK v u)
  (h:∀s',Inv X pins (σ.set i (some v)) H s'→(∃a,Heap.SameBut a s.heap s'.heap∧(a=X.env.locals∨X.env.cells.lookup x=some a))→Q () s') (hf:X.fn x=true∨X.env.scope.names.lookup x=some .local:=by first|exact .inl rfl|exact .inr rfl|assumption):wpAny M A (storeName X.env x u) Q E s:=by
 obtain⟨m,hn,hl⟩:=id I.loc
 have hcls:(X.env.scope.kind == .class||(X.env.scope.kind == .module&&X.env.locals != X.env.globals))=false:=by rw[I.ok.kind];rfl
 have hiσ:i<σ.length:=by rw[I.len];exact(Qn.mp hi).1
 have cne:=I.cne
 have tracked:∀ {a:Addr} {h':Heap},(∃o,s.heap.get? a=some o∧H a=none)→Heap.SameBut a s.heap h'→HOk X.prog X.w H h':=fun {a h'} ha hs b ob e=>by
  obtain⟨_,_,hfree⟩:=ha
  refine(I.hok b ob e).stay (fun c w' hc q=>(hs.2 c ?_).trans q) (fun _ q=>q) fun _ _ q=>q
  rintro rfl
  rcases hc with rfl|hc
  ·rw[hfree]at e;cases e
  ·rw[hfree]at hc;cases hc
 rcases hx with hk|hk
 ·refine wpAny_storeName_local hk hn (fun h' hn' hs=>?_) hcls
  obtain⟨oL,_,_,hoL,_⟩:=id hn
  refine h _ ⟨I.ok,I.os,I.bare,⟨fun b o e n hb hx=>?_,fun b o e n hb hx=>?_,I.base.free,fun b o e hx=>?_,I.base.tups,I.base.frzs,I.base.tbls⟩,⟨_,hn',fun j y v' e1 e2 e3=>?_⟩,fun y c e=>?_,I.free,I.freeC,fun p hp=>?_,tracked ⟨oL,hoL,I.free⟩ hs,by simpa using I.len⟩ ⟨_,hs,.inl rfl⟩
  ·exact(hs.2 b (Qv (Qx (Qk e) I.ok.above))).trans (I.base.keep b o e n hb hx)
  ·obtain⟨sl,e1⟩:=I.base.slot b o e n hb hx
   exact⟨sl,(hs.2 b (Qv (Qx (Qk e) I.ok.above))).trans e1⟩
  ·obtain⟨o',e1⟩:=I.base.there b o e hx
   exact⟨o',(hs.2 b (Qv (Qx (Qk e) I.ok.above))).trans e1⟩
  ·by_cases hj:j=i
   ·subst hj
    rw[hi]at e1;cases e1
    rw[List.getElem?_set_self hiσ]at e2
    cases e2
    exact⟨u,r,.inl ⟨hk,by simp⟩⟩
   ·rw[List.getElem?_set_ne (Ne.symm hj)]at e2
    obtain⟨u',r',q⟩:=hl j y v' e1 e2 e3
    refine⟨u',r',?_⟩
    rcases q with⟨k,e⟩|⟨k,c,e,z⟩
    ·refine .inl ⟨k,?_⟩
     have:y≠x:=fun e=>hj (ZfM hN e1 (e ▸ hi))
     simp[this,e]
    ·exact .inr ⟨k,c,e,z.sameBut hs (cne y c e)⟩
  ·obtain⟨w',z⟩:=I.cell y c e
   exact⟨w',z.sameBut hs (cne y c e)⟩
  ·obtain⟨e,n,ne,nf,d⟩:=I.pin p hp
   exact⟨(hs.2 p.1 ne).trans e,n,ne,nf,d⟩
 ·have hfn:X.fn x=true:=by
   rcases hf with z|z
   ·exact z
   ·rw[z]at hk;cases hk
  obtain⟨c,hc⟩:=I.ok.has x (.inl hk)
  obtain⟨w',z⟩:=I.cell x c hc
  refine wpAny_storeName_cell I.ok.kind hk hc z (fun h' hc' hs=>?_)
  obtain⟨oc,hoc,hocd⟩:=id z
  refine h { s with heap:=h' } ⟨I.ok,I.os,I.bare,⟨fun b o e n hb hx=>?_,fun b o e n hb hx=>?_,I.base.free,fun b o e hx=>?_,I.base.tups,I.base.frzs,I.base.tbls⟩,⟨m,hn.sameBut hs (Ne.symm (cne x c hc)),fun j y v' e1 e2 e3=>?_⟩,fun y c' e=>?_,I.free,I.freeC,fun p hp=>?_,tracked ⟨oc,hoc,I.freeC x c hc⟩ hs,by simpa using I.len⟩ ⟨c,hs,.inr hc⟩
  ·exact(hs.2 b (Qv (Qx (Qk e) (I.ok.cab x c hfn hc)))).trans (I.base.keep b o e n hb hx)
  ·obtain⟨sl,e1⟩:=I.base.slot b o e n hb hx
   exact⟨sl,(hs.2 b (Qv (Qx (Qk e) (I.ok.cab x c hfn hc)))).trans e1⟩
  ·obtain⟨o',e1⟩:=I.base.there b o e hx
   exact⟨o',(hs.2 b (Qv (Qx (Qk e) (I.ok.cab x c hfn hc)))).trans e1⟩
  ·by_cases hj:j=i
   ·subst hj
    rw[hi]at e1;cases e1
    rw[List.getElem?_set_self hiσ]at e2
    cases e2
    exact⟨u,r,.inr ⟨.inl hk,c,hc,hc'⟩⟩
   ·rw[List.getElem?_set_ne (Ne.symm hj)]at e2
    obtain⟨u',r',q⟩:=hl j y v' e1 e2 e3
    refine⟨u',r',?_⟩
    rcases q with q|⟨k,c',e,z'⟩
    ·exact .inl q
    ·refine .inr ⟨k,c',e,z'.sameBut hs ?_⟩
     rintro rfl
     exact hj (ZfM hN e1 (I.ok.inj _ _ _ e hc ▸ hi))
  ·by_cases hcc:c'=c
   ·subst hcc;exact⟨_,hc'⟩
   ·obtain⟨w2,z2⟩:=I.cell y c' e
    exact⟨w2,z2.sameBut hs hcc⟩
  ·obtain⟨e,n,ne,nf,d⟩:=I.pin p hp
   refine⟨(hs.2 p.1 ?_).trans e,n,ne,nf,d⟩
   intro q
   rw[q,hoc]at e
   have q':oc=p.2:=QS e
   exact d w' (by rw[← q'];exact hocd)
theorem Zcu{M:Model}{A:Around}{E:Value→Shared→Prop}{i:Nat}{x:Str}{v:V}{u:Value}{Q:Unit→Shared→Prop}(I:Inv X pins σ H s)(hN:X.N.Nodup)(hi:X.N[i]? = some x)(hx:Loc X.env.scope x)(r:ZK v u)
  (h:∀s',Inv X pins (σ.set i (some v)) H s'→Q () s') (hf:X.fn x=true∨X.env.scope.names.lookup x=some .local:=by first|exact .inl rfl|exact .inr rfl|assumption):wpAny M A (storeName X.env x u) Q E s :=
 Zdl I hN hi hx r (fun s' I' _=>h s' I') hf
theorem Inv.call'{s':Shared}{ch:List Addr}(I:Inv X pins σ H s)(ho:s'.os=s.os)(u:Un (frs X.stack) ch H H' s.heap s'.heap)(hok:HOk X.prog X.w H' s'.heap)(hg:AllBare s'.gens)
  (hch:∀b∈ch,(b∈X.ex∨X.s₀.heap.objs.size≤b)∧b≠X.env.locals∧(∀x c,X.env.cells.lookup x=some c→c≠b)∧∀p∈X.pn++pins,p.1≠b):Inv X pins σ H' s':=by
 obtain⟨h',g',d',t',o'⟩:=s'
 have e:o'=s.os:=ho
 subst e
 exact I.call (g':=g') (t':=t') (d':=d') u hok hg hch
end
abbrev XK:=Value→Option Addr→Hp→Prop
abbrev St:=List (Option V)
abbrev VK:=V→Hp→Prop
abbrev TE:=St→Hp→VK→Prop
abbrev TT:=St→Hp→(Bool→Hp→Prop)→Prop
abbrev TA:=St→Hp→(List V→Hp→Prop)→Prop
structure Zfc where
 nx:St→Hp→Prop
 rt:VK
 bk:St→Hp→Prop:=fun _ _=>False
 ct:St→Hp→Prop:=fun _ _=>False
abbrev TS:=Zfc→St→Hp→Prop
def EP(X:Cx)(pins:List (Addr×Obj))(σ:St)(Q:VK)(u:Value)(s':Shared):Prop:=∃v H',Inv X pins σ H' s'∧ZK v u∧Q v H'
def TP(X:Cx)(pins:List (Addr×Obj))(σ:St)(Q:Bool→Hp→Prop)(b:Bool)(s':Shared):Prop:=∃H',Inv X pins σ H' s'∧Q b H'
def AP(X:Cx)(pins:List (Addr×Obj))(σ:St)(Q:List V→Hp→Prop)(us:List Value)(s':Shared):Prop:=∃vs H',Inv X pins σ H' s'∧Zy vs us∧Q vs H'
def SP(X:Cx)(pins:List (Addr×Obj))(D:Zfc)(f:Flow)(s':Shared):Prop :=
 match f with
 | .next=>∃σ' H',Inv X pins σ' H' s'∧D.nx σ' H'
 | .brk=>∃σ' H',Inv X pins σ' H' s'∧D.bk σ' H'
 | .cont=>∃σ' H',Inv X pins σ' H' s'∧D.ct σ' H'
 | .ret u=>∃v σ' H',Inv X pins σ' H' s'∧ZK v u∧D.rt v H'
def PE(X:Cx)(e:Expr)(t:TE):Prop :=
 ∀ (pins:List (Addr×Obj)) (s:Shared) (σ:St) (H:Hp) (Q:VK),Inv X pins σ H s→t σ H Q→wpAny (model X.prog X.w) X.A (eval e X.env) (EP X pins σ Q) X.xe s
def PT(X:Cx)(e:Expr)(t:TT):Prop :=
 ∀ (pins:List (Addr×Obj)) (s:Shared) (σ:St) (H:Hp) (Q:Bool→Hp→Prop),Inv X pins σ H s→t σ H Q→wpAny (model X.prog X.w) X.A (isTrue e X.env (eval e X.env)) (TP X pins σ Q) X.xe s
def PW(X:Cx)(e:Expr)(t:TT):Prop :=
 ∀ (whole:Sem Value) (pins:List (Addr×Obj)) (s:Shared) (σ:St) (H:Hp) (Q:Bool→Hp→Prop),Inv X pins σ H s→t σ H Q→wpAny (model X.prog X.w) X.A (isTrue e X.env whole) (TP X pins σ Q) X.xe s
theorem PW.pt{X:Cx}{e:Expr}{t:TT}(h:PW X e t):PT X e t:=h _
def PA(X:Cx)(es:List Expr)(t:TA):Prop :=
 ∀ (pos:Pos) (pins:List (Addr×Obj)) (s:Shared) (σ:St) (H:Hp) (Q:List V→Hp→Prop),Inv X pins σ H s→t σ H Q→wpAny (model X.prog X.w) X.A (spliced (backTo pos (starEach es X.env))) (AP X pins σ Q) X.xe s
def PS(X:Cx)(st:Stmt)(t:TS):Prop :=
 ∀ (pins:List (Addr×Obj)) (s:Shared) (σ:St) (H:Hp) (D:Zfc),Inv X pins σ H s→t D σ H→wpAny (model X.prog X.w) X.A (exec st X.env) (SP X pins D) X.xe s
def PSs(X:Cx)(st:List Stmt)(t:TS):Prop :=
 ∀ (pins:List (Addr×Obj)) (s:Shared) (σ:St) (H:Hp) (D:Zfc),Inv X pins σ H s→t D σ H→wpAny (model X.prog X.w) X.A (execs st X.env) (SP X pins D) X.xe s
theorem thn{α:Type}{t:Sem α}{Q Q':α→Shared→Prop}{M:Model}{A:Around}{E:Value→Shared→Prop}{s:Shared}(h:wpAny M A t Q E s)(hQ:∀a s,Q a s→Q' a s):wpAny M A t Q' E s:=wpAny_mono h hQ fun _ _ x=>x
section
variable {X:Cx}
def Zlv(i:Nat):TE:=fun σ H Q=>∃v,σ[i]? = some (some v)∧Q v H
def tC(v:V):TE:=fun _ H Q=>Q v H
theorem Zhj{i:Nat}{x:Str}{pos:Pos}(hN:X.N[i]? = some x)(hv:Vis X.env.scope x)(hd:(x == ("__debug__" : Str))=false:=by decide)(hcd:(x == ("__classdict__" : Str))=false:=by decide):PE X (.Name x pos) (Zlv i):=by
 intro pins s σ H Q I h
 obtain⟨v,e,h⟩:=h
 obtain⟨m,hn,hl⟩:=I.loc
 obtain⟨u,r,l⟩:=hl i x v hN e hv
 have fin:EP X pins σ Q u s:=⟨v,H,I,r,h⟩
 rcases l with⟨hk,hm⟩|⟨hk,c,hc,hcell⟩
 ·exact wpAny_Name (wpAny_loadName_local I.ok.kind hk hn hm fin) hd
 ·rcases hk with hk|hk
  ·exact wpAny_Name (wpAny_loadName_cell I.ok.kind hk hc hcell fin) hd
  ·exact wpAny_Name (wpAny_loadName_free I.ok.kind hk hc hcell fin hcd) hd
theorem Ze{i j pos}:PE X (.Constant (.int i) j pos) (tC (.int i)):=fun _ _ _ H _ I h=>wpAny_Constant_int ⟨.int i,H,I.tok _,⟨_,rfl⟩,h⟩
theorem Zae{b j pos}:PE X (.Constant (.bool b) j pos) (tC (.bl b)):=fun _ _ _ H _ I h=>Constant_bool ⟨.bl b,H,I,rfl,h⟩
theorem ZjC{j pos}:PE X (.Constant .none j pos) (tC .non):=fun _ _ _ H _ I h=>Constant_none ⟨.non,H,I,rfl,h⟩
theorem Zha{x j pos}:PE X (.Constant (.str x) j pos) (tC (.str x)):=fun _ _ _ H _ I h=>Calls.Constant_str ⟨.str x,H,I.tok _,⟨_,rfl⟩,h⟩
def Gl(X:Cx)(x:Str):Prop:=X.env.kindOf x=some .globalImplicit
theorem Zlm{E:Value→Shared→Prop}{pins:List (Addr×Obj)}{s:Shared}{σ:St}{H:Hp}{x:Str}{u:Value}{pos:Pos}{Q:Value→Shared→Prop}(I:Inv X pins σ H s)(hg:Gl X x)(hm:X.mg x=some u)(h:Q u s)
  (hd:(x == ("__debug__" : Str))=false:=by decide):wpAny (model X.prog X.w) X.A (eval (.Name x pos) X.env) Q E s :=
 Calls.Name_function_global I.ok.kind hg (Calls.loadGlobal_global (by rw[I.ok.glob];exact I.mod.glob.keeps I.bk) hm h) hd
theorem Zdz{E:Value→Shared→Prop}{pins:List (Addr×Obj)}{s:Shared}{σ:St}{H:Hp}{x:Str}{u:Value}{pos:Pos}{Q:Value→Shared→Prop}(I:Inv X pins σ H s)(hg:Gl X x)(hm:X.mg x=none)(hv:bootBuiltins x=some u)(h:Q u s)
  (hn:x ≠ "__name__":=by decide) (hd:(x == ("__debug__" : Str))=false:=by decide):wpAny (model X.prog X.w) X.A (eval (.Name x pos) X.env) Q E s:=by
 obtain⟨mb,h1,h2⟩:=I.mod.blt
 exact Calls.Name_function_global I.ok.kind hg (Calls.loadGlobal_builtin (by rw[I.ok.glob];exact I.mod.glob.keeps I.bk) hm (by rw[I.ok.blt];exact h1.keeps I.bk) ((h2 x hn).trans hv) h) hd
theorem Zkj{x:Str}{v:V}{u:Value}{pos:Pos}(hg:Gl X x)(hm:X.mg x=none)(hv:bootBuiltins x=some u)(r:ZK v u)(hn:x ≠ "__name__":=by decide)(hd:(x == ("__debug__" : Str))=false:=by decide):PE X (.Name x pos) (tC v) :=
 fun _ _ _ H _ I h=>Zdz I hg hm hv ⟨v,H,I,r,h⟩ hn hd
variable {a b:Expr} {ta tb:TE} {pos:Pos}
def tB(t:TE):TT:=fun σ H Q=>t σ H fun x H1=>∃c,x=.bl c∧Q c H1
theorem Zaf{e:Expr}{t:TE}(h:PE X e t)(he:∀whole,isTrue e X.env whole=(do let v ← whole;standAt e.pos;holding [v] (truthy v)):=by intro _;rfl):PT X e (tB t):=by
 intro pins s σ H Q I hw
 refine isTrue_plain (thn (h pins s σ H _ I hw) ?_) (he _)
 rintro v s1 ⟨x,H1,I1,r1,q1⟩
 obtain⟨d,rfl,q⟩:=q1
 cases r1
 exact wpAny_truthy_bool ⟨H1,I1,q⟩
variable {tA tB':TT} {rest:List Expr}
def Zn4(t u:TT):TT:=fun σ H Q=>t σ H fun c H1=>if c=true then u σ H1 Q else Q false H1
def tOr(t u:TT):TT:=fun σ H Q=>t σ H fun c H1=>if c=true then Q true H1 else u σ H1 Q
def ZnK(t:TT):TT:=fun σ H Q=>t σ H fun c H1=>Q (!c) H1
theorem Zlk(ha:PT X a tA):PW X (.BoolOp .And [a] pos) tA:=by
 intro wh pins s σ H Q I h
 refine isTrue_and (thn (ha pins s σ H Q I h) fun c s1 e=>?_)
 cases c with
 | true=>exact isTrue_and_nil e
 | false=>exact e
theorem ZbJ(ha:PT X a tA):PW X (.BoolOp .Or [a] pos) tA:=by
 intro wh pins s σ H Q I h
 refine isTrue_or (thn (ha pins s σ H Q I h) fun c s1 e=>?_)
 cases c with
 | false=>exact isTrue_or_nil e
 | true=>exact e
theorem Zmb(ha:PT X a tA)(hb:PW X (.BoolOp .And (b::rest) pos) tB'):PW X (.BoolOp .And (a::b::rest) pos) (Zn4 tA tB'):=by
 intro wh pins s σ H Q I h
 refine isTrue_and (thn (ha pins s σ H _ I h) ?_)
 rintro c s1 ⟨H1,I1,q1⟩
 cases c with
 | true=>exact hb wh pins s1 σ H1 Q I1 q1
 | false=>exact⟨H1,I1,q1⟩
theorem Zcd(ha:PT X a tA)(hb:PW X (.BoolOp .Or (b::rest) pos) tB'):PW X (.BoolOp .Or (a::b::rest) pos) (tOr tA tB'):=by
 intro wh pins s σ H Q I h
 refine isTrue_or (thn (ha pins s σ H _ I h) ?_)
 rintro c s1 ⟨H1,I1,q1⟩
 cases c with
 | true=>exact⟨H1,I1,q1⟩
 | false=>exact hb wh pins s1 σ H1 Q I1 q1
theorem ZaO(ha:PT X a tA):PT X (.UnaryOp .Not a pos) (ZnK tA):=by
 intro pins s σ H Q I h
 exact isTrue_not (ha pins s σ H (fun c H1=>Q (!c) H1) I h)
def Zno(ta tb:TE):TE:=fun σ H Q=>ta σ H fun x H1=>∃c,x=.bl c∧if c=true then tb σ H1 Q else Q (.bl false) H1
def Zm1(ta:TE):TE:=fun σ H Q=>ta σ H fun x H1=>∃c,x=.bl c∧Q (.bl (!c)) H1
theorem Zej{op}{t:TE}(h:PE X a t):PE X (.BoolOp op [a] pos) t:=fun pins s σ H Q I hw=>BoolOp_one (h pins s σ H Q I hw)
theorem Zdt(ha:PE X a ta)(hb:PE X (.BoolOp .And (b::rest) pos) tb):PE X (.BoolOp .And (a::b::rest) pos) (Zno ta tb):=by
 intro pins s σ H Q I h
 refine BoolOp_and (thn (ha pins s σ H _ I h) ?_)
 rintro v s1 ⟨x,H1,I1,r1,q1⟩
 obtain⟨c,rfl,q1⟩:=q1
 cases r1
 refine wpAny_truthy_bool ?_
 cases c with
 | true=>exact hb pins s1 σ H1 Q I1 q1
 | false=>exact⟨.bl false,H1,I1,rfl,q1⟩
theorem Zhd(ha:PE X a ta):PE X (.UnaryOp .Not a pos) (Zm1 ta):=by
 intro pins s σ H Q I h
 refine UnaryOp_ (thn (ha pins s σ H _ I h) ?_)
 rintro v s1 ⟨x,H1,I1,r1,q1⟩
 obtain⟨c,rfl,q1⟩:=q1
 cases r1
 exact not_of (wpAny_truthy_bool ⟨.bl (!c),H1,I1,rfl,q1⟩)
def tIf(t:TT)(ta tb:TE):TE:=fun σ H Q=>t σ H fun c H1=>if c=true then ta σ H1 Q else tb σ H1 Q
theorem Zf5{c:Expr}(hc:PT X c tA)(ha:PE X a ta)(hb:PE X b tb):PE X (.IfExp c a b pos) (tIf tA ta tb):=by
 intro pins s σ H Q I h
 refine wpAny_IfExp (thn (hc pins s σ H _ I h) ?_)
 rintro d s1 ⟨H1,I1,q1⟩
 cases d with
 | true=>exact ha pins s1 σ H1 Q I1 q1
 | false=>exact hb pins s1 σ H1 Q I1 q1
end
def SqL(K:PySem.W.Frag)(H:Hp)(a:Addr)(xs:List V):Prop :=
 Rd H a (.lst xs) ∨
  ∃ (o:Obj) (its:Array Value) (n:Nat),K.lookup a=some o∧o.cls=.type "list"∧o.dict=none∧o.data=.seq its n∧its.size≤sizeLine∧Zy xs its.toList
def SqT(K:PySem.W.Frag)(H:Hp)(a:Addr)(xs:List V):Prop :=
 Rd H a (.tup xs) ∨
  ∃ (o:Obj) (its:Array Value) (n:Nat),K.lookup a=some o∧o.cls=.type "tuple"∧o.data=.seq its n∧its.size≤sizeLine∧Zy xs its.toList
def ZnF:Value→Option V
 | .none=>some .non
 | .bool b=>some (.bl b)
 | .int i _=>some (.int i)
 | .str x _=>some (.str x)
 | .bytes b _=>some (.byt b)
 | .float b _=>some (.flt b)
 | .ref a=>some (.ref a)
 | .type n=>some (.ty n)
 | _=>none
theorem ZK.abs{x:V}{u:Value}(r:ZK x u):ZnF u=some x:=by
 cases x with
 | non=>cases r;rfl
 | bl _=>cases r;rfl
 | int _=>obtain⟨t,rfl⟩:=r;rfl
 | str _=>obtain⟨t,rfl⟩:=r;rfl
 | byt _=>obtain⟨t,rfl⟩:=r;rfl
 | flt _=>obtain⟨t,rfl⟩:=r;rfl
 | ref _=>cases r;rfl
 | ty _=>cases r;rfl
theorem ZK.inj{x y:V}{u:Value}(r:ZK x u)(q:ZK y u):x=y:=QS (r.abs.symm.trans q.abs)
theorem Zy.inj:∀ {xs ys:List V} {us:List Value},Zy xs us→Zy ys us→xs=ys
 | _,_,_,.nil,.nil=>rfl
 | _,_,_,.cons r t,.cons r' t'=>by rw[r.inj r',Zy.inj t t']
section
variable {X:Cx} {pins:List (Addr×Obj)} {σ:St} {H:Hp} {s:Shared} {a:Addr} {xs ys:List V}
theorem SqL.of{K:PySem.W.Frag}(h:H a=some (.lst xs)):SqL K H a xs:=.inl (.inl h)
theorem SqT.of{K:PySem.W.Frag}(h:H a=some (.tup xs)):SqT K H a xs:=.inl (.inl h)
theorem Inv.list(I:Inv X pins σ H s)(h:SqL X.K H a xs):∃its:List Value,Zy xs its∧PlainL s.heap a its.toArray∧xs.length≤sizeLine:=by
 rcases h with h|⟨o,its,n,hk,hc,hd,hs,hz,r⟩
 ·obtain⟨z,its,n,r,e⟩:=h.ok I.hok
  exact⟨its,r,⟨_,n,e,rfl,rfl,rfl⟩,z⟩
 ·refine⟨its.toList,r,⟨o,n,I.kIn a o hk,hc,hd,by simpa using hs⟩,?_⟩
  have e:=r.length
  simp only[Array.length_toList]at e
  omega
theorem Inv.tuple(I:Inv X pins σ H s)(h:SqT X.K H a xs):∃its:List Value,Zy xs its∧IsTup s.heap a its.toArray∧xs.length≤sizeLine:=by
 rcases h with h|⟨o,its,n,hk,hc,hs,hz,r⟩
 ·obtain⟨z,its,r,p⟩:=h.ok I.hok
  exact⟨its,r,p,z⟩
 ·refine⟨its.toList,r,⟨o,I.kIn a o hk,hc,n,by simpa using hs⟩,?_⟩
  have e:=r.length
  simp only[Array.length_toList]at e
  omega
theorem Inv.list_inj(I:Inv X pins σ H s)(h:SqL X.K H a xs)(h':SqL X.K H a ys):xs=ys:=by
 obtain⟨its,r,⟨o,n,e,_,_,d⟩,_⟩:=I.list h
 obtain⟨its',r',⟨o',n',e',_,_,d'⟩,_⟩:=I.list h'
 rw[e]at e';cases e'
 rw[d]at d'
 injection d' with d1 _
 have:its=its':=by simpa using congrArg Array.toList d1
 subst this
 exact r.inj r'
theorem Inv.tuple_inj(I:Inv X pins σ H s)(h:SqT X.K H a xs)(h':SqT X.K H a ys):xs=ys:=by
 obtain⟨its,r,⟨o,e,_,n,d⟩,_⟩:=I.tuple h
 obtain⟨its',r',⟨o',e',_,n',d'⟩,_⟩:=I.tuple h'
 rw[e]at e';cases e'
 rw[d]at d'
 injection d' with d1 _
 have:its=its':=by simpa using congrArg Array.toList d1
 subst this
 exact r.inj r'
end
abbrev Cx.wish(X:Cx)(E:Value→Shared→Prop):Cx:={ X with xe:=E }
abbrev Cx.nox(X:Cx):Cx:=X.wish fun _ _=>False
theorem Cx.Ok.wish{X:Cx}(ok:X.Ok)(E:Value→Shared→Prop):(X.wish E).Ok :=
 ⟨ok.mod,ok.kind,ok.glob,ok.blt,ok.above,ok.inj,ok.has,ok.cab,ok.hd,ok.frames,ok.stk,ok.exf,ok.bs,ok.bsz,ok.noex,ok.exfs,ok.funs,ok.frf⟩
theorem Cx.Ok.unwish{X:Cx}{E:Value→Shared→Prop}(ok:(X.wish E).Ok):X.Ok :=
 ⟨ok.mod,ok.kind,ok.glob,ok.blt,ok.above,ok.inj,ok.has,ok.cab,ok.hd,ok.frames,ok.stk,ok.exf,ok.bs,ok.bsz,ok.noex,ok.exfs,ok.funs,ok.frf⟩
section
variable {X:Cx} {pins:List (Addr×Obj)} {σ:St} {H:Hp} {s:Shared} {E:Value→Shared→Prop}
theorem Inv.wish(I:Inv X pins σ H s)(E:Value→Shared→Prop):Inv (X.wish E) pins σ H s:=⟨I.ok.wish E,I.os,I.bare,I.base,I.loc,I.cell,I.free,I.freeC,I.pin,I.hok,I.len⟩
theorem Inv.unwish(I:Inv (X.wish E) pins σ H s):Inv X pins σ H s:=⟨I.ok.unwish,I.os,I.bare,I.base,I.loc,I.cell,I.free,I.freeC,I.pin,I.hok,I.len⟩
theorem SP.unwish{D:Zfc}{f:Flow}{s':Shared}(h:SP (X.wish E) pins D f s'):SP X pins D f s':=by
 cases f with
 | next=>obtain⟨σ',H',I,q⟩:=h;exact⟨σ',H',I.unwish,q⟩
 | brk=>obtain⟨σ',H',I,q⟩:=h;exact⟨σ',H',I.unwish,q⟩
 | cont=>obtain⟨σ',H',I,q⟩:=h;exact⟨σ',H',I.unwish,q⟩
 | ret u=>obtain⟨v,σ',H',I,r,q⟩:=h;exact⟨v,σ',H',I.unwish,r,q⟩
theorem PSs.nox{st:List Stmt}{t:TS}(h:PSs X.nox st t):PSs X st t:=fun pins s σ H D I hw =>
 wpAny_mono (h pins s σ H D (I.wish _) hw) (fun _ _ q=>q.unwish) fun _ _ z=>False.elim z
end
section
variable {X:Cx} {st:Stmt} {rest:List Stmt} {t u:TS} {e:Expr} {te:TE} {pos:Pos}
def ZmW:TS:=fun D σ H=>D.nx σ H
def ZnN(t u:TS):TS:=fun D σ H=>t { D with nx:=u D } σ H
theorem ZD:PSs X [] ZmW:=fun _ _ σ H _ I h=>wpAny_execs_nil ⟨σ,H,I,h⟩
theorem Zh(h1:PS X st t)(h2:PSs X rest u):PSs X (st::rest) (ZnN t u):=by
 intro pins s σ H D I h
 refine wpAny_execs_cons (thn (h1 pins s σ H { D with nx:=u D } I h) fun f s1 q=>?_)
 cases f with
 | next =>
  obtain⟨σ',H',I',q⟩:=q
  exact h2 pins s1 σ' H' D I' q
 | ret v=>exact q
 | brk=>exact q
 | cont=>exact q
theorem Zi(h1:PS X st t):PSs X [st] t:=by
 intro pins s σ H D I h
 refine wpAny_execs_cons (thn (h1 pins s σ H D I h) fun f s1 q=>?_)
 cases f with
 | next=>exact wpAny_execs_nil q
 | ret v=>exact q
 | brk=>exact q
 | cont=>exact q
theorem Inv.quiet{pins:List (Addr×Obj)}{σ:St}{H:Hp}{s:Shared}(I:Inv X pins σ H s):interactive X.env=false:=by simp[interactive,I.ok.kind]
def Zm6(te:TE):TS:=fun D σ H=>te σ H fun _ H1=>D.nx σ H1
theorem Zbz(he:PE X e te)(hs:swapsWith e none pos.line X.env=pure false:=by rfl):PS X (.Expr e pos) (Zm6 te):=by
 intro pins s σ H D I h
 exact wpAny_Expr_any (thn (he pins s σ H _ I h) fun v s1 ⟨x,H1,I1,r1,q1⟩=>⟨σ,H1,I1,q1⟩) I.quiet hs
def Zn1(te:TE):TS:=fun D σ H=>te σ H D.rt
theorem Zl(he:PE X e te):PS X (.Return (some e) pos) (Zn1 te):=by
 intro pins s σ H D I h
 exact wpAny_Return_some (thn (he pins s σ H _ I h) fun v s1 ⟨x,H1,I1,r1,q1⟩=>⟨x,σ,H1,I1,r1,q1⟩)
def ZnE(c:TT)(t u:TS):TS:=fun D σ H=>c σ H fun b H1=>if b=true then t D σ H1 else u D σ H1
theorem ZZ{c:Expr}{a b:List Stmt}{tc:TT}(hc:PT X c tc)(ha:PSs X a t)(hb:PSs X b u):PS X (.If c a b pos) (ZnE tc t u):=by
 intro pins s σ H D I h
 refine wpAny_If (thn (hc pins s σ H _ I h) ?_)
 rintro d s1 ⟨H1,I1,q1⟩
 cases d with
 | true=>exact ha pins s1 σ H1 D I1 q1
 | false=>exact hb pins s1 σ H1 D I1 q1
end
abbrev TG:=V→St→Hp→(St→Hp→Prop)→Prop
abbrev TGs:=List V→St→Hp→(St→Hp→Prop)→Prop
def PG(X:Cx)(target:Expr)(t:TG):Prop :=
 ∀ (pins:List (Addr×Obj)) (s:Shared) (σ:St) (H:Hp) (v:V) (u:Value) (Q:St→Hp→Prop),Inv X pins σ H s→ZK v u→t v σ H Q →
  wpAny (model X.prog X.w) X.A (assign target X.env u) (fun _ s'=>∃σ' H',Inv X pins σ' H' s'∧Q σ' H') X.xe s
def PGs(X:Cx)(ts:List Expr)(t:TGs):Prop :=
 ∀ (pins:List (Addr×Obj)) (s:Shared) (σ:St) (H:Hp) (vs:List V) (us:List Value) (Q:St→Hp→Prop),Inv X pins σ H s→Zy vs us→t vs σ H Q →
  wpAny (model X.prog X.w) X.A (assignInOrder ((assignEach ts X.env).map (·.2)) us) (fun _ s'=>∃σ' H',Inv X pins σ' H' s'∧Q σ' H') X.xe s
abbrev ZkY:=V→V→V→Hp→(Hp→Prop)→Prop
def Zlt(X:Cx)(t:ZkY):Prop :=
 ∀ (pins:List (Addr×Obj)) (s:Shared) (σ:St) (H:Hp) (o i v:V) (ov iv u:Value) (Q:Hp→Prop),Inv X pins σ H s→ZK o ov→ZK i iv→ZK v u→t o i v H Q →
  wpAny (model X.prog X.w) X.A (setItem ov iv u) (fun _ s'=>∃H',Inv X pins σ H' s'∧Q H') X.xe s
abbrev TIp:=V→V→Hp→VK→Prop
def PIp(X:Cx)(op:Operator)(t:TIp):Prop :=
 ∀ (pins:List (Addr×Obj)) (s:Shared) (σ:St) (H:Hp) (x y:V) (v u:Value) (Q:VK),Inv X pins σ H s→ZK x v→ZK y u→t x y H Q →
  wpAny (model X.prog X.w) X.A (inplaceOp op v u) (EP X pins σ Q) X.xe s
section
variable {X:Cx} {pos:Pos}
def ZfF(i:Nat):TG:=fun v σ H Q=>Q (σ.set i (some v)) H
theorem Zx{i:Nat}{x:Str}(hN:X.N.Nodup)(hi:X.N[i]? = some x)(hx:Loc X.env.scope x)(hf:X.fn x=true∨X.env.scope.names.lookup x=some .local:=by first|exact .inl rfl|exact .inr rfl|assumption):PG X (.Name x pos) (ZfF i):=by
 intro pins s σ H v u Q I r h
 exact wpAny_assign_Name (Zcu I hN hi hx r (fun s' I'=>⟨_,H,I',h⟩) hf)
def ZnZ:TGs:=fun vs σ H Q=>vs=[]∧Q σ H
def ZmV(t:TG)(u:TGs):TGs:=fun vs σ H Q=>∃v r,vs=v::r∧t v σ H fun σ' H'=>u r σ' H' Q
theorem ZaH:PGs X [] ZnZ:=by
 intro pins s σ H vs us Q I r h
 obtain⟨e,h⟩:=h
 subst e
 cases r
 exact assignInOrder_nil ⟨σ,H,I,h⟩
theorem Zz{e:Expr}{es:List Expr}{t:TG}{u:TGs}(h1:PG X e t)(h2:PGs X es u)
  (hs:(assignEach (e::es) X.env).map (·.2)=assign e X.env::(assignEach es X.env).map (·.2):=by rfl):PGs X (e::es) (ZmV t u):=by
 intro pins s σ H vs us Q I r h
 obtain⟨v,vr,e1,h⟩:=h
 subst e1
 cases r with
 | cons r rr =>
  rw[hs]
  refine assignInOrder_cons (thn (h1 pins s σ H _ _ _ I r h) ?_)
  rintro _ s1 ⟨σ1,H1,I1,q1⟩
  exact h2 pins s1 σ1 H1 _ _ Q I1 rr q1
def Zny(K:PySem.W.Frag)(n:Nat)(t:TGs):TG:=fun v σ H Q=>∃a xs,v=.ref a∧SqT K H a xs∧xs.length=n∧t xs σ H Q
theorem Zmk{es:List Expr}{k:Nat}{t:TGs}{n:Nat}(hc:X.calm=true)(h:PGs X es t)
  (hn:(assignEach es X.env).length=n:=by rfl) (hst:(assignEach es X.env).findIdx? (·.1)=none:=by rfl):PG X (.Tuple es k pos) (Zny X.K n t):=by
 intro pins s σ H v u Q I r hw
 obtain⟨a,xs,e1,hq,hl,hw⟩:=hw
 subst e1
 cases r
 obtain⟨its,rv,ht,hz⟩:=I.tuple hq
 refine assign_Tuple_tuple (I.ok.hd hc) ht (by simp[hn,← hl,rv.length]) hst fun h' hx=>?_
 have I1:Inv X pins σ H { s with heap:=h' }:=I.kept (t':=s.toks) fun b o e=>hx b o (Qv (Qk e)) e
 exact h pins _ σ H xs _ Q I1 (by simpa using rv) hw
def Zn3(to ti:TE)(t:ZkY):TG:=fun v σ H Q=>to σ H fun o H1=>ti σ H1 fun i H2=>t o i v H2 fun H3=>Q σ H3
theorem ZgS{o i:Expr}{to ti:TE}{t:ZkY}(ho:PE X o to)(hi:PE X i ti)(hs:Zlt X t)
  (ha:∀v,assign (.Subscript o i pos) X.env v=(do
   let ov ← holding [v] (eval o X.env)
   let iv ← holding [v,ov] (eval i X.env)
   standAt pos
   holding [v,ov,iv] (setItem ov iv v)
   release [v,ov,iv] []):=by intro _;rfl):PG X (.Subscript o i pos) (Zn3 to ti t):=by
 intro pins s σ H v u Q I r h
 rw[ha]
 refine wpAny_bind (wpAny_holding (thn (ho pins s σ H _ I h) ?_))
 rintro ov s1 ⟨x,H1,I1,r1,q1⟩
 refine wpAny_bind (wpAny_holding (thn (hi pins s1 σ H1 _ I1 q1) ?_))
 rintro iv s2 ⟨y,H2,I2,r2,q2⟩
 refine wpAny_bind (wpAny_standAt (wpAny_bind (wpAny_holding (thn (hs pins s2 σ H2 x y v ov iv u _ I2 r1 r2 r q2) ?_))))
 rintro _ s3 ⟨H3,I3,q3⟩
 exact wpAny_release ⟨σ,H3,I3,q3⟩
def ZkS(te:TE)(g:TG):TS:=fun D σ H=>te σ H fun x H1=>g x σ H1 D.nx
theorem Zcf{tg e:Expr}{te:TE}{g:TG}(he:PE X e te)(hg:PG X tg g)(hs:swapsWithSole [tg] e pos.line X.env=pure false:=by rfl)(hw:swappedStores [tg] e X.env=pure none:=by rfl)
  (h1:(assignEach [tg] X.env).map (·.2)=[assign tg X.env]:=by rfl):PS X (.Assign [tg] e pos) (ZkS te g):=by
 intro pins s σ H D I h
 refine wpAny_Assign_stores (thn (he pins s σ H _ I h) ?_) hs hw
 rintro v s1 ⟨x,H1,I1,r1,q1⟩
 rw[h1]
 exact thn (hg pins s1 σ H1 x v _ I1 r1 q1) fun _ s2 q=>q
theorem Zw{i:Nat}{x:Str}{e:Expr}{te:TE}{pos':Pos}(hN:X.N.Nodup)(hi:X.N[i]? = some x)(hx:Loc X.env.scope x)(he:PE X e te)(hs:swapsWith e (some (.Name x pos')) pos.line X.env=pure false:=by rfl)(hf:X.fn x=true∨X.env.scope.names.lookup x=some .local:=by first|exact .inl rfl|exact .inr rfl|assumption) :
  PS X (.Assign [.Name x pos'] e pos) (ZkS te (ZfF i)):=by
 intro pins s σ H D I h
 refine wpAny_Assign_Name (thn (he pins s σ H _ I h) ?_) hs
 rintro v s1 ⟨y,H1,I1,r1,q1⟩
 exact Zcu I1 hN hi hx r1 (fun s2 I2=>⟨_,H1,I2,q1⟩) hf
def Zn6(i j:Nat)(ta:TA):TS:=fun D σ H=>ta σ H fun vs H1=>∃v w,vs=[v,w]∧D.nx ((σ.set i (some v)).set j (some w)) H1
theorem ZmA{i j:Nat}{x y:Str}{a b:Expr}{ta:TA}{px py pt:Pos}{kt k2 pt2}(hc:X.calm=true)(hN:X.N.Nodup)(hi:X.N[i]? = some x)(hj:X.N[j]? = some y)(hij:i≠j)
  (hx:X.env.scope.names.lookup x=some .local) (hy:X.env.scope.names.lookup y=some .local) (ha:PA X [a,b] ta)
  (hw:swappedStores [.Tuple [.Name x px,.Name y py] kt pt] (.Tuple [a,b] k2 pt2) X.env=pure (some [x,y]))
  (hs:swapsWithSole [.Tuple [.Name x px,.Name y py] kt pt] (.Tuple [a,b] k2 pt2) pos.line X.env=pure false:=by rfl) :
  PS X (.Assign [.Tuple [.Name x px,.Name y py] kt pt] (.Tuple [a,b] k2 pt2) pos) (Zn6 i j ta):=by
 intro pins s σ H D I h
 rw[exec_Assign_arm]
 refine wpAny_bind (wpAny_standAt ?_)
 rw[hs]
 refine wpAny_bind (wpAny_pure ?_)
 rw[if_neg (by decide)]
 refine wpAny_bind (Tuple_ (thn (ha _ pins s σ H _ I h) ?_))
 rintro us s1 ⟨vs,H1,I1,r1,q1⟩
 obtain⟨v,w,e1,q1⟩:=q1
 subst e1
 obtain⟨u1,u2,rfl,rv,rw'⟩:∃u1 u2,us=[u1,u2]∧ZK v u1∧ZK w u2:=by
  cases r1 with
  | cons p q =>
   cases q with
   | cons p' q' =>
    cases q'
    exact⟨_,_,rfl,p,p'⟩
 refine wpAny_newObj_type ?_ (by show 2≤sizeLine;decide)
 have I2:Inv X pins σ H1 { s1 with heap:=s1.heap.push { cls:=.type "tuple",data:=.seq [u1,u2].toArray } }:=I1.kept (t':=s1.toks) fun b o e=>Qa _ e
 rw[hw]
 refine wpAny_bind (wpAny_pure ?_)
 show wpAny (model X.prog X.w) X.A (do rule "assign.swapped-stores";let items ← unpackItems (.ref s1.heap.objs.size) 2 none;assignInOrder [fun v=>bindName X.env y v,fun v=>bindName X.env x v] items.reverse;pure Flow.next) _ _ _
 refine wpAny_bind (wpAny_rule (wpAny_bind (unpackItems_tuple (items:=#[u1,u2]) (I.ok.hd hc) (IsTup.new s1.heap _) fun h' hx'=>?_)))
 have I3:=I2.kept (h':=h') (t':=s1.toks) fun b o e=>hx' b o (Qv (Qk e)) e
 show wpAny _ _ (assignInOrder [fun v=>bindName X.env y v,fun v=>bindName X.env x v] [u2,u1] >>= fun _=>pure Flow.next) _ _ _
 refine wpAny_bind (assignInOrder_cons (wpAny_bindName (Zcu I3 hN hj (.inl hy) rw' (fun s2 I4=>?_) (.inr hy))))
 refine assignInOrder_cons (wpAny_bindName (Zcu I4 hN hi (.inl hx) rv (fun s3 I5=>assignInOrder_nil (wpAny_pure ?_)) (.inr hx)))
 rw[List.set_comm _ _ (Ne.symm hij)]at I5
 exact⟨_,H1,I5,q1⟩
def Zn2(i:Nat)(te:TE)(ti:TIp):TS:=fun D σ H=>∃x,σ[i]? = some (some x)∧te σ H fun y H1=>ti x y H1 fun z H2=>D.nx (σ.set i (some z)) H2
theorem Zjc{i:Nat}{x:Str}{e:Expr}{te:TE}{op:Operator}{ti:TIp}{pos':Pos}(hN:X.N.Nodup)(hi:X.N[i]? = some x)(hx:Loc X.env.scope x)(he:PE X e te)(ho:PIp X op ti)(hf:X.fn x=true∨X.env.scope.names.lookup x=some .local:=by first|exact .inl rfl|exact .inr rfl|assumption) :
  PS X (.AugAssign (.Name x pos') op e pos) (Zn2 i te ti):=by
 intro pins s σ H D I h
 obtain⟨v,e1,h⟩:=h
 obtain⟨m,hn,hl⟩:=I.loc
 have vis:Vis X.env.scope x:=by rcases hx with k|k;exact .inl k;exact .inr (.inl k)
 obtain⟨u,r,l⟩:=hl i x v hi e1 vis
 refine wpAny_AugAssign_Name ?_
 have go:wpAny (model X.prog X.w) X.A (eval e X.env) (fun w s₂=>wpAny (model X.prog X.w) X.A (inplaceOp op u w) (fun r s₃=>wpAny (model X.prog X.w) X.A (storeName X.env x r) (fun _=>SP X pins D .next) X.xe s₃) X.xe s₂) X.xe s:=by
  refine thn (he pins s σ H _ I h) ?_
  rintro w s1 ⟨y,H1,I1,r1,q1⟩
  refine thn (ho pins s1 σ H1 v y u w _ I1 r r1 q1) ?_
  rintro z s2 ⟨zv,H2,I2,r2,q2⟩
  exact Zcu I2 hN hi hx r2 (fun s3 I3=>⟨_,H2,I3,q2⟩) hf
 rcases l with⟨hk,hm⟩|⟨hk,c,hc,hcell⟩
 ·exact wpAny_loadName_local I.ok.kind hk hn hm go
 ·rcases hk with hk|hk
  ·exact wpAny_loadName_cell I.ok.kind hk hc hcell go
  ·rcases hx with k|k
   ·have:X.env.scope.names.lookup x=some .free:=hk
    rw[k]at this;cases this
   ·have:X.env.scope.names.lookup x=some .free:=hk
    rw[k]at this;cases this
def ipI(f:Int→Int→Int):TIp:=fun x y H Q=>∃i j,x=.int i∧y=.int j∧Q (.int (f i j)) H
theorem ZjS:PIp X .Add (ipI fun i j=>i+j):=by
 intro pins s σ H x y v u Q I r1 r2 h
 obtain⟨i,j,e1,e2,q⟩:=h
 subst e1;subst e2
 obtain⟨t,rfl⟩:=r1
 obtain⟨t',rfl⟩:=r2
 exact iadd_int ⟨.int _,H,I.tok _,⟨_,rfl⟩,q⟩
end
section
variable {X:Cx} {pos:Pos}
def Zmi(c:TT)(tb:TS):TS:=fun D σ H=>∃W:Nat→St→Hp→Prop,(∃m,W m σ H)∧∀m σ H,W m σ H →
 c σ H fun b H1=>if b=true then ∃N:St→Hp→Prop,(∀σ' H',N σ' H'→∃m',m'<m∧W m' σ' H')∧tb { D with nx:=N,ct:=N,bk:=D.nx } σ H1 else D.nx σ H1
theorem ZdZ{c:Expr}{body:List Stmt}{tc:TT}{tb:TS}(hp:PassesOwn (model X.prog X.w) X.A X.env X.xe)(hc:PT X c tc)(hb:PSs X body tb):PS X (.While c body [] pos) (Zmi tc tb):=by
 intro pins s σ H D I h
 obtain⟨W,⟨m0,w0⟩,turn⟩:=h
 refine wpAny_While (codeAny_whileLoop (fun n s'=>∃σ' H',Inv X pins σ' H' s'∧W n σ' H') ?_ m0 ⟨σ,H,I,w0⟩)
 rintro n s1 ⟨σ1,H1,I1,w1⟩
 refine wpAny_passesOwn hp (thn (hc pins s1 σ1 H1 _ I1 (turn n σ1 H1 w1)) ?_)
 rintro b s2 ⟨H2,I2,q2⟩
 cases b with
 | true =>
  obtain⟨N,hN,q2⟩:=q2
  rw[if_pos rfl]
  refine wpAny_passesOwn hp (thn (hb pins s2 σ1 H2 _ I2 q2) fun f s3 q3=>?_)
  cases f with
  | next =>
   obtain⟨σ3,H3,I3,n3⟩:=q3
   obtain⟨m',hm,w3⟩:=hN σ3 H3 n3
   exact⟨m',hm,σ3,H3,I3,w3⟩
  | cont =>
   obtain⟨σ3,H3,I3,n3⟩:=q3
   obtain⟨m',hm,w3⟩:=hN σ3 H3 n3
   exact⟨m',hm,σ3,H3,I3,w3⟩
  | brk=>exact q3
  | ret v=>exact q3
 | false =>
  rw[if_neg Qj]
  exact wpAny_execs_nil ⟨σ1,H2,I2,q2⟩
end
structure It where
 go:Nat→Hp→Prop
 yld:Nat→Hp→V→Hp→Prop
 stop:Nat→Hp→Prop
def Zcg(X:Cx)(pins:List (Addr×Obj))(H:Hp)(b:Addr):Prop :=
 H b=none∧b≠X.env.locals∧b ∉ X.fs∧(b∈X.ex∨X.s₀.heap.objs.size≤b)∧(∀x c,X.env.cells.lookup x=some c→c≠b)∧∀p∈X.pn++pins,p.1≠b
theorem Inv.fpOk{X:Cx}{pins:List (Addr×Obj)}{σ:St}{H H':Hp}{s:Shared}{b:Addr}(I:Inv X pins σ H s)(hb:s.heap.objs.size≤b)(hn:H' b=none):Zcg X pins H' b:=by
 refine⟨hn,QY (Qx I.lt hb),I.nofs hb,.inr (QL I.sz hb),fun x c e z=>?_,fun p hp z=>?_⟩
 ·obtain⟨v,q⟩:=I.cell x c e
  exact absurd (Qx q.lt (by rw[z];exact hb)) (Q0 _)
 ·exact absurd (Qx (Qk (I.pin p hp).1) (by rw[z];exact hb)) (Q0 _)
structure ZgR (P:Program) (w:World) (K:PySem.W.Frag) (tg:Expr) (J:It) (fp:List Addr) (it:Addr) (tn:Nat→Heap→Prop):Prop where
 mem:it∈fp
 obj:∀i h,tn i h→∀b∈fp,∃o,h.get? b=some o∧∀v,o.data≠.cell v
 keep:∀i h h',tn i h→(∀b∈fp,∀o,h.get? b=some o→h'.get? b=some o)→tn i h'
 item:∀ (X:Cx),X.prog=P→X.w=w→X.K=K→X.calm=true→∀ (i:Nat) (pins:List (Addr×Obj)) (s:Shared) (σ:St) (H:Hp) (E:Value→Shared→Prop),Inv X pins σ H s→(∀b∈fp,Zcg X pins H b)→tn i s.heap→J.go i H →
  wpAny (model P w) X.A (pyNext (.ref it)) (fun r s1=>∃u,r=some u ∧
   wpAny (model P w) X.A (letOwnedTupleGo tg (.ref it) u) (fun _ s2=>∃x H',Inv X pins σ H' s2∧ZK x u∧J.yld i H x H'∧tn (i+1) s2.heap∧∀b∈fp,H' b=none) E s1) E s
 done:∀ (X:Cx),X.prog=P→X.w=w→X.K=K→X.calm=true→∀ (i:Nat) (pins:List (Addr×Obj)) (s:Shared) (σ:St) (H:Hp) (E:Value→Shared→Prop),Inv X pins σ H s→(∀b∈fp,Zcg X pins H b)→tn i s.heap→J.stop i H →
  wpAny (model P w) X.A (pyNext (.ref it)) (fun r s1=>r=none∧Inv X pins σ H s1) E s
 self:∀ (A:Around) (i:Nat) (s:Shared) (Q:Value→Shared→Prop) (E:Value→Shared→Prop),tn i s.heap→Q (.ref it) s→wpAny (model P w) A (pyIter (.ref it)) Q E s
abbrev TI:=St→Hp→(It→Hp→Prop)→Prop
def PIE(X:Cx)(pins:List (Addr×Obj))(σ:St)(tg:Expr)(R:It→Hp→Prop)(itv:Value)(s2:Shared):Prop :=
 ∃ (it:Addr) (fp:List Addr) (tn:Nat→Heap→Prop) (J:It) (H':Hp),itv=.ref it∧Inv X pins σ H' s2∧ZgR X.prog X.w X.K tg J fp it tn∧tn 0 s2.heap∧(∀b∈fp,Zcg X pins H' b)∧R J H'
def PI(X:Cx)(tg iter:Expr)(wi:TI):Prop :=
 ∀ (pins:List (Addr×Obj)) (s:Shared) (σ:St) (H:Hp) (R:It→Hp→Prop),Inv X pins σ H s→wi σ H R →
  wpAny (model X.prog X.w) X.A (eval iter X.env) (fun v s1=>wpAny (model X.prog X.w) X.A (pyIter v) (PIE X pins σ tg R) X.xe s1) X.xe s
theorem ZhD{M:Model}{A:Around}{E:Value→Shared→Prop}{s:Shared}{tg:Expr}{it:Addr}{u:Value}{o:Obj}{n:String}{vs:Array Value}{Q:Unit→Shared→Prop}(ho:s.heap.get? it=some o)(hc:o.cls=.type n)(hd:o.data=.fields vs)
  (hn:["enumerate", "zip", "dict_itemiterator", "dict_reverseitemiterator", "odict_iterator", "itertools.zip_longest", "itertools.pairwise"].contains n=false) (hQ:Q () s):wpAny M A (letOwnedTupleGo tg (.ref it) u) Q E s:=by
 unfold letOwnedTupleGo
 cases tg<;>first
  | exact wpAny_pure hQ
  | (cases u<;>first
    | exact wpAny_pure hQ
    | (refine wpAny_bind (wpAny_load ho ?_);rw[hc,hd];show wpAny M A (if (["enumerate", "zip", "dict_itemiterator", "dict_reverseitemiterator", "odict_iterator", "itertools.zip_longest", "itertools.pairwise"].contains n&&vs[0]? == some (rawInt _))=true then _ else _) Q E s;rw[if_neg (by intro h;rw[hn,Bool.false_and]at h;cases h)];exact wpAny_pure hQ))
def Itl(K:PySem.W.Frag)(a:Addr):It :=
 ⟨fun i H=>∃xs x,SqL K H a xs∧xs[i]? = some x,fun i H x H'=>H'=H∧∀xs,SqL K H a xs→xs[i]? = some x,fun i H=>∃xs,SqL K H a xs∧xs.length≤i⟩
def Itt(K:PySem.W.Frag)(a:Addr):It :=
 ⟨fun i H=>∃xs x,SqT K H a xs∧xs[i]? = some x,fun i H x H'=>H'=H∧∀xs,SqT K H a xs→xs[i]? = some x,fun i H=>∃xs,SqT K H a xs∧xs.length≤i⟩
def Itr(lo:Int)(n:Nat):It:=⟨fun i _=>i<n,fun i H x H'=>H'=H∧x=.int (lo+i),fun i _=>n≤i⟩
theorem ZiM{P:Program}{w:World}{K:PySem.W.Frag}{tg:Expr}(a it:Addr):ZgR P w K tg (Itl K a) [it] it (fun i h=>h.IsListIter it a i) where
 mem:=by simp
 obj:=fun i h st b hb=>by
  have e:b=it:=by simpa using hb
  subst e
  obtain⟨o,e,c,d⟩:=st
  exact⟨o,e,fun v z=>by rw[d]at z;cases z⟩
 keep:=fun i h h' st k=>st.at fun o e=>k it (by simp) o e
 item:=by
  intro X hP hw hK hc i pins s σ H E I hf st hg
  subst hP hw hK
  obtain⟨xs,x,hq,hx⟩:=hg
  obtain⟨its,rv,p,hz⟩:=I.list hq
  obtain⟨u,hu,ru⟩:=rv.get hx
  obtain⟨f0,f1,f2,f3,f4,f5⟩:=hf it (by simp)
  refine wpAny_pyNext_list_item st p.isList (x:=u) (by simpa using hu) fun h' st' sb=>?_
  have I1:Inv X pins σ H { s with heap:=h' }:=I.turned (t':=s.toks) (fun b o hb e=>(sb.2 b hb).trans e) f0 f1 f3 f4 f5
  obtain⟨o,e,c,d⟩:=id st'
  exact⟨u,rfl,ZhD (s:={ s with heap:=h' }) e c d (by decide) ⟨x,H,I1,ru,⟨rfl,fun ys hy=>by rw[I.list_inj hy hq];exact hx⟩,st',fun b hb=>(hf b hb).1⟩⟩
 done:=by
  intro X hP hw hK hc i pins s σ H E I hf st hg
  subst hP hw hK
  obtain⟨xs,hq,hx⟩:=hg
  obtain⟨its,rv,p,hz⟩:=I.list hq
  obtain⟨f0,f1,f2,f3,f4,f5⟩:=hf it (by simp)
  have hl:=rv.length
  exact wpAny_pyNext_list_end (I.ok.hd hc) st p.isList (by simp;omega) fun h' eb=>⟨rfl,I.turned (t':=s.toks) (fun b o hb e=>eb b o hb e) f0 f1 f3 f4 f5⟩
 self:=fun _ _ _ _ _ st h=>wpAny_pyIter_listiter st h
theorem ZgU{P:Program}{w:World}{K:PySem.W.Frag}{tg:Expr}(a it:Addr):ZgR P w K tg (Itt K a) [it] it (fun i h=>h.IsTupleIter it a i) where
 mem:=by simp
 obj:=fun i h st b hb=>by
  have e:b=it:=by simpa using hb
  subst e
  obtain⟨o,e,c,d⟩:=st
  exact⟨o,e,fun v z=>by rw[d]at z;cases z⟩
 keep:=fun i h h' st k=>st.at fun o e=>k it (by simp) o e
 item:=by
  intro X hP hw hK hc i pins s σ H E I hf st hg
  subst hP hw hK
  obtain⟨xs,x,hq,hx⟩:=hg
  obtain⟨its,rv,p,hz⟩:=I.tuple hq
  obtain⟨u,hu,ru⟩:=rv.get hx
  obtain⟨f0,f1,f2,f3,f4,f5⟩:=hf it (by simp)
  refine wpAny_pyNext_tuple_item st (show s.heap.IsTuple a its.toArray from p) (x:=u) (by simpa using hu) fun h' st' sb=>?_
  have I1:Inv X pins σ H { s with heap:=h' }:=I.turned (t':=s.toks) (fun b o hb e=>(sb.2 b hb).trans e) f0 f1 f3 f4 f5
  obtain⟨o,e,c,d⟩:=id st'
  exact⟨u,rfl,ZhD (s:={ s with heap:=h' }) e c d (by decide) ⟨x,H,I1,ru,⟨rfl,fun ys hy=>by rw[I.tuple_inj hy hq];exact hx⟩,st',fun b hb=>(hf b hb).1⟩⟩
 done:=by
  intro X hP hw hK hc i pins s σ H E I hf st hg
  subst hP hw hK
  obtain⟨xs,hq,hx⟩:=hg
  obtain⟨its,rv,p,hz⟩:=I.tuple hq
  obtain⟨f0,f1,f2,f3,f4,f5⟩:=hf it (by simp)
  have hl:=rv.length
  exact wpAny_pyNext_tuple_end (I.ok.hd hc) st (show s.heap.IsTuple a its.toArray from p) (by simp;omega) fun h' eb=>⟨rfl,I.turned (t':=s.toks) (fun b o hb e=>eb b o hb e) f0 f1 f3 f4 f5⟩
 self:=fun _ _ _ _ _ st h=>wpAny_pyIter_tupleiter st h
theorem Zg9{P:Program}{w:World}{K:PySem.W.Frag}{tg:Expr}(it:Addr)(lo:Int)(n:Nat):ZgR P w K tg (Itr lo n) [it] it (fun i h=>IsRangeIter h it (lo+(i:Nat)*1) ((n:Int)-(i:Nat)) 1) where
 mem:=by simp
 obj:=fun i h st b hb=>by
  have e:b=it:=by simpa using hb
  subst e
  exact⟨_,st,fun v z=>by
   have z':Data.fields _=Data.cell v:=z
   cases z'⟩
 keep:=fun i h h' st k=>k it (by simp) _ st
 item:=by
  intro X hP hw hK hc i pins s σ H E I hf st hg
  subst hP hw hK
  obtain⟨f0,f1,f2,f3,f4,f5⟩:=hf it (by simp)
  have W:=Walks.range (prog:=X.prog) (w:=X.w) (I.ok.hd hc) it lo 1 n
  refine W.item i s _ _ hg st fun v h' tk hv st' kk=>?_
  obtain⟨t,rfl⟩:=hv
  have I1:Inv X pins σ H { s with heap:=h',toks:=tk }:=I.turned (fun b o hb e=>kk b o (by simpa using hb) e) f0 f1 f3 f4 f5
  refine⟨_,rfl,ZhD (s:={ s with heap:=h',toks:=tk }) (n := "range_iterator") st' rfl rfl (by decide) ⟨.int (lo+i),H,I1,⟨t,?_⟩,⟨rfl,rfl⟩,st',fun b hb=>(hf b hb).1⟩⟩
  rw[Int.mul_one]
 done:=by
  intro X hP hw hK hc i pins s σ H E I hf st hg
  subst hP hw hK
  obtain⟨f0,f1,f2,f3,f4,f5⟩:=hf it (by simp)
  exact wpAny_pyNext_range_end (I.ok.hd hc) st (by have:n≤i:=hg;omega) fun h' eb=>⟨rfl,I.turned (t':=s.toks) (fun b o hb e=>eb b o hb e) f0 f1 f3 f4 f5⟩
 self:=fun _ _ _ _ _ st h=>wpAny_pyIter_rangeiter st h
section
variable {X:Cx} {tg:Expr}
def ZlY(K:PySem.W.Frag)(tl:TE):TI:=fun σ H R=>tl σ H fun x H1=>∃a,x=.ref a∧(∃xs,SqL K H1 a xs)∧R (Itl K a) H1
def Znw(K:PySem.W.Frag)(tl:TE):TI:=fun σ H R=>tl σ H fun x H1=>∃a,x=.ref a∧(∃xs,SqT K H1 a xs)∧R (Itt K a) H1
theorem ZkT{l:Expr}{tl:TE}(hl:PE X l tl):PI X tg l (ZlY X.K tl):=by
 intro pins s σ H R I h
 refine thn (hl pins s σ H _ I h) ?_
 rintro v s1 ⟨x,H1,I1,r1,q1⟩
 obtain⟨a,e,⟨xs,hq⟩,q⟩:=q1
 subst e
 cases r1
 obtain⟨its,rv,p,hz⟩:=I1.list hq
 refine wpAny_pyIter_list p.isList ?_
 refine⟨s1.heap.objs.size,[s1.heap.objs.size],_,_,H1,rfl,I1.kept (t':=s1.toks) fun b o e=>Qa _ e,ZiM a _,⟨_,Qm _ rfl,rfl,rfl⟩,fun b hb=>?_,q⟩
 have e:b=s1.heap.objs.size:=by simpa using hb
 subst e
 exact I1.fpOk (Qd _) (I1.hok.fresh (Qd _))
theorem Zmc{l:Expr}{tl:TE}(hl:PE X l tl):PI X tg l (Znw X.K tl):=by
 intro pins s σ H R I h
 refine thn (hl pins s σ H _ I h) ?_
 rintro v s1 ⟨x,H1,I1,r1,q1⟩
 obtain⟨a,e,⟨xs,hq⟩,q⟩:=q1
 subst e
 cases r1
 obtain⟨its,rv,p,hz⟩:=I1.tuple hq
 refine wpAny_pyIter_tuple (show s1.heap.IsTuple a its.toArray from p) ?_
 refine⟨s1.heap.objs.size,[s1.heap.objs.size],_,_,H1,rfl,I1.kept (t':=s1.toks) fun b o e=>Qa _ e,ZgU a _,⟨_,Qm _ rfl,rfl,rfl⟩,fun b hb=>?_,q⟩
 have e:b=s1.heap.objs.size:=by simpa using hb
 subst e
 exact I1.fpOk (Qd _) (I1.hok.fresh (Qd _))
theorem Zgt{pins:List (Addr×Obj)}{σ:St}{H:Hp}{s:Shared}{R:It→Hp→Prop}{E:Value→Shared→Prop}{lo hi:Int}{t u v:Tok}{tk:Nat}(I:Inv X pins σ H s)(h1:-(2 ^ 62)≤lo)(h2:lo<2 ^ 62)(h3:-(2 ^ 62)≤hi)(h4:hi<2 ^ 62)
  (q:R (Itr lo (hi-lo).toNat) H):wpAny (model X.prog X.w) X.A (pyIter (.ref s.heap.objs.size)) (PIE X pins σ tg R) E { s with heap:=s.heap.push { cls:=.type "range",data:=.fields #[.int lo t,.int hi u,.int 1 v] },toks:=tk }:=by
 refine wpAny_pyIter_range (IsRange.new ..) (small_one h1 h2 h3 h4) ?_
 have I1:Inv X pins σ H { s with heap:=s.heap.push { cls:=.type "range",data:=.fields #[.int lo t,.int hi u,.int 1 v] },toks:=tk }:=I.kept fun b o e=>Qa _ e
 refine⟨(s.heap.push { cls:=.type "range",data:=.fields #[.int lo t,.int hi u,.int 1 v] }).objs.size,[(s.heap.push { cls:=.type "range",data:=.fields #[.int lo t,.int hi u,.int 1 v] }).objs.size],_,_,H,rfl,
  I1.kept (t':=tk) fun b o e=>Qa _ e,Zg9 _ lo (hi-lo).toNat,?_,fun b hb=>?_,q⟩
 ·have e1:lo+((0:Nat):Int)*1=lo:=by simp
  have e2:(((hi-lo).toNat:Nat):Int)-((0:Nat):Int)=Builtin.Range.rangeSize lo hi 1:=by rw[rangeSize_one];split<;>omega
  show IsRangeIter _ _ (lo+((0:Nat):Int)*1) ((((hi-lo).toNat:Nat):Int)-((0:Nat):Int)) 1
  rw[e1,e2]
  exact Qm _ rfl
 ·have e:b=(s.heap.push { cls:=.type "range",data:=.fields #[.int lo t,.int hi u,.int 1 v] }).objs.size:=by simpa using hb
  subst e
  exact I1.fpOk (Qd _) (I1.hok.fresh (Qd _))
def ZmU(ta:TA):TI:=fun σ H R=>ta σ H fun vs H1=>∃j:Int,vs=[.int j] ∧ -(2 ^ 62)≤j∧j<2 ^ 62∧R (Itr 0 j.toNat) H1
def Znk(ta:TA):TI:=fun σ H R=>ta σ H fun vs H1=>∃i j:Int,vs=[.int i,.int j]∧(-(2 ^ 62)≤i∧i<2 ^ 62 ∧ -(2 ^ 62)≤j∧j<2 ^ 62)∧R (Itr i (j-i).toNat) H1
theorem Zav{a:Expr}{ta:TA}{p pos:Pos}(hg:Gl X "range")(hm:X.mg "range" = none)(ha:PA X [a] ta)(hs:starEach [a] X.env=[(false,eval a X.env)]:=by rfl):PI X tg (.Call (.Name "range" p) [a] [] pos) (ZmU ta):=by
 intro pins s σ H R I h
 refine Call_ (Zdz I hg hm boot_range (Qah (thn (ha pos pins s σ H _ I h) ?_) hs rfl))
 rintro us s1 ⟨vs,H1,I1,r1,q1⟩
 obtain⟨j,e,q1,q2,q⟩:=q1
 subst e
 cases r1 with
 | cons r rr =>
  cases rr
  obtain⟨t,rfl⟩:=r
  exact call_range_1 (Zgt I1 (by omega) (by omega) q1 q2 (by simpa using q))
theorem Zay{a b:Expr}{ta:TA}{p pos:Pos}(hg:Gl X "range")(hm:X.mg "range" = none)(ha:PA X [a,b] ta)(hs:starEach [a,b] X.env=[(false,eval a X.env),(false,eval b X.env)]:=by rfl)(hs2:starEach [b] X.env=[(false,eval b X.env)]:=by rfl) :
  PI X tg (.Call (.Name "range" p) [a,b] [] pos) (Znk ta):=by
 intro pins s σ H R I h
 refine Call_ (Zdz I hg hm boot_range (Qah (thn (ha pos pins s σ H _ I h) ?_) (by rw[hs,hs2]) (by rw[hs2];rfl)))
 rintro us s1 ⟨vs,H1,I1,r1,q1⟩
 obtain⟨i,j,e,⟨q1,q2,q3,q4⟩,q⟩:=q1
 subst e
 cases r1 with
 | cons r rr =>
  cases rr with
  | cons r' rr =>
   cases rr
   obtain⟨t,rfl⟩:=r
   obtain⟨t',rfl⟩:=r'
   exact call_range_2 (Zgt I1 q1 q2 q3 q4 q)
def ZnO(wi:TI)(g:TG)(tb:TS):TS:=fun D σ H=>wi σ H fun J H1=>∃W:Nat→Nat→St→Hp→Prop,(∃m,W 0 m σ H1)∧∀i m σ H,W i m σ H →
 (J.stop i H∧D.nx σ H)∨(J.go i H∧∃N:St→Hp→Prop,(∀σ' H',N σ' H'→∃m',m'<m∧W (i+1) m' σ' H')∧∀x H',J.yld i H x H'→g x σ H' fun σ2 H2=>tb { D with nx:=N,ct:=N,bk:=D.nx } σ2 H2)
def Za9(fp:List Addr)(h:Heap):List (Addr×Obj):=fp.filterMap fun b=>(h.get? b).map fun o=>(b,o)
theorem Z5{fp:List Addr}{h:Heap}{b:Addr}{o:Obj}(hb:b∈fp)(e:h.get? b=some o):(b,o)∈Za9 fp h:=List.mem_filterMap.mpr ⟨b,hb,by rw[e];rfl⟩
theorem Zih{fp:List Addr}{h:Heap}{p:Addr×Obj}(hp:p∈Za9 fp h):p.1∈fp∧h.get? p.1=some p.2:=by
 obtain⟨b,hb,e⟩:=List.mem_filterMap.mp hp
 cases q:h.get? b with
 | none=>rw[q]at e;cases e
 | some o =>
  rw[q]at e
  have e':(b,o)=p:=QS e
  subst e'
  exact⟨hb,q⟩
theorem Inv.pinned{pins:List (Addr×Obj)}{σ:St}{H:Hp}{s:Shared}{fp:List Addr}(I:Inv X pins σ H s)(hf:∀b∈fp,Zcg X pins H b)(ho:∀b∈fp,∃o,s.heap.get? b=some o∧∀v,o.data≠.cell v):Inv X (pins++Za9 fp s.heap) σ H s :=
 I.pins_of fun p hp=>(Qt.mp hp).elim (fun z=>I.pin p (Qf _ z)) fun z=>by
  obtain⟨hb,e⟩:=Zih z
  obtain⟨f0,f1,f2,_⟩:=hf p.1 hb
  obtain⟨o,e',d⟩:=ho p.1 hb
  rw[e]at e';cases e'
  exact⟨e,f0,f1,f2,d⟩
theorem Inv.unpinned{pins pl:List (Addr×Obj)}{σ:St}{H:Hp}{s:Shared}(I:Inv X (pins++pl) σ H s):Inv X pins σ H s:=I.pins_of fun p hp=>I.pin p (Qf _ (QO _ hp))
theorem Zao{iter:Expr}{body:List Stmt}{wi:TI}{g:TG}{tb:TS}{pos:Pos}(hp:PassesOwn (model X.prog X.w) X.A X.env X.xe)(hc:X.calm=true)(hi:PI X tg iter wi)(hg:PG X tg g)(hb:PSs X body tb)
  (hs:∀x,foldedSetIterable iter X.env x=pure x:=by intro _;rfl):PS X (.For tg iter body [] pos) (ZnO wi g tb):=by
 intro pins s σ H D I h
 refine wpAny_For (thn (hi pins s σ H _ I h) fun v s1 h1=>thn h1 fun itv s2 h2=>?_) hs
 obtain⟨it,fp,tn,J,H2,e,I2,T,st2,f2,W,⟨m0,w0⟩,turn⟩:=h2
 subst e
 have stat:∀ {H':Hp},(∀b∈fp,H' b=none)→∀b∈fp,Zcg X pins H' b:=fun hn b hb=>⟨hn b hb,(f2 b hb).2⟩
 refine codeAny_forLoop_any (fun n s'=>∃i σ' H',Inv X pins σ' H' s'∧tn i s'.heap∧(∀b∈fp,H' b=none)∧W i n σ' H') ?_ m0 ⟨0,σ,H2,I2,st2,fun b hb=>(f2 b hb).1,w0⟩
 rintro n s3 ⟨i,σ3,H3,I3,st3,fr3,w3⟩
 rcases turn i n σ3 H3 w3 with⟨stop,qn⟩|⟨go,N,hN,step⟩
 ·refine wpAny_passesOwn hp (thn (T.done X rfl rfl rfl hc i pins s3 σ3 H3 X.xe I3 (stat fr3) st3 stop) ?_)
  rintro r s4 ⟨hr,I4⟩
  subst hr
  exact wpAny_execs_nil ⟨σ3,H3,I4,qn⟩
 ·refine wpAny_passesOwn hp (thn (T.item X rfl rfl rfl hc i pins s3 σ3 H3 X.xe I3 (stat fr3) st3 go) ?_)
  rintro r s4 ⟨u,hr,h4⟩
  subst hr
  refine wpAny_passesOwn hp (thn h4 ?_)
  rintro _ s5 ⟨x,H5,I5,r5,y5,st5,fr5⟩
  have I5':=I5.pinned (stat fr5) (T.obj _ _ st5)
  refine wpAny_passesOwn hp (thn (hg _ s5 σ3 H5 x u _ I5' r5 (step x H5 y5)) ?_)
  rintro _ s6 ⟨σ6,H6,I6,q6⟩
  refine wpAny_passesOwn hp (thn (hb _ s6 σ6 H6 _ I6 q6) fun f s7 q7=>?_)
  have again:∀ {σ7:St} {H7:Hp},Inv X (pins++Za9 fp s5.heap) σ7 H7 s7→N σ7 H7→∃m,m<n∧∃i σ' H',Inv X pins σ' H' s7∧tn i s7.heap∧(∀b∈fp,H' b=none)∧W i m σ' H':=fun {σ7 H7} I7 n7=>by
   obtain⟨m',hm,w7⟩:=hN σ7 H7 n7
   refine⟨m',hm,i+1,σ7,H7,I7.unpinned,T.keep _ _ _ st5 fun b hb o e=>(I7.pin (b,o) (Qf _ (Qf _ (Z5 hb e)))).1,fun b hb=>?_,w7⟩
   obtain⟨o,e,d⟩:=T.obj _ _ st5 b hb
   exact(I7.pin (b,o) (Qf _ (Qf _ (Z5 hb e)))).2.1
  cases f with
  | next=>obtain⟨σ7,H7,I7,n7⟩:=q7;exact again I7 n7
  | cont=>obtain⟨σ7,H7,I7,n7⟩:=q7;exact again I7 n7
  | brk=>obtain⟨σ7,H7,I7,q7⟩:=q7;exact⟨σ7,H7,I7.unpinned,q7⟩
  | ret v=>obtain⟨x7,σ7,H7,I7,r7,q7⟩:=q7;exact⟨x7,σ7,H7,I7.unpinned,r7,q7⟩
end
theorem Zdi{K:PySem.W.Frag}{a:Addr}{xs:List V}{g:TG}{tb:TS}{D:Zfc}{σ:St}{H:Hp}(Pv:Nat→St→Hp→Prop)(h0:Pv 0 σ H)(hl:∀i σ H,i≤xs.length→Pv i σ H→SqL K H a xs)
  (hs:∀i x σ H,xs[i]? = some x→Pv i σ H→g x σ H fun σ2 H2=>tb { D with nx:=Pv (i+1),ct:=Pv (i+1),bk:=D.nx } σ2 H2) (hd:∀σ H,Pv xs.length σ H→D.nx σ H) :
  ∃W:Nat→Nat→St→Hp→Prop,(∃m,W 0 m σ H)∧∀i m σ H,W i m σ H →
   ((Itl K a).stop i H∧D.nx σ H)∨((Itl K a).go i H∧∃N:St→Hp→Prop,(∀σ' H',N σ' H'→∃m',m'<m∧W (i+1) m' σ' H')∧∀x H',(Itl K a).yld i H x H'→g x σ H' fun σ2 H2=>tb { D with nx:=N,ct:=N,bk:=D.nx } σ2 H2):=by
 refine⟨fun i m σ H=>m=xs.length-i∧i≤xs.length∧Pv i σ H,⟨xs.length,by simp,Ql _,h0⟩,?_⟩
 rintro i m σ H ⟨rfl,hi,p⟩
 have q:=hl i σ H hi p
 by_cases hlt:i<xs.length
 ·refine .inr ⟨⟨xs,xs[i],q,by simp[hlt]⟩,Pv (i+1),fun σ' H' p'=>⟨xs.length-(i+1),by omega,rfl,hlt,p'⟩,fun x H' y=>?_⟩
  obtain⟨e,y⟩:=y
  subst e
  exact hs i x σ _ (y xs q) p
 ·have e:i=xs.length:=by omega
  subst e
  exact .inl ⟨⟨xs,q,Qd _⟩,hd σ H p⟩
theorem Ze0{K:PySem.W.Frag}{a:Addr}{xs:List V}{g:TG}{tb:TS}{D:Zfc}{σ:St}{H:Hp}(Pv:Nat→St→Hp→Prop)(h0:Pv 0 σ H)(hl:∀i σ H,i≤xs.length→Pv i σ H→SqT K H a xs)
  (hs:∀i x σ H,xs[i]? = some x→Pv i σ H→g x σ H fun σ2 H2=>tb { D with nx:=Pv (i+1),ct:=Pv (i+1),bk:=D.nx } σ2 H2) (hd:∀σ H,Pv xs.length σ H→D.nx σ H) :
  ∃W:Nat→Nat→St→Hp→Prop,(∃m,W 0 m σ H)∧∀i m σ H,W i m σ H →
   ((Itt K a).stop i H∧D.nx σ H)∨((Itt K a).go i H∧∃N:St→Hp→Prop,(∀σ' H',N σ' H'→∃m',m'<m∧W (i+1) m' σ' H')∧∀x H',(Itt K a).yld i H x H'→g x σ H' fun σ2 H2=>tb { D with nx:=N,ct:=N,bk:=D.nx } σ2 H2):=by
 refine⟨fun i m σ H=>m=xs.length-i∧i≤xs.length∧Pv i σ H,⟨xs.length,by simp,Ql _,h0⟩,?_⟩
 rintro i m σ H ⟨rfl,hi,p⟩
 have q:=hl i σ H hi p
 by_cases hlt:i<xs.length
 ·refine .inr ⟨⟨xs,xs[i],q,by simp[hlt]⟩,Pv (i+1),fun σ' H' p'=>⟨xs.length-(i+1),by omega,rfl,hlt,p'⟩,fun x H' y=>?_⟩
  obtain⟨e,y⟩:=y
  subst e
  exact hs i x σ _ (y xs q) p
 ·have e:i=xs.length:=by omega
  subst e
  exact .inl ⟨⟨xs,q,Qd _⟩,hd σ H p⟩
theorem Zam{lo:Int}{n:Nat}{g:TG}{tb:TS}{D:Zfc}{σ:St}{H:Hp}(Pv:Nat→St→Hp→Prop)(h0:Pv 0 σ H)
  (hs:∀i σ H,i<n→Pv i σ H→g (.int (lo+i)) σ H fun σ2 H2=>tb { D with nx:=Pv (i+1),ct:=Pv (i+1),bk:=D.nx } σ2 H2) (hd:∀σ H,Pv n σ H→D.nx σ H) :
  ∃W:Nat→Nat→St→Hp→Prop,(∃m,W 0 m σ H)∧∀i m σ H,W i m σ H →
   ((Itr lo n).stop i H∧D.nx σ H)∨((Itr lo n).go i H∧∃N:St→Hp→Prop,(∀σ' H',N σ' H'→∃m',m'<m∧W (i+1) m' σ' H')∧∀x H',(Itr lo n).yld i H x H'→g x σ H' fun σ2 H2=>tb { D with nx:=N,ct:=N,bk:=D.nx } σ2 H2):=by
 refine⟨fun i m σ H=>m=n-i∧i≤n∧Pv i σ H,⟨n,by simp,Ql _,h0⟩,?_⟩
 rintro i m σ H ⟨rfl,hi,p⟩
 by_cases hlt:i<n
 ·refine .inr ⟨hlt,Pv (i+1),fun σ' H' p'=>⟨n-(i+1),by omega,rfl,hlt,p'⟩,fun x H' y=>?_⟩
  obtain⟨e,y⟩:=y
  subst e y
  exact hs i σ _ hlt p
 ·have e:i=n:=by omega
  subst e
  exact .inl ⟨Qd _,hd σ H p⟩
abbrev R2:=V→V→Hp→VK→Prop
def OpR(X:Cx)(f:Value→Value→Sem Value)(r:R2):Prop :=
 ∀ (pins:List (Addr×Obj)) (s:Shared) (σ:St) (H:Hp) (x y:V) (v u:Value) (Q:VK),Inv X pins σ H s→ZK x v→ZK y u→r x y H Q →
  wpAny (model X.prog X.w) X.A (f v u) (EP X pins σ Q) X.xe s
def UnR(X:Cx)(f:Value→Sem Value)(r:V→Hp→VK→Prop):Prop :=
 ∀ (pins:List (Addr×Obj)) (s:Shared) (σ:St) (H:Hp) (x:V) (v:Value) (Q:VK),Inv X pins σ H s→ZK x v→r x H Q →
  wpAny (model X.prog X.w) X.A (f v) (EP X pins σ Q) X.xe s
def Z3(X:Cx)(f:Value)(r:List V→Hp→VK→Prop):Prop :=
 ∀ (pins:List (Addr×Obj)) (s:Shared) (σ:St) (H:Hp) (xs:List V) (us:List Value) (Q:VK),Inv X pins σ H s→Zy xs us→r xs H Q →
  wpAny (model X.prog X.w) X.A (call f us) (EP X pins σ Q) X.xe s
def tOp(r:R2)(ta tb:TE):TE:=fun σ H Q=>ta σ H fun x H1=>tb σ H1 fun y H2=>r x y H2 Q
def tUn(r:V→Hp→VK→Prop)(ta:TE):TE:=fun σ H Q=>ta σ H fun x H1=>r x H1 Q
def rI(C:Int→Int→Prop)(g:Int→Int→V):R2:=fun x y H Q=>∃i j,x=.int i∧y=.int j∧C i j∧Q (g i j) H
def rI0(g:Int→Int→V):R2:=fun x y H Q=>∃i j,x=.int i∧y=.int j∧Q (g i j) H
def rU(g:Int→V):V→Hp→VK→Prop:=fun x H Q=>∃i,x=.int i∧Q (g i) H
section
variable {X:Cx} {a b c:Expr} {ta tb tc:TE} {pos:Pos}
theorem ZmE(ha:PE X a ta)(hb:PE X b tb){pins:List (Addr×Obj)}{s:Shared}{σ:St}{H:Hp}{R:V→V→Hp→Prop}(I:Inv X pins σ H s)
  (h:ta σ H fun x H1=>tb σ H1 fun y H2=>R x y H2) {Q:Value→Shared→Prop} {f:Value→Value→Sem Value}
  (hf:∀v u s2 x y H2,Inv X pins σ H2 s2→ZK x v→ZK y u→R x y H2→wpAny (model X.prog X.w) X.A (f v u) Q X.xe s2) :
  wpAny (model X.prog X.w) X.A (eval a X.env) (fun v s₁=>wpAny (model X.prog X.w) X.A (eval b X.env) (fun u s₂=>wpAny (model X.prog X.w) X.A (f v u) Q X.xe s₂) X.xe s₁) X.xe s:=by
 refine thn (ha pins s σ H _ I h) ?_
 rintro v s1 ⟨x,H1,I1,r1,q1⟩
 refine thn (hb pins s1 σ H1 _ I1 q1) ?_
 rintro u s2 ⟨y,H2,I2,r2,q2⟩
 exact hf v u s2 x y H2 I2 r1 r2 q2
theorem Zq{op:Operator}{r:R2}(ho:OpR X (binaryOp op) r)(ha:PE X a ta)(hb:PE X b tb):PE X (.BinOp a op b pos) (tOp r ta tb):=by
 intro pins s σ H Q I h
 exact wpAny_BinOp (ZmE ha hb I h fun v u s2 x y H2 I2 rx ry q=>ho pins s2 σ H2 x y v u Q I2 rx ry q)
theorem ZlZ{op:UnaryOp}{r:V→Hp→VK→Prop}(ho:UnR X (unaryOp op) r)(ha:PE X a ta):PE X (.UnaryOp op a pos) (tUn r ta):=by
 intro pins s σ H Q I h
 exact UnaryOp_ (thn (ha pins s σ H _ I h) fun v s1 ⟨x,H1,I1,r1,q1⟩=>ho pins s1 σ H1 x v Q I1 r1 q1)
theorem opI{f:Value→Value→Sem Value}{C:Int→Int→Prop}{g:Int→Int→Int}
  (rule:∀ (i j:Int) (t u:Tok) (s:Shared) (Q:Value→Shared→Prop) (E:Value→Shared→Prop),C i j→Q (.int (g i j) s.toks) { s with toks:=s.toks+1 }→wpAny (model X.prog X.w) X.A (f (.int i t) (.int j u)) Q E s) :
  OpR X f (rI C fun i j=>.int (g i j)):=by
 intro pins s σ H x y v u Q I rx ry h
 obtain⟨i,j,rfl,rfl,hc,q⟩:=h
 obtain⟨t,rfl⟩:=rx
 obtain⟨t',rfl⟩:=ry
 exact rule i j t t' s _ _ hc ⟨.int (g i j),H,I.tok _,⟨_,rfl⟩,q⟩
theorem Znm{f:Value→Value→Sem Value}{g:Int→Int→Int}
  (rule:∀ (i j:Int) (t u:Tok) (s:Shared) (Q:Value→Shared→Prop) (E:Value→Shared→Prop),Q (.int (g i j) s.toks) { s with toks:=s.toks+1 }→wpAny (model X.prog X.w) X.A (f (.int i t) (.int j u)) Q E s) :
  OpR X f (rI0 fun i j=>.int (g i j)):=by
 intro pins s σ H x y v u Q I rx ry h
 obtain⟨i,j,rfl,rfl,q⟩:=h
 obtain⟨t,rfl⟩:=rx
 obtain⟨t',rfl⟩:=ry
 exact rule i j t t' s _ _ ⟨.int (g i j),H,I.tok _,⟨_,rfl⟩,q⟩
theorem ZkM{f:Value→Value→Sem Value}{g:Int→Int→Bool}
  (rule:∀ (i j:Int) (t u:Tok) (s:Shared) (Q:Value→Shared→Prop) (E:Value→Shared→Prop),Q (.bool (g i j)) s→wpAny (model X.prog X.w) X.A (f (.int i t) (.int j u)) Q E s) :
  OpR X f (rI0 fun i j=>.bl (g i j)):=by
 intro pins s σ H x y v u Q I rx ry h
 obtain⟨i,j,rfl,rfl,q⟩:=h
 obtain⟨t,rfl⟩:=rx
 obtain⟨t',rfl⟩:=ry
 exact rule i j t t' s _ _ ⟨.bl (g i j),H,I,rfl,q⟩
def ZnR(i j:Int):Prop:=0<j∧j<1073741824
def ZmL(i j:Int):Prop:=0≤j∧j≤1000000∧i.natAbs<2 ^ 64
def ZmI(i j:Int):Prop:=(-(2 ^ 64)<i∧i<2 ^ 64)∨(-(2 ^ 64)<j∧j<2 ^ 64)
theorem ZmI.ok{i j:Int}(h:ZmI i j):IntMulOk i j:=by
 rcases h with⟨h1,h2⟩|⟨h1,h2⟩
 ·exact .of_left (intBits_le_64 h1 h2)
 ·exact .of_right (intBits_le_64 h1 h2)
theorem ZM:OpR X (binaryOp .Add) (rI0 fun i j=>.int (i+j)):=Znm fun _ _ _ _ _ _ _ q=>add_int q
theorem ZbL:OpR X (binaryOp .Sub) (rI0 fun i j=>.int (i-j)):=Znm fun _ _ _ _ _ _ _ q=>sub_int q
theorem Zcr:OpR X (binaryOp .Mult) (rI ZmI fun i j=>.int (i*j)):=opI fun _ _ _ _ _ _ _ hc q=>mul_int q hc.ok
theorem ZhO:OpR X (binaryOp .FloorDiv) (rI ZnR fun i j=>.int (i / j)):=opI fun i j _ _ _ _ _ hc q=>by
 have h1:(0:Int)<j:=hc.1
 have h2:j<1073741824:=hc.2
 exact floordiv_int (by omega) (by rw[Int.fdiv_eq_ediv_of_nonneg i (by omega)];exact q) (.inl (PyProof.noPylong_small (by omega)))
theorem Zdn:OpR X (binaryOp .Mod) (rI (fun _ j=>0<j) fun i j=>.int (i % j)):=opI fun i j _ _ _ _ _ hc q=>by
 have h1:(0:Int)<j:=hc
 exact mod_int' (by omega) (by rw[Int.fmod_eq_emod_of_nonneg i (by omega)];exact q)
theorem ZgA:OpR X (binaryOp .Pow) (rI ZmL fun i j=>.int (i ^ j.toNat)):=opI fun _ _ _ _ _ _ _ hc q=>pow_int_small hc.1 hc.2.1 hc.2.2 q
theorem unI{f:Value→Sem Value}{g:Int→Int}
  (rule:∀ (i:Int) (t:Tok) (s:Shared) (Q:Value→Shared→Prop) (E:Value→Shared→Prop),Q (.int (g i) s.toks) { s with toks:=s.toks+1 }→wpAny (model X.prog X.w) X.A (f (.int i t)) Q E s) :
  UnR X f (rU fun i=>.int (g i)):=by
 intro pins s σ H x v Q I rx h
 obtain⟨i,rfl,q⟩:=h
 obtain⟨t,rfl⟩:=rx
 exact rule i t s _ _ ⟨.int (g i),H,I.tok _,⟨_,rfl⟩,q⟩
theorem Zjg:UnR X (unaryOp .USub) (rU fun i=>.int (-i)):=unI fun _ _ _ _ _ q=>neg_int q
end
def Znr:V→V→Bool
 | .non,.non=>true|.non,.int _=>true|.int _,.non=>true|.non,.bl _=>true|.bl _,.non=>true|.non,.str _=>true|.str _,.non=>true
 | .int _,.int _=>true|.bl _,.bl _=>true|.str _,.str _=>true|.byt _,.byt _=>true
 | .int _,.str _=>true|.str _,.int _=>true|.bl _,.str _=>true|.str _,.bl _=>true
 | _,_=>false
def rEq:R2:=fun x y H Q=>Znr x y=true∧Q (.bl (decide (x=y))) H
def rNe:R2:=fun x y H Q=>Znr x y=true∧Q (.bl (!decide (x=y))) H
theorem ZhS{i j:Int}:decide (V.int i=V.int j)=(i == j):=by
 rw[QaR]
 simp
theorem Zjv{i j:Bool}:decide (V.bl i=V.bl j)=(i == j):=by
 rw[QaR]
 simp
theorem Zh1{i j:Str}:decide (V.str i=V.str j)=(i == j):=by
 rw[QaR]
 simp
theorem ZhT{i j:Array UInt8}:decide (V.byt i=V.byt j)=(i.toList == j.toList):=by
 rw[QaR]
 cases i
 cases j
 simp
section
variable {X:Cx} {a b c:Expr} {ta tb tc:TE} {pos:Pos}
theorem ZL{pins:List (Addr×Obj)}{σ:St}{H:Hp}{s:Shared}{Q:VK}{k k':Bool}(I:Inv X pins σ H s)(q:Q (.bl k) H)(e:k=k'):EP X pins σ Q (.bool k') s:=by
 subst e
 exact⟨.bl k,H,I,rfl,q⟩
theorem ZdK:OpR X (compareOp .Eq) rEq:=by
 intro pins s σ H x y v u Q I rx ry h
 obtain⟨hs,q⟩:=h
 cases x with
 | non =>
  cases rx
  cases y with
  | non=>cases ry;exact PySem.EqNone.eq_none_none (ZL I q (by simp))
  | bl j=>cases ry;exact PySem.EqNone.eq_none_bool (ZL I q (by simp))
  | int j=>obtain⟨t',rfl⟩:=ry;exact PySem.EqNone.eq_none_int (ZL I q (by simp))
  | str j=>obtain⟨t',rfl⟩:=ry;exact PySem.EqNone.eq_none_str (ZL I q (by simp))
  | _=>exact absurd (show false=true from hs) Qj
 | bl i =>
  cases rx
  cases y with
  | non=>cases ry;exact PySem.EqNone.eq_bool_none (ZL I q (by simp))
  | bl j=>cases ry;exact eq_bool (ZL I q Zjv)
  | str j=>obtain⟨t',rfl⟩:=ry;exact PySem.EqMixed.eq_bool_str (ZL I q (by simp))
  | _=>exact absurd (show false=true from hs) Qj
 | int i =>
  obtain⟨t,rfl⟩:=rx
  cases y with
  | non=>cases ry;exact PySem.EqNone.eq_int_none (ZL I q (by simp))
  | int j=>obtain⟨t',rfl⟩:=ry;exact eq_int (ZL I q ZhS)
  | str j=>obtain⟨t',rfl⟩:=ry;exact PySem.EqMixed.eq_int_str (ZL I q (by simp))
  | _=>exact absurd (show false=true from hs) Qj
 | str i =>
  obtain⟨t,rfl⟩:=rx
  cases y with
  | non=>cases ry;exact PySem.EqNone.eq_str_none (ZL I q (by simp))
  | bl j=>cases ry;exact PySem.EqMixed.eq_str_bool (ZL I q (by simp))
  | int j=>obtain⟨t',rfl⟩:=ry;exact PySem.EqMixed.eq_str_int (ZL I q (by simp))
  | str j=>obtain⟨t',rfl⟩:=ry;exact eq_str (ZL I q Zh1)
  | _=>exact absurd (show false=true from hs) Qj
 | byt i =>
  obtain⟨t,rfl⟩:=rx
  cases y with
  | byt j=>obtain⟨t',rfl⟩:=ry;exact PySem.W.eq_bytes (ZL I q ZhT)
  | _=>exact absurd (show false=true from hs) Qj
 | _=>cases y<;>exact absurd (show false=true from hs) Qj
theorem ZfH:OpR X (compareOp .NotEq) rNe:=by
 intro pins s σ H x y v u Q I rx ry h
 obtain⟨hs,q⟩:=h
 cases x with
 | non =>
  cases rx
  cases y with
  | non=>cases ry;exact PySem.EqNone.ne_none_none (ZL I q (by simp))
  | bl j=>cases ry;exact PySem.EqNone.ne_none_bool (ZL I q (by simp))
  | int j=>obtain⟨t',rfl⟩:=ry;exact PySem.EqNone.ne_none_int (ZL I q (by simp))
  | str j=>obtain⟨t',rfl⟩:=ry;exact PySem.EqNone.ne_none_str (ZL I q (by simp))
  | _=>exact absurd (show false=true from hs) Qj
 | bl i =>
  cases rx
  cases y with
  | non=>cases ry;exact PySem.EqNone.ne_bool_none (ZL I q (by simp))
  | bl j=>cases ry;exact ne_bool (ZL I q (congrArg not Zjv))
  | str j=>obtain⟨t',rfl⟩:=ry;exact PySem.EqMixed.ne_bool_str (ZL I q (by simp))
  | _=>exact absurd (show false=true from hs) Qj
 | int i =>
  obtain⟨t,rfl⟩:=rx
  cases y with
  | non=>cases ry;exact PySem.EqNone.ne_int_none (ZL I q (by simp))
  | int j=>obtain⟨t',rfl⟩:=ry;exact ne_int (ZL I q (congrArg not ZhS))
  | str j=>obtain⟨t',rfl⟩:=ry;exact PySem.EqMixed.ne_int_str (ZL I q (by simp))
  | _=>exact absurd (show false=true from hs) Qj
 | str i =>
  obtain⟨t,rfl⟩:=rx
  cases y with
  | non=>cases ry;exact PySem.EqNone.ne_str_none (ZL I q (by simp))
  | bl j=>cases ry;exact PySem.EqMixed.ne_str_bool (ZL I q (by simp))
  | int j=>obtain⟨t',rfl⟩:=ry;exact PySem.EqMixed.ne_str_int (ZL I q (by simp))
  | str j=>obtain⟨t',rfl⟩:=ry;exact ne_str (ZL I q (congrArg not Zh1))
  | _=>exact absurd (show false=true from hs) Qj
 | byt i =>
  obtain⟨t,rfl⟩:=rx
  cases y with
  | byt j=>obtain⟨t',rfl⟩:=ry;exact PySem.W.ne_bytes (ZL I q (congrArg not ZhT))
  | _=>exact absurd (show false=true from hs) Qj
 | _=>cases y<;>exact absurd (show false=true from hs) Qj
theorem ZfO:OpR X (compareOp .Lt) (rI0 fun i j=>.bl (decide (i<j))):=ZkM fun _ _ _ _ _ _ _ q=>lt_int q
theorem ZlT:OpR X (compareOp .LtE) (rI0 fun i j=>.bl (decide (i≤j))):=ZkM fun _ _ _ _ _ _ _ q=>le_int q
theorem ZeM:OpR X (compareOp .Gt) (rI0 fun i j=>.bl (decide (j<i))):=ZkM fun _ _ _ _ _ _ _ q=>gt_int q
theorem ZlE:OpR X (compareOp .GtE) (rI0 fun i j=>.bl (decide (j≤i))):=ZkM fun _ _ _ _ _ _ _ q=>ge_int q
theorem ZF(b:Expr){op:CmpOp}(h:op≠.In:=by decide)(h2:op≠.NotIn:=by decide):behindInMarks op b=false:=by
 have e1:(op == CmpOp.In)=false:=by cases op<;>first|rfl|exact absurd rfl h
 have e2:(op == CmpOp.NotIn)=false:=by cases op<;>first|rfl|exact absurd rfl h2
 cases b<;>simp[behindInMarks,e1,e2]
theorem Zc3{op:CmpOp}{r:R2}(ho:OpR X (compareOp op) r)(ha:PE X a ta)(hb:PE X b tb)(hm:behindInMarks op b=false):PE X (.Compare a [op] [b] pos) (tOp r ta tb):=by
 intro pins s σ H Q I h
 exact wpAny_Compare1 (ZmE ha hb I h fun v u s2 x y H2 I2 rx ry q=>ho pins s2 σ H2 x y v u Q I2 rx ry q) hm
def ZlG(t:TE):TT:=fun σ H Q=>t σ H fun x H'=>∃k,x=.bl k∧Q k H'
theorem ZA{op:CmpOp}{r:R2}(ho:OpR X (compareOp op) r)(ha:PE X a ta)(hb:PE X b tb)(hm:behindInMarks op b=false):PT X (.Compare a [op] [b] pos) (ZlG (tOp r ta tb)):=by
 intro pins s σ H Q I h
 refine wpAny_isTrue_Compare1 (thn (ha pins s σ H _ I h) fun v s1 ⟨x,H1,I1,r1,q1⟩=>thn (hb pins s1 σ H1 _ I1 q1) fun u s2 ⟨y,H2,I2,r2,q2⟩=>
  thn (ho pins s2 σ H2 x y v u _ I2 r1 r2 q2) fun c s3 ⟨z,H3,I3,r3,k,e,q3⟩=>?_) hm
 subst e
 cases r3
 exact wpAny_truthy_bool ⟨H3,I3,q3⟩
def ZmF(r r':R2)(ta tb tc:TE):TE:=fun σ H Q=>ta σ H fun x H1=>tb σ H1 fun y H2=>r x y H2 fun z H3=>∃k,z=.bl k ∧
 (if k=true then tc σ H3 fun w' H4=>r' y w' H4 Q else Q (.bl false) H3)
theorem ZjD{op op':CmpOp}{r r':R2}(ho:OpR X (compareOp op) r)(ho':OpR X (compareOp op') r')(ha:PE X a ta)(hb:PE X b tb)(hc:PE X c tc)
  (hm:lastMarks [op,op'] [b,c]=false:=by with_unfolding_all rfl):PT X (.Compare a [op,op'] [b,c] pos) (ZlG (ZmF r r' ta tb tc)):=by
 intro pins s σ H Q I h
 refine isTrue_chain (thn (ha pins s σ H _ I h) fun v s1 ⟨x,H1,I1,r1,q1⟩=>test_link (thn (hb pins s1 σ H1 _ I1 q1) fun u s2 ⟨y,H2,I2,r2,q2⟩=>
  thn (ho pins s2 σ H2 x y v u _ I2 r1 r2 q2) fun d s3 ⟨z,H3,I3,r3,k,e,q3⟩=>?_)) hm
 subst e
 cases r3
 refine wpAny_truthy_bool ?_
 cases k with
 | false =>
  obtain⟨k',e',q'⟩:=q3
  cases e'
  exact ite_ff ⟨H3,I3,q'⟩
 | true =>
  refine ite_tt (test_last (thn (hc pins s3 σ H3 _ I3 q3) fun w' s4 ⟨z',H4,I4,r4,q4⟩=>thn (ho' pins s4 σ H4 y z' u w' _ I4 r2 r4 q4) ?_))
  rintro d' s5 ⟨z2,H5,I5,r5,k2,e2,q5⟩
  subst e2
  cases r5
  exact wpAny_truthy_bool ⟨H5,I5,q5⟩
theorem Zfm:(sizeLine:Nat)<2 ^ 63:=by rw[sizeLine_eq];decide
theorem Zbq{x:V}{us:List Value}(r:Zy [x] us):∃u,us=[u]∧ZK x u:=by
 cases r with
 | cons r1 r2=>cases r2;exact⟨_,rfl,r1⟩
theorem Zju{x y:V}{us:List Value}(r:Zy [x,y] us):∃u w',us=[u,w']∧ZK x u∧ZK y w':=by
 cases r with
 | cons r1 r2 =>
  cases r2 with
  | cons r3 r4=>cases r4;exact⟨_,_,rfl,r1,r3⟩
theorem Zgp:Z3 X (.builtin "abs") (fun xs H Q=>∃i,xs=[.int i]∧Q (.int (if i<0 then -i else i)) H):=by
 intro pins s σ H xs us Q I r h
 obtain⟨i,rfl,q⟩:=h
 obtain⟨u,rfl,t,rfl⟩:=Zbq r
 exact call_abs_int fun u tk=>⟨.int (if i<0 then -i else i),H,I.tok _,⟨_,rfl⟩,q⟩
theorem Zid(hc:X.calm=true):Z3 X (.builtin "max") (fun xs H Q=>∃i j,xs=[.int i,.int j]∧Q (.int (if j>i then j else i)) H):=by
 intro pins s σ H xs us Q I r h
 obtain⟨i,j,rfl,q⟩:=h
 obtain⟨u,w',rfl,⟨t,rfl⟩,⟨t',rfl⟩⟩:=Zju r
 refine max_two_ints (I.ok.hd hc) fun h' tk k=>⟨_,H,I.kept k,?_,q⟩
 by_cases hj:j>i
 ·rw[if_pos hj,if_pos hj];exact⟨_,rfl⟩
 ·rw[if_neg hj,if_neg hj];exact⟨_,rfl⟩
theorem Zez(hc:X.calm=true):Z3 X (.builtin "min") (fun xs H Q=>∃i j,xs=[.int i,.int j]∧Q (.int (if j<i then j else i)) H):=by
 intro pins s σ H xs us Q I r h
 obtain⟨i,j,rfl,q⟩:=h
 obtain⟨u,w',rfl,⟨t,rfl⟩,⟨t',rfl⟩⟩:=Zju r
 refine min_two_ints (I.ok.hd hc) fun h' tk k=>⟨_,H,I.kept k,?_,q⟩
 by_cases hj:j<i
 ·rw[if_pos hj,if_pos hj];exact⟨_,rfl⟩
 ·rw[if_neg hj,if_neg hj];exact⟨_,rfl⟩
theorem Ziz:Z3 X (.type "int") (fun xs H Q=>(∃i,xs=[.int i]∧Q (.int i) H)∨∃k,xs=[.bl k]∧Q (.int (if k then 1 else 0)) H):=by
 intro pins s σ H xs us Q I r h
 rcases h with⟨i,rfl,q⟩|⟨k,rfl,q⟩
 ·obtain⟨u,rfl,t,rfl⟩:=Zbq r
  exact call_int_int ⟨.int i,H,I,⟨_,rfl⟩,q⟩
 ·obtain⟨u,rfl,r1⟩:=Zbq r
  cases r1
  exact call_int_bool ⟨.int (if k then 1 else 0),H,I.tok _,⟨_,rfl⟩,q⟩
end
structure Zmg (h:Heap) (x dx C:Addr) (mA:Str→Option Value):Prop where
 obj:h.get? x=some (PySem.W.instObj C dx)
 ns:h.Ns1 dx mA
 ne:dx≠x
theorem Zim{h:Heap}{dx:Addr}{mA:Str→Option Value}(n:h.Ns1 dx mA):∃od,h.get? dx=some od∧∀name,PySem.W.lookIn name od=some (mA name):=by
 obtain⟨o,es,ep,ho,hd,hk,_,hm⟩:=n
 refine⟨o,ho,fun name=>?_⟩
 have e:=hm name
 unfold nsFind findBy at e
 rw[← Array.find?_toList]at e
 unfold PySem.W.lookIn
 rw[hd]
 dsimp only
 split
 ·rename_i y q
  rw[q]at e
  exact congrArg some e
 ·rename_i q
  rw[q]at e
  have a:es.toList.any (·.refKey)=false:=by
   rw[List.any_eq_false]
   intro y hy
   obtain⟨z,t,hkey⟩:=hk y (Array.mem_toList_iff.mp hy)
   simp[DictEntry.refKey,hkey]
  have a':¬ es.toList.any (·.refKey)=true:=by rw[a];exact Qj
  rw[if_neg a']
  exact congrArg some e
theorem Zmg.look{h:Heap}{x dx C:Addr}{mA:Str→Option Value}(I:Zmg h x dx C mA):∃od,PySem.W.InstAt h x (PySem.W.instObj C dx) C (some od)∧∀name,PySem.W.lookIn name od=some (mA name) :=
 let ⟨od,ho,hl⟩:=Zim I.ns
 ⟨od,⟨I.obj,rfl,rfl,ho⟩,hl⟩
section
variable {prog:Program} {w:World} {A:Around} {E:Value→Shared→Prop} {s:Shared} {K:PySem.W.Frag} {x dx C f:Addr} {mA:Str→Option Value} {name:Str} {v:Value}
end
section
variable {P:Program} {w:World} {H H':Hp} {h h':Heap} {a C dx:Addr} {fs fs':List (Str×V)}
theorem Zkp(hok:HOk P w H h)(e:H a=some (.ins C dx fs)):∃mA,Zmg h a dx C mA∧(∀f,Zme (fs.lookup f) (mA f))∧PySem.Within mA (fs.map (·.1))∧fs.length≤1000∧H dx=some (.own a):=by
 obtain⟨d,z,ne,ob,mA,n,r,q⟩:=(show Z7 P w H h a (.ins C dx fs) from hok a _ e)
 exact⟨mA,⟨ob,n,ne⟩,r,q,z,d⟩
end
structure Cls (K:PySem.W.Frag) (C:Addr):Prop where
 pg:PySem.W.plainGet K C Str.empty=true
 hd:PySem.W.hasDictIn K C=true
 po:PySem.W.plainOver K C=true
 sa:PySem.W.findIn K (.ref C) "__setattr__" = some (some (.builtin "object.__setattr__"))
theorem Cls.get{K:PySem.W.Frag}{C:Addr}(c:Cls K C)(f:Str):PySem.W.plainGet K C f=true:=c.pg
structure Con (K:PySem.W.Frag) (C:Addr) (f:Str) (v:V) (u:Value):Prop where
 at_:PySem.W.findIn K (.ref C) f=some (some u)
 rel:ZK v u
 get:PySem.W.specialIn K u "__get__" = some none
 cp:PySem.W.copiedNames.contains f=false
structure Zm9 (K:PySem.W.Frag) (C:Addr) (m:Str) (f:Addr):Prop where
 at_:PySem.W.findIn K (.ref C) m=some (some (.ref f))
 fn:PySem.W.isFn K (.ref f)=true
 kp:PySem.W.keepIn K (.ref f)=true
section
variable {X:Cx} {pins:List (Addr×Obj)} {σ:St} {H:Hp} {s:Shared} {a C dx:Addr} {fs:List (Str×V)} {f:Str} {v:V} {A:Around} {E:Value→Shared→Prop}
end
section
variable {X:Cx} {o e value:Expr} {f:Str} {pos pos' tpos:Pos} {ta tv:TE}
end
section
variable {X:Cx} {pins:List (Addr×Obj)} {σ:St} {H:Hp} {s:Shared} {A:Around} {E:Value→Shared→Prop} {Q:Value→Shared→Prop} {c:Value} {b:Bool}
inductive Zdj (K:PySem.W.Frag) (H:Hp):V→Value→Prop where
 | non:Zdj K H .non (.type "NoneType")
 | bl (x:Bool):Zdj K H (.bl x) (.type "bool")
 | int (i:Int):Zdj K H (.int i) (.type "int")
 | str (x:Str):Zdj K H (.str x) (.type "str")
 | flt (x:UInt64):Zdj K H (.flt x) (.type "float")
 | lst {a:Addr} {xs:List V} (e:H a=some (.lst xs)):Zdj K H (.ref a) (.type "list")
 | frz {a:Addr} {o:Obj} {xs:List V} (e:H a=some (.frz o (.lst xs))):Zdj K H (.ref a) (.type "list")
 | tup {a:Addr} {xs:List V} (e:H a=some (.tup xs)):Zdj K H (.ref a) (.type "tuple")
 | dK {a:Addr} {kvs:List (Key×V)} (e:H a=some (.dK kvs)):Zdj K H (.ref a) (.type "dict")
 | dT {a:Addr} {kvs:List (List Key×V)} (e:H a=some (.dT kvs)):Zdj K H (.ref a) (.type "dict")
 | ins {a C dx:Addr} {fs:List (Str×V)} (e:H a=some (.ins C dx fs)) (cl:Cls K C) (ha:PySem.W.findIn K (.ref C) "__class__" = some (some (.builtin "object.__class__")))
   (hn:PySem.W.specialIn K (.builtin "object.__class__") "__get__" = some (some (.builtin "getset_descriptor.__get__"))) (htk:PySem.W.takesIn K (.builtin "object.__class__")=some true)
   (hm:PySem.W.mroIn K C (.type "object")=some true):Zdj K H (.ref a) (.ref C)
theorem Zit{x:V}{u t:Value}(I:Inv X pins σ H s)(rx:ZK x u)(ty:Zdj X.K H x t)(e:PySem.W.kitOne X.K t c=some b)(h:∀tk,Q (.bool b) { s with toks:=tk }) :
  wpAny (model X.prog X.w) A (call (.builtin "isinstance") [u,c]) Q E s:=by
 cases ty with
 | non=>cases (show u=Value.none from rx);exact Q1 PySem.W.kitx_none I.kIn True.intro e (fun z=>nomatch z) h
 | bl y=>cases (show u=Value.bool y from rx);exact Q1 PySem.W.kitx_bool I.kIn True.intro e (fun z=>nomatch z) h
 | int i=>obtain⟨t,q⟩:=(show ∃t,u=Value.int i t from rx);cases q;exact Q1 PySem.W.kitx_int I.kIn True.intro e (fun z=>nomatch z) h
 | str y=>obtain⟨t,q⟩:=(show ∃t,u=Value.str y t from rx);cases q;exact Q1 PySem.W.kitx_str I.kIn True.intro e (fun z=>nomatch z) h
 | flt y=>obtain⟨t,q⟩:=(show ∃t,u=Value.float y t from rx);cases q;exact Q1 PySem.W.kitx_float I.kIn True.intro e (fun z=>nomatch z) h
 | @lst a xs ea =>
  cases (show u=Value.ref a from rx)
  obtain⟨_,_,n,_,h1⟩:=(show Z7 X.prog X.w H s.heap a (.lst xs) from I.hok a _ ea)
  exact Q1 PySem.W.kitx_list I.kIn ⟨_,h1,rfl⟩ e (fun z=>nomatch z) h
 | @frz a ob xs ea =>
  cases (show u=Value.ref a from rx)
  obtain⟨_,_,_,n,_,h1⟩:=(show Z7 X.prog X.w H s.heap a (.frz ob (.lst xs)) from I.hok a _ ea)
  exact Q1 PySem.W.kitx_list I.kIn ⟨_,h1,rfl⟩ e (fun z=>nomatch z) h
 | @tup a xs ea =>
  cases (show u=Value.ref a from rx)
  obtain⟨_,_,_,p⟩:=(show Z7 X.prog X.w H s.heap a (.tup xs) from I.hok a _ ea)
  obtain⟨o,h1,h2,_⟩:=p
  exact Q1 PySem.W.kitx_tuple I.kIn ⟨o,h1,h2⟩ e (fun z=>nomatch z) h
 | @dK a kvs ea =>
  cases (show u=Value.ref a from rx)
  obtain⟨_,_,vs,_,p⟩:=(show Z7 X.prog X.w H s.heap a (.dK kvs) from I.hok a _ ea)
  obtain⟨o,es,ep,h1,h2,_⟩:=p
  exact Q1 PySem.W.kitx_dict I.kIn ⟨o,h1,h2.1⟩ e (fun z=>nomatch z) h
 | @dT a kvs ea =>
  cases (show u=Value.ref a from rx)
  obtain⟨_,_,xs,_,o,es,ep,h1,h2,_⟩:=(show Z7 X.prog X.w H s.heap a (.dT kvs) from I.hok a _ ea)
  exact Q1 PySem.W.kitx_dict I.kIn ⟨o,h1,h2.1⟩ e (fun z=>nomatch z) h
 | @ins a C dx fs ea cl ha hn htk hm =>
  cases (show u=Value.ref a from rx)
  obtain⟨mA,O,_⟩:=Zkp I.hok ea
  obtain⟨od,J,_⟩:=O.look
  exact Q1 (PySem.W.kitx_own (cl.get _) cl.hd ha hn htk hm) I.kIn J e (fun z=>nomatch z) h
end
structure ZaM (k:Nat) (A:Around):Prop where
 hd:A.handled=none
 dp:A.depth+3*k+5<recursionLimit
 un:A.units+16*k+200<cLine
 gd:A.guards=some []
theorem ZaM.mono{j k:Nat}{A:Around}(r:ZaM k A)(h:j≤k):ZaM j A:=⟨r.hd,by have:=r.dp;omega,by have:=r.un;omega,r.gd⟩
theorem ZaM.deeper{k:Nat}{A:Around}(r:ZaM (k+1) A)(env:Env):ZaM k (A.deeper env) :=
 ⟨r.hd,by have:=r.dp;show A.depth+1+3*k+5<_;omega,by have:=r.un;show A.units+3+16*k+200<_;omega,r.gd⟩
theorem ZaM.depth{k:Nat}{A:Around}(r:ZaM k A):A.depth<recursionLimit:=by have:=r.dp;omega
theorem ZaM.units{k:Nat}{A:Around}(r:ZaM k A):A.units+64<cLine:=by have:=r.un;omega
def Zn7:TA:=fun _ H Q=>Q [] H
def Znj(ta:TE)(tr:TA):TA:=fun σ H Q=>ta σ H fun x H1=>tr σ H1 fun xs H2=>Q (x::xs) H2
section
variable {X:Cx} {e:Expr} {es:List Expr} {te:TE} {t:TA} {pos:Pos}
theorem Zc:PA X [] Zn7:=fun _ _ _ _ H Q I h=>Calls.spliced_nil ⟨[],H,I,.nil,h⟩
theorem Za(ha:PE X e te)(hr:PA X es t)(hs:starEach (e::es) X.env=(false,eval e X.env)::starEach es X.env:=by rfl):PA X (e::es) (Znj te t):=by
 intro pos pins s σ H Q I h
 rw[hs]
 show wpAny _ _ (spliced ((false,eval e X.env)::backTo pos (starEach es X.env))) _ _ s
 refine Calls.spliced_cons (thn (ha pins s σ H _ I h) ?_)
 rintro u s1 ⟨x,H1,I1,r1,q1⟩
 exact thn (hr pos pins s1 σ H1 _ I1 q1) fun us s2 ⟨xs,H2,I2,r2,q2⟩=>⟨x::xs,H2,I2,.cons r1 r2,q2⟩
def ZnV(t:TA):TE:=fun σ H Q=>t σ H fun xs H1=>xs.length≤sizeLine∧∀p,H1 p=none→Q (.ref p) (upd H1 p (.tup xs))
def ZnQ(t:TA):TE:=fun σ H Q=>t σ H fun xs H1=>xs.length≤sizeLine∧∀p,H1 p=none→Q (.ref p) (upd H1 p (.lst xs))
theorem Zv{x1}(h:PA X es t):PE X (.Tuple es x1 pos) (ZnV t):=by
 intro pins s σ H Q I hq
 refine wpAny_Tuple_spliced (thn (h pos pins s σ H _ I hq) fun us s1 ⟨xs,H1,I1,r,z,q⟩=>⟨by rw[← r.length];exact z,?_⟩)
 have hf:H1 s1.heap.objs.size=none:=I1.hok.fresh (Qd _)
 refine⟨.ref s1.heap.objs.size,upd H1 s1.heap.objs.size (.tup xs),I1.laid (t':=s1.toks) (fun b u e=>Qa _ e) (Qd _) ?_,rfl,q _ hf⟩
 exact⟨z,us,r,⟨_,Qm _ rfl,rfl,_,rfl⟩⟩
theorem ZG(h:PA X es t):PE X (.List es pos) (ZnQ t):=by
 intro pins s σ H Q I hq
 refine wpAny_List_spliced (thn (h pos pins s σ H _ I hq) fun us s1 ⟨xs,H1,I1,r,z,q⟩=>⟨by rw[← r.length];exact z,?_⟩)
 have hf:H1 s1.heap.objs.size=none:=I1.hok.fresh (Qd _)
 refine⟨.ref s1.heap.objs.size,upd H1 s1.heap.objs.size (.lst xs),I1.laid (t':=s1.toks) (fun b u e=>Qa _ e) (Qd _) ?_,rfl,q _ hf⟩
 exact⟨z,us,0,r,Qm _ rfl⟩
end
abbrev Sp:=List V→Hp→VK→XK→Prop
abbrev CXT:=List Env→Hp→Shared→XK→Value→Shared→Prop
structure Zk3 (P:Program) (w:World) (K:PySem.W.Frag) (mg:Str→Option Value) (base:Heap) (A:Around) (outer:List Env) (s:Shared) (H:Hp):Prop where
 frames:A.frames=some outer
 mod:Mod K mg base
 bs:∀b o,base.get? b=some o→s.heap.get? b=some o∧H b=none
 bsz:base.objs.size≤s.heap.objs.size
 funs:s.heap.FunFrames base outer
 frf:∀b∈frs outer,H b=none
 hok:HOk P w H s.heap
 bare:AllBare s.gens
def CE(outer:List Env)(P:Program)(w:World)(H:Hp)(s:Shared)(Q:VK)(u:Value)(s':Shared):Prop :=
 ∃v H',s'.os=s.os∧AllBare s'.gens∧Un (frs outer) [] H H' s.heap s'.heap∧HOk P w H' s'.heap∧ZK v u∧Q v H'
def CR(CX:CXT)(outer:List Env)(P:Program)(w:World)(H:Hp)(s:Shared)(Q:VK)(E:XK)(r:Result)(s':Shared):Prop :=
 match r with
 | .ok (.ret u)=>CE outer P w H s Q u s'
 | .ok _=>False
 | .error e=>CX outer H s E e s'
structure ZdQ (P:Program) (w:World) (K:PySem.W.Frag) (mg:Str→Option Value) (base:Heap) (CX:CXT) (k:Nat) (f:Addr) (fd:FuncData) (ps:List Str) (sp:Sp):Prop where
 len:∀vs H Q E,sp vs H Q E→vs.length=ps.length
 run:∀ (A:Around) (outer:List Env) (s:Shared) (H:Hp) (args:Args) (us:List Value) (vs:List V) (Q:VK) (E:XK),ZaM k A→Zk3 P w K mg base A outer s H→BindsTo s fd args (ps.zip us)→Zy vs us→sp vs H Q E →
  codeAny (model P w) A (.call (.ref f) args) (CR CX outer P w H s Q E) s
section
variable {X:Cx} {pins:List (Addr×Obj)} {σ:St} {H:Hp} {s s':Shared}
theorem Inv.env0(I:Inv X pins σ H s):Zk3 X.prog X.w X.K X.mg X.base X.A X.stack s H :=
 ⟨I.ok.frames,I.ok.mod,I.bs,QL I.ok.bsz I.sz,I.stack,I.stkFree,I.hok,I.bare⟩
theorem Inv.after{Q:VK}{u:Value}(I:Inv X pins σ H s)(h:CE X.stack X.prog X.w H s Q u s'):EP X pins σ Q u s':=by
 obtain⟨v,H',os,bare,un,hok,r,q⟩:=h
 obtain⟨hh,g,d,t,os'⟩:=s'
 obtain rfl:os'=s.os:=os
 exact⟨v,H',I.call (h':=hh) (g':=g) (d':=d) (t':=t) (ch:=[]) un hok bare (fun b z=>absurd z (by simp)),r,q⟩
end
def Zkh(sp:Sp)(dvs:List V)(E:XK)(t:TA):TE:=fun σ H Q=>t σ H fun vs H1=>sp (vs++dvs) H1 Q E
def Zcn(K:PySem.W.Frag)(fd:FuncData)(ps:List Str)(ds:List Value):Prop :=
 ∀ (s:Shared) (us:List Value),K.In s.heap→(us++ds).length=ps.length→BindsTo s fd ⟨us,[]⟩ (ps.zip (us++ds))
theorem Zcn.all{K:PySem.W.Frag}{fd:FuncData}{ps:List Str}(h:∀us:List Value,us.length=ps.length→bindArgs fd ⟨us,[]⟩=pure (ps.zip us)):Zcn K fd ps []:=fun s us _ hl=>by
 rw[QH]at hl ⊢
 exact .of_eq (h us hl)
def Zhb(CX:CXT)(X:Cx)(E:XK):Prop:=∀ (pins:List (Addr×Obj)) (σ:St) (H:Hp) (s:Shared) (e:Value) (s':Shared),Inv X pins σ H s→CX X.stack H s E e s'→X.xe e s'
section
variable {X:Cx} {CX:CXT} {k:Nat} {f C:Addr} {fd:FuncData} {ps:List Str} {sp:Sp} {dvs:List V} {ds:List Value} {E:XK} {x m:Str} {p pos apos:Pos} {e o:Expr} {es:List Expr} {ta:TE} {t:TA}
theorem ZmC{pins:List (Addr×Obj)}{σ:St}{H:Hp}{s:Shared}{Q:VK}{us:List Value}{vs:List V}(F:ZdQ X.prog X.w X.K X.mg X.base CX k f fd ps sp)(hr:ZaM k X.A)(hb:Zcn X.K fd ps ds)(hd:Zy dvs ds)(hx:Zhb CX X E)
  (I:Inv X pins σ H s) (r:Zy vs us) (h:sp (vs++dvs) H Q E):wpAny (model X.prog X.w) X.A (call (.ref f) us) (EP X pins σ Q) X.xe s:=by
 have r2:Zy (vs++dvs) (us++ds):=r.append hd
 have hl:(us++ds).length=ps.length:=by rw[← r2.length];exact F.len _ _ _ _ h
 refine wpAny_call (codeAny_mono (F.run X.A X.stack s H ⟨us,[]⟩ (us++ds) (vs++dvs) Q E hr I.env0 (hb s us I.kIn hl) r2 h) fun r s' hq=>?_)
 cases r with
 | error e=>exact hx pins σ H s e s' I hq
 | ok fl =>
  cases fl with
  | ret u=>exact I.after hq
  | next=>exact False.elim hq
  | brk=>exact False.elim hq
  | cont=>exact False.elim hq
theorem Zk8(F:ZdQ X.prog X.w X.K X.mg X.base CX k f fd ps sp)(hr:ZaM k X.A)(hg:Gl X x)(hm:X.mg x=some (.ref f))(hk:PySem.W.keepIn X.K (.ref f)=true)(hb:Zcn X.K fd ps ds)(hd:Zy dvs ds)(hx:Zhb CX X E)
  (ha:PA X (e::es) t) (hdb:(x == ("__debug__" : Str))=false:=by decide) (he:starEach (e::es) X.env=(false,eval e X.env)::starEach es X.env:=by rfl) (hpl:(backTo pos (starEach es X.env)).any (·.1)=false:=by rfl) :
  PE X (.Call (.Name x p) (e::es) [] pos) (Zkh sp dvs E t):=by
 intro pins s σ H Q I h
 refine wpAny_Call_Name_kw (Zlm I hg hm ?_ hdb)
 refine PySem.W.callWith_K (h₀:=X.base) I.ok.mod.kin hk (thn (ha pos pins s σ H _ I h) fun us s1 ⟨vs,H1,I1,r,q⟩=>⟨I1.kIn,?_⟩) he hpl
 exact ZmC F hr hb hd hx I1 r q
structure Mk (K:PySem.W.Frag) (C f:Addr):Prop where
 makes:PySem.W.makesIn K C=true
 init:PySem.W.findIn K (.ref C) "__init__" = some (some (.ref f))
 fn:PySem.W.isFn K (.ref f)=true
 kp:PySem.W.keepIn K (.ref C)=true
end
section
variable {X:Cx} {CX:CXT} {k:Nat} {f C:Addr} {fd:FuncData} {ps ks:List Str} {sp:Sp} {E:XK} {x m:Str} {p pos apos kpos:Pos} {e o:Expr} {es:List Expr} {kws:List Keyword} {te ta:TE} {t tk:TA} {nm:Option Str}
structure KBinds (K:PySem.W.Frag) (fd:FuncData) (ps ks:List Str) (g:List Value→List Value→List Value) (gV:List V→List V→List V):Prop where
 to:∀ (s:Shared) (us ws:List Value),K.In s.heap→(g us ws).length=ps.length→BindsTo s fd ⟨us,ks.zip ws⟩ (ps.zip (g us ws))
 rel:∀ {vs:List V} {us:List Value} {zs:List V} {ws:List Value},Zy vs us→Zy zs ws→Zy (gV vs zs) (g us ws)
variable {g:List Value→List Value→List Value} {gV:List V→List V→List V}
end
structure Zr (N P:List Str) (sc:Scope):Prop where
 kind:sc.kind=.function
 co:sc.isCoroutine=false
 gen:sc.isGenerator=false
 nd:N.Nodup
 pre:N.take P.length=P
 par:∀x∈P,sc.names.lookup x=some .local∨sc.names.lookup x=some .cell
 nofree:∀y∈sc.names,y.2≠.free
theorem ZeJ{kindOf:Str→Option NameKind}{x:Str}:∀ {binds:List (Str×Value)} {m:Str→Option Value},(∀v,(x,v) ∉ binds)→bindL kindOf binds m x=m x
 | [],_,_=>rfl
 | (n,v)::r,m,h=>by
  unfold bindL
  rw[ZeJ fun w hw=>h w (Qi _ hw)]
  split
  ·have:x≠n:=by rintro rfl;exact h v Qp
   simp[this]
  ·rfl
theorem ZeU{kindOf:Str→Option NameKind}{x:Str}:∀ {binds:List (Str×Value)} {m:Str→Option Value},(∀v,(x,v) ∉ binds)→bindC kindOf binds m x=m x
 | [],_,_=>rfl
 | (n,v)::r,m,h=>by
  unfold bindC
  rw[ZeU fun w hw=>h w (Qi _ hw)]
  split
  ·rfl
  ·have:x≠n:=by rintro rfl;exact h v Qp
   simp[this]
theorem ZeN{kindOf:Str→Option NameKind}{x:Str}{v:Value}:∀ {P:List Str} {vs:List Value} {i:Nat} {m:Str→Option Value},P.Nodup→P[i]? = some x→vs[i]? = some v→kindOf x=some .local →
  bindL kindOf (P.zip vs) m x=some v
 | [],_,_,_,_,h,_,_=>by simp at h
 | _::_,[],_,_,_,_,h,_=>by simp at h
 | p::P,w::vs,0,m,nd,h1,h2,hk=>by
  simp at h1 h2;subst h1;subst h2
  show bindL kindOf ((p,w)::P.zip vs) m p=_
  unfold bindL
  rw[ZeJ fun v hv=>(QaS.mp nd).1 (List.of_mem_zip hv).1,if_pos hk]
  simp
 | p::P,w::vs,i+1,m,nd,h1,h2,hk=>by
  show bindL kindOf ((p,w)::P.zip vs) m x=_
  unfold bindL
  exact ZeN (i:=i) (QaS.mp nd).2 (by simpa using h1) (by simpa using h2) hk
theorem ZeG{kindOf:Str→Option NameKind}{x:Str}{v:Value}:∀ {P:List Str} {vs:List Value} {i:Nat} {m:Str→Option Value},P.Nodup→P[i]? = some x→vs[i]? = some v→kindOf x≠some .local →
  bindC kindOf (P.zip vs) m x=some v
 | [],_,_,_,_,h,_,_=>by simp at h
 | _::_,[],_,_,_,_,h,_=>by simp at h
 | p::P,w::vs,0,m,nd,h1,h2,hk=>by
  simp at h1 h2;subst h1;subst h2
  show bindC kindOf ((p,w)::P.zip vs) m p=_
  unfold bindC
  rw[ZeU fun v hv=>(QaS.mp nd).1 (List.of_mem_zip hv).1,if_neg hk]
  simp
 | p::P,w::vs,i+1,m,nd,h1,h2,hk=>by
  show bindC kindOf ((p,w)::P.zip vs) m x=_
  unfold bindC
  exact ZeG (i:=i) (QaS.mp nd).2 (by simpa using h1) (by simpa using h2) hk
def Zdc(N:List Str)(vs:List V):St:=vs.map some++List.replicate (N.length-vs.length) none
def Zg8(CX:CXT)(P:Program)(w:World)(K:PySem.W.Frag)(mg:Str→Option Value)(base:Heap)(N:List Str)(qual:Str)(scope:Scope)(f:Addr)(cd:Value)(A:Around)(outer:List Env)(s:Shared)(H:Hp)(E:XK):Cx where
 prog:=P
 w:=w
 K:=K
 mg:=mg
 base:=base
 A:=A.deeper (envOfC qual scope s.heap.objs.size f cd)
 N:=N
 s₀:=s
 H₀:=H
 env:=envOfC qual scope s.heap.objs.size f cd
 outer:=outer
 stack:=envOfC qual scope s.heap.objs.size f cd::outer
 ex:=[]
 calm:=true
 fn:=fun _=>true
 pn:=[]
 xe:=fun e s'=>wpAny (model P w) (A.deeper (envOfC qual scope s.heap.objs.size f cd)) (leaving (envOfC qual scope s.heap.objs.size f cd) e) (fun _ s''=>CX outer H s E e s'') (fun e' s''=>CX outer H s E e' s'') s'
theorem Zgj{sc:Scope}{n:Nat}{x:Str}(h:sc.names.lookup x=some .cell):∃c,(cellsFrom n sc.names []).lookup x=some c:=by
 have q:=PySem.W.cellsFrom_some sc.names n [] (.inl h)
 exact Option.isSome_iff_exists.mp q
theorem Zic{CX:CXT}{P:Program}{w:World}{K:PySem.W.Frag}{mg:Str→Option Value}{base:Heap}{N ps:List Str}{qual:Str}{scope:Scope}{f:Addr}{cd:Value}{A:Around}{outer:List Env}{s s1:Shared}{H:Hp}{E:XK}{us:List Value}{vs:List V}
  (S:Zr N ps scope) (hd:A.handled=none) (e0:Zk3 P w K mg base A outer s H) (hl:vs.length=ps.length) (r:Zy vs us)
  (x:InCallC s s.heap.objs.size (bindL (envOfC qual scope s.heap.objs.size f cd).kindOf (ps.zip us) fun _=>none) (cellsFrom (s.heap.objs.size+1) scope.names []) (bindC (envOfC qual scope s.heap.objs.size f cd).kindOf (ps.zip us) fun _=>none) s1) :
  Inv (Zg8 CX P w K mg base N qual scope f cd A outer s H E) [] (Zdc N vs) H s1:=by
 have hpl:ps.length≤N.length:=by have:=congrArg List.length S.pre;rw[Qu]at this;omega
 obtain⟨h1,tk,rfl,hk⟩:=x.done
 have noA:∀b:Addr,b ∉ (Zg8 CX P w K mg base N qual scope f cd A outer s H E).ex:=fun b z=>absurd (show b∈([]:List Addr) from z) (by simp)
 refine⟨⟨e0.mod,S.kind,rfl,rfl,Qd _,fun y z c h1 h2=>?_,fun y hy=>?_,fun y c _ h=>?_,fun _=>hd,Around.frames_deeper e0.frames,.inr ⟨rfl,rfl⟩,fun b z=>absurd z (noA b),e0.bs,e0.bsz,fun b _ _=>noA b,fun b z=>absurd z (noA b),e0.funs,e0.frf⟩,
  rfl,e0.bare,Un.kept hk,⟨_,x.toInCall.ns,fun i y v h1 h2 h3=>?_⟩,fun y c h=>⟨_,x.cell y c h⟩,e0.hok.fresh (Qd _),fun y c h=>?_,fun p hp=>absurd (show p∈([]:List (Addr×Obj)) from hp) (by simp),e0.hok.kept hk,?_⟩
 ·exact name_of_addr x.apart (Qaf h1) (Qaf h2)
 ·have hy:scope.names.lookup y=some .cell∨scope.names.lookup y=some .free:=hy
  rcases hy with hy|hy
  ·exact Zgj hy
  ·exact absurd rfl (S.nofree _ (Qaf hy))
 ·exact Q7 (x.above y c (Qaf h))
 ·have hi:i<vs.length:=by
   unfold Zdc at h2
   by_cases hi:i<vs.length
   ·exact hi
   ·rw[QZ (by simpa using hi)]at h2
    rw[List.getElem?_replicate]at h2
    split at h2<;>cases h2
  have ha:vs[i]? = some v:=by
   unfold Zdc at h2
   rw[Qai (by simpa using hi),Qr]at h2
   cases e:vs[i]? with
   | none=>rw[e]at h2;cases h2
   | some a=>rw[e]at h2;cases h2;rfl
  obtain⟨u,hu,rv⟩:=r.get ha
  have hp:ps[i]? = some y:=by
   rw[← S.pre,List.getElem?_take_of_lt (by omega)];exact h1
  have ndP:ps.Nodup:=by rw[← S.pre];exact S.nd.sublist (List.take_sublist _ _)
  refine⟨u,rv,?_⟩
  rcases S.par y (QA hp) with k|k
  ·exact .inl ⟨k,ZeN ndP hp hu k⟩
  ·obtain⟨c,e⟩:=Zgj (n:=s.heap.objs.size+1) k
   refine .inr ⟨.inl k,c,e,?_⟩
   have q:=x.cell y c e
   rw[ZeG ndP hp hu (by show scope.names.lookup y≠_;rw[k];decide)]at q
   exact q
 ·exact e0.hok.fresh (Q7 (x.above y c (Qaf h)))
 ·unfold Zdc
  show _=N.length
  rw[Qe,Qb,List.length_replicate]
  omega
theorem Zm2{CX:CXT}{P:Program}{w:World}{K:PySem.W.Frag}{mg:Str→Option Value}{base:Heap}{k:Nat}{f:Addr}{name qual:Str}{params:Arguments}{body:List Stmt}{scope:Scope}{dV kV doc pm cdv ct oc:Value}{an od:Option Addr}
  {osl:Array (Option Value)} {N ps:List Str} {sp:Sp} (lk:K.lookup f=some ⟨oc,od,.func (PySem.W.fnOf name qual params body scope dV kV doc pm an cdv ct),osl⟩) (hcd:PySem.W.codeIn K cdv qual=true) (S:Zr N ps scope)
  (len:∀vs H Q E,sp vs H Q E→vs.length=ps.length)
  (hbody:∀ (A:Around) (outer:List Env) (s:Shared) (H:Hp) (vs:List V) (Q:VK) (E:XK),ZaM k (A.deeper (envOfC qual scope s.heap.objs.size f cdv))→sp vs H Q E →
   ∃t,PSs (Zg8 CX P w K mg base N qual scope f cdv A outer s H E) body t∧t { nx:=fun _ H'=>Q .non H',rt:=Q } (Zdc N vs) H) :
  ZdQ P w K mg base CX (k+1) f (PySem.W.fnOf name qual params body scope dV kV doc pm an cdv ct) ps sp:=by
 refine⟨len,fun A outer s H args us vs Q E hr e0 hb r hsp=>?_⟩
 have hl:=len _ _ _ _ hsp
 have KX:K.In s.heap:=e0.mod.kin.keeps fun b o e=>(e0.bs b o e).1
 have lim:s.heap.NoLimit:=e0.mod.nolimit.keeps fun b o e=>(e0.bs b o e).1
 have hkind:∀y∈ps.zip us,scope.names.lookup y.1=some .local∨(scope.names.lookup y.1=some .cell∧((cellsFrom (s.heap.objs.size+1) scope.names []).lookup y.1).isSome=true):=fun ⟨n,v⟩ hy=>by
  rcases S.par n (List.of_mem_zip hy).1 with q|q
  ·exact .inl q
  ·exact .inr ⟨q,PySem.W.cellsFrom_some _ _ _ (.inl q)⟩
 refine codeAny_call_function hr.depth (KX _ _ lk) rfl S.co S.gen rfl (PySem.W.codeRec_of KX hcd) (hb _ _ _ _ ?_)
 refine wpAny_newFunctionEnv_cells S.kind hkind fun env he s1 x=>?_
 subst he
 refine⟨lim.keeps x.toInCall.keep,codeAny_func ?_⟩
 obtain⟨t,ht,hq⟩:=hbody A outer s H vs Q E (hr.deeper _) hsp
 have I:Inv (Zg8 CX P w K mg base N qual scope f cdv A outer s H E) [] (Zdc N vs) H s1:=Zic S hr.hd e0 hl r x
 refine wpAny_mono (ht [] s1 (Zdc N vs) H _ I hq) (fun fl s' hs=>?_) fun e s' hs=>hs
 have fin:∀ {σ':St} {H':Hp} {v:V} {u:Value},Inv (Zg8 CX P w K mg base N qual scope f cdv A outer s H E) [] σ' H' s'→ZK v u→Q v H'→CE outer P w H s Q u s' :=
  fun {σ' H' v u} J rv q=>⟨v,H',J.os,J.bare,J.base,J.hok,rv,q⟩
 cases fl with
 | ret u =>
  obtain⟨v,σ',H',J,rv,q⟩:=hs
  exact fin J rv q
 | next =>
  obtain⟨σ',H',J,q⟩:=hs
  exact fin (v:=V.non) (u:=Value.none) J rfl q
 | brk =>
  obtain⟨_,_,_,q⟩:=hs
  exact False.elim q
 | cont =>
  obtain⟨_,_,_,q⟩:=hs
  exact False.elim q
section
variable {X:Cx} {x:Str} {p pos:Pos} {e:Expr} {es:List Expr} {t:TA} {id T:String} {r:List V→Hp→VK→Prop}
def tCB(r:List V→Hp→VK→Prop)(t:TA):TE:=fun σ H Q=>t σ H fun vs H1=>r vs H1 Q
theorem Zk(hc:Z3 X (.builtin id) r)(hg:Gl X x)(hm:X.mg x=none)(hv:bootBuiltins x=some (.builtin id))(ha:PA X (e::es) t)(hn:x ≠ "__name__":=by decide)(hdb:(x == ("__debug__" : Str))=false:=by decide)
  (he:starEach (e::es) X.env=(false,eval e X.env)::starEach es X.env:=by rfl) (hpl:(backTo pos (starEach es X.env)).any (·.1)=false:=by rfl):PE X (.Call (.Name x p) (e::es) [] pos) (tCB r t):=by
 intro pins s σ H Q I h
 refine wpAny_Call_Name_kw (Zdz I hg hm hv ?_ hn hdb)
 exact PyProof.Rows.callWith_builtin1 (thn (ha pos pins s σ H _ I h) fun us s1 ⟨vs,H1,I1,r1,q1⟩=>hc pins s1 σ H1 vs us Q I1 r1 q1) he hpl
theorem Zac(hc:Z3 X (.type T) r)(hg:Gl X x)(hm:X.mg x=none)(hv:bootBuiltins x=some (.type T))(ha:PA X (e::es) t)(hn:x ≠ "__name__":=by decide)(hdb:(x == ("__debug__" : Str))=false:=by decide)
  (he:starEach (e::es) X.env=(false,eval e X.env)::starEach es X.env:=by rfl) (hpl:(backTo pos (starEach es X.env)).any (·.1)=false:=by rfl):PE X (.Call (.Name x p) (e::es) [] pos) (tCB r t):=by
 intro pins s σ H Q I h
 refine wpAny_Call_Name_kw (Zdz I hg hm hv ?_ hn hdb)
 exact Qah (thn (ha pos pins s σ H _ I h) fun us s1 ⟨vs,H1,I1,r1,q1⟩=>hc pins s1 σ H1 vs us Q I1 r1 q1) he hpl
end
end L2
namespace HT
open PySem PyProof.Rows
section
open PySem.SeqAt
open PySem.AutoSeq1 (wpAny_loadPart')
open PySem.MeetsSeq PySem.MeetsSeq2 PySem.MeetsSeq3
end
section
variable {prog:Program} {w:World} {A:Around} {E:Value→Shared→Prop} {s:Shared}
theorem cat_tup{t b:Addr}{vs ws:List Value}{Q:Value→Shared→Prop}(ht:IsTup s.heap t vs.toArray)(hb:IsTup s.heap b ws.toArray)(hv:vs≠[])
  (h1:ws=[]→Q (.ref t) s) (h2:ws≠[]→Q (.ref s.heap.objs.size) { s with heap:=s.heap.push { cls:=.type "tuple",data:=.seq (vs++ws).toArray } })
  (hsz:vs.length+ws.length≤sizeLine):wpAny (model prog w) A (binaryOp .Add (.ref t) (.ref b)) Q E s:=by
 obtain⟨⟨cls,dd,data,sl⟩,ho,hc,n,hd⟩:=id ht
 obtain⟨⟨cls2,dd2,data2,sl2⟩,ho2,hc2,n2,hd2⟩:=id hb
 simp only at hc hd hc2 hd2
 subst hc hd hc2 hd2
 have e:vs.toArray++ws.toArray=(vs++ws).toArray:=by simp
 by_cases hw:ws=[]
 ·exact concat_meets ⟨_,ho,rfl⟩ ⟨_,ho2,rfl⟩ noFill_tuple_add seq_tuple_add PySem.F.slot_tuple_add PySem.F.entry_tuple_add (PySem.F.args_tuple_add_2 _ _)
   (tuple_addW1 t b vs.toArray ws.toArray n n2 dd dd2 sl sl2 (by simpa using hv) (by simp[hw])) ⟨ho,ho2,h1 hw⟩
 ·refine concat_meets ⟨_,ho,rfl⟩ ⟨_,ho2,rfl⟩ noFill_tuple_add seq_tuple_add PySem.F.slot_tuple_add PySem.F.entry_tuple_add (PySem.F.args_tuple_add_2 _ _)
   (tuple_addW2 t b vs.toArray ws.toArray n n2 dd dd2 sl sl2 (by simpa using hv) (by simpa using hw) (by rw[Qo,Qo];exact hsz)) ⟨ho,ho2,?_⟩
  rw[e]
  exact h2 hw
def sIx(n d:Nat):Option Int→Nat
 | none=>d
 | some v=>if v<0 then (v+(n:Int)).toNat else min v.toNat n
theorem sIx_none(n d:Nat):sIx n d none=d:=rfl
theorem sIx_nat(n d k:Nat):sIx n d (some (k:Int))=min k n:=by
 show (if (k:Int)<0 then ((k:Int)+(n:Int)).toNat else min (k:Int).toNat n)=min k n
 rw[if_neg (by omega),QaF]
theorem Zmt(n d:Nat)(hd:d≤n)(o:Option Int):sIx n d o≤n:=by
 cases o with
 | none=>exact hd
 | some v =>
  show (if v<0 then (v+(n:Int)).toNat else min v.toNat n)≤n
  by_cases hv:v<0
  ·rw[if_pos hv];omega
  ·rw[if_neg hv];exact Nat.min_le_right _ _
theorem Zhq(v:Int)(n d:Nat):(if v<0 then max (v+(n:Int)) 0 else min v (n:Int))=((sIx n d (some v):Nat):Int):=by
 show (if v<0 then max (v+(n:Int)) 0 else min v (n:Int))=(((if v<0 then (v+(n:Int)).toNat else min v.toNat n):Nat):Int)
 by_cases hv:v<0
 ·simp only[if_pos hv];omega
 ·simp only[if_neg hv];omega
theorem ZgE(lo hi:Option Int)(n:Nat):Builtin.Slice.sliceAdjust lo hi 1 (n:Int)=(((sIx n 0 lo:Nat):Int),((sIx n n hi:Nat):Int)):=by
 have h1:¬ ((1:Int)<0):=by omega
 unfold Builtin.Slice.sliceAdjust
 simp only[h1,if_false]
 refine Prod.ext ?_ ?_
 ·cases lo with
  | none=>rfl
  | some v=>exact Zhq v n 0
 ·cases hi with
  | none=>rfl
  | some v=>exact Zhq v n n
theorem Zhi(i j:Nat):Builtin.Slice.slicePlaces (i:Int) (j:Int) 1=j-i:=by
 unfold Builtin.Slice.slicePlaces
 have h1:(1:Int)>0:=by omega
 simp only[h1,if_true,Int.ediv_one]
 split<;>omega
theorem Zed{v:Value}{o:Option Int}{Q:Option Int→Shared→Prop}(p:IsPart v o)(h:Q o s):wpAny (model prog w) A (Builtin.Slice.slicePartIndex v) Q E s:=by
 cases p with
 | none=>exact slicePart_none h
 | int i t=>exact slicePart_int h
theorem ZdA{sl:Addr}{vl vu:Value}{lo hi:Option Int}{n:Nat}{Q:Int×Int×Nat→Shared→Prop}(hs:s.heap.IsSliceOf sl vl vu .none)(pl:IsPart vl lo)(pu:IsPart vu hi)
  (h:Q (((sIx n 0 lo:Nat):Int),1,sIx n n hi-sIx n 0 lo) s):wpAny (model prog w) A (Builtin.Slice.sliceApplied (.ref sl) (pure (n:Int))) Q E s:=by
 obtain⟨os,hos,hcs,hds⟩:=id hs
 unfold Builtin.Slice.sliceApplied Builtin.Slice.sliceFields
 refine wpAny_bind (wpAny_bind (wpAny_field hos hds (x:=vl) rfl (wpAny_bind (wpAny_field hos hds (x:=vu) rfl (wpAny_bind (wpAny_field hos hds (x:=.none) rfl (wpAny_pure ?_)))))))
 refine wpAny_bind (slicePart_none ?_)
 show wpAny _ _ (if ((1:Int) == 0)=true then _ else _) _ _ s
 rw[if_neg (by decide)]
 refine wpAny_bind (Zed pl (wpAny_bind (Zed pu (wpAny_bind (wpAny_pure ?_)))))
 show wpAny _ _ (match Builtin.Slice.sliceAdjust lo hi 1 (n:Int) with|(lo,hi)=>pure (lo,(1:Int),Builtin.Slice.slicePlaces lo hi 1)) _ _ s
 rw[ZgE lo hi n]
 show wpAny _ _ (pure (((sIx n 0 lo:Nat):Int),(1:Int),Builtin.Slice.slicePlaces ((sIx n 0 lo:Nat):Int) ((sIx n n hi:Nat):Int) 1)) _ _ s
 rw[Zhi]
 exact wpAny_pure h
theorem ZiZ(xs:Array Value)(i k:Nat):((List.range k).filterMap fun (m:Nat)=>xs[((i:Int)+(m:Int)*1).toNat]?).toArray=((xs.toList.drop i).take k).toArray:=by
 have e:(fun (m:Nat)=>xs[((i:Int)+(m:Int)*1).toNat]?)=fun m=>xs[i+m]?:=by
  funext m
  have:((i:Int)+(m:Int)*1).toNat=i+m:=by omega
  rw[this]
 rw[e]
 have:=pick_run xs i k
 rw[List.filterMap_map]at this
 have e2:((fun x=>xs[x]?) ∘ fun x=>i+x)=fun m=>xs[i+m]?:=rfl
 rw[e2]at this
 rw[this]
theorem getItem_tuple_cut{t sl:Addr}{items:Array Value}{vl vu:Value}{lo hi:Option Int}{Q:Value→Shared→Prop}(ht:IsTup s.heap t items)(hs:s.heap.IsSliceOf sl vl vu .none)(pl:IsPart vl lo)(pu:IsPart vu hi)
  (hw:¬ (sIx items.size 0 lo=0∧sIx items.size items.size hi=items.size))
  (h:Q (.ref s.heap.objs.size) { s with heap:=s.heap.push { cls:=.type "tuple",data:=.seq ((items.toList.drop (sIx items.size 0 lo)).take (sIx items.size items.size hi-sIx items.size 0 lo)).toArray } })
  (hsz:items.size≤sizeLine):wpAny (model prog w) A (getItem (.ref t) (.ref sl)) Q E s:=by
 have htake:sizeOk (.seq ((items.toList.drop (sIx items.size 0 lo)).take (sIx items.size items.size hi-sIx items.size 0 lo)).toArray):=by
  show ((items.toList.drop (sIx items.size 0 lo)).take (sIx items.size items.size hi-sIx items.size 0 lo)).toArray.size≤sizeLine
  rw[Qo,Qu,QN,Qs]
  omega
 have hj:sIx items.size items.size hi≤items.size:=Zmt _ _ (Qd _) hi
 obtain⟨os,hos,hcs,hds⟩:=id hs
 have hTs:s.TypeIs (.ref sl) "slice":=⟨os,hos,hcs⟩
 unfold getItem
 try with_reducible refine wpAny_holding ?_
 first|refine wpAny_bind (wpAny_pure ?_)|skip
 refine wpAny_bind (wpAny_sequenceKey ht.typeIs (by decide) ?_)
 refine wpAny_bind (wpAny_callSpecial?_slot (name:=Str.ofString "__getitem__") ht.typeIs Qab
  (wpAny_call_entry Qab ht.typeIs entry_tuple_getitem ?_ (args_tuple_getitem _ _)))
 show wpAny _ _ (Builtin.Tuple.tupleItemsOf (.ref t) >>= _) _ _ s
 refine wpAny_bind (tupleItemsOf_ ht ?_)
 refine wpAny_bind (wpAny_typeOf hTs ?_)
 rw[if_pos (by decide)]
 refine wpAny_bind (ZdA hs pl pu ?_)
 have hno:¬ ((((sIx items.size 0 lo:Nat):Int) == 0&&(1:Int) == 1&&(sIx items.size items.size hi-sIx items.size 0 lo) == items.size)=true):=by
  intro q
  rw[Qau,Qau]at q
  have q1:((sIx items.size 0 lo:Nat):Int)=0:=eq_of_beq q.1.1
  have q2:sIx items.size items.size hi-sIx items.size 0 lo=items.size:=eq_of_beq q.2
  exact hw ⟨by omega,by omega⟩
 show wpAny _ _ (if (((sIx items.size 0 lo:Nat):Int) == 0&&(1:Int) == 1&&(sIx items.size items.size hi-sIx items.size 0 lo) == items.size)=true then _ else _) _ _ s
 rw[if_neg hno,ZiZ]
 first
  | exact wpAny_bind (m:=Builtin.Tuple.tupleExact _) (wpAny_newObj_type (wpAny_pure ⟨_,rfl,wpAny_pure h⟩) htake)
  | exact wpAny_bind (m:=Builtin.Tuple.tupleExact _) (wpAny_newObj_type (wpAny_bind (wpAny_pure (wpAny_pure ⟨_,rfl,wpAny_pure h⟩))) htake)
  | exact wpAny_bind (wpAny_bind (m:=Builtin.Tuple.tupleExact _) (wpAny_newObj_type (wpAny_pure (wpAny_pure ⟨_,rfl,wpAny_pure h⟩)) htake))
  | exact wpAny_bind (wpAny_bind (m:=Builtin.Tuple.tupleExact _) (wpAny_newObj_type (wpAny_pure ⟨_,rfl,wpAny_pure h⟩) htake))
end
end HT
namespace L2
open PySem PySem.Spec PyProof.Rows
abbrev TO:=St→Hp→(Option Int→Hp→Prop)→Prop
def PO(X:Cx)(e:Option Expr)(t:TO):Prop :=
 ∀ (pins:List (Addr×Obj)) (s:Shared) (σ:St) (H:Hp) (Q:Option Int→Hp→Prop),Inv X pins σ H s→t σ H Q →
  wpAny (model X.prog X.w) X.A (evalPart e X.env) (fun u s'=>∃o H',Inv X pins σ H' s'∧IsPart u o∧Q o H') X.xe s
def ZlA:TO:=fun _ H Q=>Q none H
def Zm4(t:TE):TO:=fun σ H Q=>t σ H fun x H1=>∃i,x=.int i∧Q (some i) H1
theorem Zbr{ns:List Int}:∀ {us:List Value},Zy (ns.map V.int) us→IntsAre us ns:=by
 induction ns with
 | nil=>intro us r;rw[List.map_nil]at r;cases r;exact .nil
 | cons n ns ih =>
  intro us r
  rw[QD]at r
  cases r with
  | cons r1 r2 =>
   obtain⟨t,e⟩:=r1
   subst e
   exact .cons n t (ih r2)
section
variable {X:Cx} {e:Expr} {te:TE} {lo hi:Option Expr} {tl th:TO} {pos p2:Pos}
theorem ZcB:PO X none ZlA:=by
 intro pins s σ H Q I h
 rw[evalPart_none]
 exact wpAny_pure ⟨none,H,I,.none,h⟩
theorem ZaQ(h:PE X e te):PO X (some e) (Zm4 te):=by
 intro pins s σ H Q I hw
 rw[evalPart_some]
 refine thn (h pins s σ H _ I hw) ?_
 rintro u s1 ⟨x,H1,I1,r1,q1⟩
 obtain⟨i,rfl,q⟩:=q1
 obtain⟨t,rfl⟩:=r1
 exact⟨some i,H1,I1,.int i t,q⟩
def SlR(X:Cx)(r:V→Option Int→Option Int→Hp→VK→Prop):Prop :=
 ∀ (pins:List (Addr×Obj)) (s:Shared) (σ:St) (H:Hp) (x:V) (v vl vu:Value) (lo hi:Option Int) (sl:Addr) (Q:VK),Inv X pins σ H s→ZK x v→s.heap.IsSliceOf sl vl vu .none→IsPart vl lo→IsPart vu hi→r x lo hi H Q →
  ∃T id,typeLookup (.type T) "__getitem__" = pure (some (.builtin id))∧s.TypeIs v T∧wpAny (model X.prog X.w) X.A (getItem v (.ref sl)) (EP X pins σ Q) X.xe s
def tSl(r:V→Option Int→Option Int→Hp→VK→Prop)(te:TE)(tl th:TO):TE:=fun σ H Q=>te σ H fun x H1=>tl σ H1 fun l H2=>th σ H2 fun u H3=>r x l u H3 Q
theorem Zbv{r:V→Option Int→Option Int→Hp→VK→Prop}(hr:SlR X r)(he:PE X e te)(hl:PO X lo tl)(hu:PO X hi th):PE X (.Subscript e (.Slice lo hi none p2) pos) (tSl r te tl th):=by
 intro pins s σ H Q I h
 refine Subscript_ (thn (he pins s σ H _ I h) ?_)
 rintro v s1 ⟨x,H1,I1,r1,q1⟩
 refine wpAny_Slice (thn (hl pins s1 σ H1 _ I1 q1) fun vl s2 ⟨l,H2,I2,pl,q2⟩=>thn (hu pins s2 σ H2 _ I2 q2) ?_)
 rintro vu s3 ⟨u,H3,I3,pu,q3⟩
 rw[evalPart_none]
 refine wpAny_pure ?_
 have I4:Inv X pins σ H3 { s3 with heap:=s3.heap.push { cls:=.type "slice",data:=.fields #[vl,vu,.none] } }:=I3.kept (t':=s3.toks) fun b ob q=>Qa _ q
 obtain⟨T,id,hT,ht,hg⟩:=hr pins { s3 with heap:=s3.heap.push { cls:=.type "slice",data:=.fields #[vl,vu,.none] } } σ H3 x v vl vu l u s3.heap.objs.size Q I4 r1 (Heap.IsSliceOf.new ..) pl pu q3
 show wpAny (model X.prog X.w) X.A (subscriptTail e (.Slice lo hi none p2) v (.ref s3.heap.objs.size)) (EP X pins σ Q) X.xe { s3 with heap:=s3.heap.push { cls:=.type "slice",data:=.fields #[vl,vu,.none] } }
 exact tail_any (ops:=[.ref s3.heap.objs.size,v]) ht hT hg (by with_unfolding_all rfl)
def Zbw(xs:List V)(lo hi:Option Int):List V:=(xs.drop (HT.sIx xs.length 0 lo)).take (HT.sIx xs.length xs.length hi-HT.sIx xs.length 0 lo)
theorem ZdJ(xs:List V)(lo hi:Option Int):(Zbw xs lo hi).length≤xs.length:=by
 unfold Zbw
 rw[Qu,QN]
 omega
def Znv(K:PySem.W.Frag):V→Option Int→Option Int→Hp→VK→Prop:=fun x lo hi H Q=>∃a xs,x=.ref a∧SqT K H a xs ∧
 ¬ (HT.sIx xs.length 0 lo=0∧HT.sIx xs.length xs.length hi=xs.length)∧∀p,H p=none→Q (.ref p) (upd H p (.tup (Zbw xs lo hi)))
theorem Zms:SlR X (Znv X.K):=by
 intro pins s σ H x v vl vu lo hi sl Q I rx hs pl pu h
 obtain⟨a,xs,rfl,hx,hw,q⟩:=h
 cases rx
 obtain⟨its,r,ht,hz⟩:=I.tuple hx
 have hlen:its.toArray.size=xs.length:=by rw[Qo];exact r.length.symm
 refine⟨"tuple",_,PyProof.Rows.slot_tuple_getitem.lookup,ht.typeIs,?_⟩
 refine HT.getItem_tuple_cut ht hs pl pu (by rw[hlen];exact hw) ?_ (by rw[hlen];exact hz)
 rw[hlen]
 refine⟨.ref s.heap.objs.size,_,I.laid (t':=s.toks) (o:=.tup (Zbw xs lo hi)) (fun b ob q=>Qa _ q) (Qd _) ?_,rfl,q _ (I.hok.fresh (Qd _))⟩
 exact⟨QL (ZdJ xs lo hi) hz,_,(r.drop (HT.sIx xs.length 0 lo)).take (HT.sIx xs.length xs.length hi-HT.sIx xs.length 0 lo),IsTup.new _ _⟩
def Zne(K:PySem.W.Frag):R2:=fun x y H Q=>∃a b xs ys,x=.ref a∧y=.ref b∧SqT K H a xs∧SqT K H b ys∧xs≠[]∧xs.length+ys.length≤sizeLine ∧
 (ys=[]→Q (.ref a) H)∧(ys≠[]→∀p,H p=none→Q (.ref p) (upd H p (.tup (xs++ys))))
theorem Zy.nil_iff{xs:List V}{us:List Value}(r:Zy xs us):us=[]↔xs=[]:=by
 cases r with
 | nil=>simp
 | cons _ _=>simp
theorem Zkq:OpR X (binaryOp .Add) (Zne X.K):=by
 intro pins s σ H x y v u Q I rx ry h
 obtain⟨a,b,xs,ys,rfl,rfl,ha,hb,hx,hz,q1,q2⟩:=h
 cases rx
 cases ry
 obtain⟨its,r1,p1,_⟩:=I.tuple ha
 obtain⟨its2,r2,p2,_⟩:=I.tuple hb
 refine HT.cat_tup p1 p2 (fun z=>hx (r1.nil_iff.mp z)) (fun z=>⟨.ref a,H,I,rfl,q1 (r2.nil_iff.mp z)⟩) (fun z=>?_) (by rw[← r1.length,← r2.length];exact hz)
 refine⟨.ref s.heap.objs.size,_,I.laid (t':=s.toks) (o:=.tup (xs++ys)) (fun b ob q=>Qa _ q) (Qd _) ?_,rfl,q2 (fun w=>z (r2.nil_iff.mpr w)) _ (I.hok.fresh (Qd _))⟩
 exact⟨by rw[Qe];exact hz,_,r1.append r2,IsTup.new _ _⟩
end
def ixN(n:Nat)(i:Int):Option Nat:=if 0≤i then (if i<n then some i.toNat else none) else if -(n:Int)≤i then some (i+n).toNat else none
def atI{α:Type}(xs:List α)(i:Int):Option α:=(ixN xs.length i).bind fun j=>xs[j]?
theorem Zhu{n:Nat}{i:Int}{j:Nat}(h:ixN n i=some j):seqIndex? i n=some j∧j<n ∧ -(n:Int)≤i∧i<n:=by
 unfold ixN at h
 by_cases h0:0≤i
 ·rw[if_pos h0]at h
  by_cases h1:i<n
  ·rw[if_pos h1]at h
   have e:i.toNat=j:=QS h
   exact⟨by rw[seqIndex_of h0 h1,e],by omega,by omega,h1⟩
  ·rw[if_neg h1]at h;cases h
 ·rw[if_neg h0]at h
  by_cases h1:-(n:Int)≤i
  ·rw[if_pos h1]at h
   have e:(i+n).toNat=j:=QS h
   exact⟨by rw[seqIndex_neg (by omega) h1,e],by omega,h1,by omega⟩
  ·rw[if_neg h1]at h;cases h
theorem Zhz{α:Type}{xs:List α}{i:Int}{v:α}(h:atI xs i=some v):∃j,seqIndex? i xs.length=some j∧xs[j]? = some v∧j<xs.length ∧ -(xs.length:Int)≤i∧i<xs.length:=by
 unfold atI at h
 cases e:ixN xs.length i with
 | none=>rw[e]at h;cases h
 | some j =>
  rw[e]at h
  obtain⟨h1,h2,h3,h4⟩:=Zhu e
  exact⟨j,h1,h,h2,h3,h4⟩
theorem Zc2{α:Type}{xs:List α}{j:Nat}{v:α}(h:xs[j]? = some v):atI xs (j:Int)=some v:=by
 have hj:j<xs.length:=(Qn.mp h).1
 have e:ixN xs.length (j:Int)=some j:=by
  unfold ixN
  rw[if_pos (by omega),if_pos (by omega)];simp
 unfold atI;rw[e];exact h
def ZkP(b:Expr):Prop:=∀o i,subscripted b false o i=operate [o,i] (getItem o i)
def IxR(X:Cx)(r:R2):Prop :=
 ∀ (value slice:Expr) (pins:List (Addr×Obj)) (s:Shared) (σ:St) (H:Hp) (x y:V) (v u:Value) (Q:VK),Inv X pins σ H s→ZK x v→ZK y u→r x y H Q →
  subscripted slice false v u=operate [v,u] (getItem v u)→wpAny (model X.prog X.w) X.A (subscriptTail value slice v u) (EP X pins σ Q) X.xe s
def MtR(X:Cx)(id:String)(r:V→List V→Hp→VK→Prop):Prop :=
 ∀ (pins:List (Addr×Obj)) (s:Shared) (σ:St) (H:Hp) (x:V) (xs:List V) (v:Value) (us:List Value) (Q:VK),Inv X pins σ H s→ZK x v→Zy xs us→r x xs H Q →
  wpAny (model X.prog X.w) X.A (call (.builtin id) (v::us)) (EP X pins σ Q) X.xe s
section
variable {X:Cx} {a b:Expr} {ta tb:TE} {pos:Pos}
theorem ZI{r:R2}(hr:IxR X r)(ha:PE X a ta)(hb:PE X b tb)(hs:ZkP b):PE X (.Subscript a b pos) (tOp r ta tb):=by
 intro pins s σ H Q I h
 exact Subscript_ (ZmE ha hb I h fun v u s2 x y H2 I2 rx ry q=>hr a b pins s2 σ H2 x y v u Q I2 rx ry q (hs _ _))
def ZnA(K:PySem.W.Frag):R2:=fun x y H Q=>∃p xs i v,x=.ref p∧y=.int i∧SqL K H p xs∧atI xs i=some v∧Q v H
def Znx(K:PySem.W.Frag):R2:=fun x y H Q=>∃p xs i v,x=.ref p∧y=.int i∧SqT K H p xs∧atI xs i=some v∧Q v H
theorem Zk9:IxR X (ZnA X.K):=by
 intro value slice pins s σ H x y v u Q I rx ry h hs
 obtain⟨p,xs,i,z,rfl,rfl,hq,he,q⟩:=h
 cases rx
 obtain⟨t,rfl⟩:=ry
 obtain⟨its,r,pl,hz⟩:=I.list hq
 obtain⟨j,h1,h2,h3,h4,h5⟩:=Zhz he
 obtain⟨w,ew,rw'⟩:=r.get h2
 have hl:=r.length
 have hn:=Zfm
 have fin:EP X pins σ Q w s:=⟨z,H,I,rw',q⟩
 by_cases h0:0≤i
 ·have hj:i.toNat=j:=by
   rw[seqIndex_of h0 h5]at h1
   exact QS h1
  exact item_listR pl.isList h0 (by omega) (by rw[hj];simpa using ew) fin hs
 ·have hj:(i+(its.toArray.size:Int)).toNat=j:=by
   rw[seqIndex_neg (by omega) h4]at h1
   rw[Qo,← hl]
   exact QS h1
  exact subscriptTail_builtinR (x:=w) pl.isList.typeIs slot_list_getitem.lookup
   (wpAny_getItem_list_neg (Q:=fun r s'=>r=w∧EP X pins σ Q r s') pl.isList (by omega) (by rw[Qo]<;>omega) (by omega) (by rw[hj];simpa using ew) ⟨rfl,fin⟩) hs
theorem Zmv:IxR X (Znx X.K):=by
 intro value slice pins s σ H x y v u Q I rx ry h hs
 obtain⟨p,xs,i,z,rfl,rfl,hq,he,q⟩:=h
 cases rx
 obtain⟨t,rfl⟩:=ry
 obtain⟨its,r,pl,hz⟩:=I.tuple hq
 obtain⟨j,h1,h2,h3,h4,h5⟩:=Zhz he
 obtain⟨w,ew,rw'⟩:=r.get h2
 have hl:=r.length
 have hn:=Zfm
 have fin:EP X pins σ Q w s:=⟨z,H,I,rw',q⟩
 exact subscriptTail_builtinR (x:=w) pl.typeIs slot_tuple_getitem.lookup
  (getItem_tuple (j:=j) (Q:=fun r s'=>r=w∧EP X pins σ Q r s') pl (by omega) (by omega) (by rw[Qo,← hl];exact h1) (by simpa using ew) ⟨rfl,fin⟩) hs
theorem ZgB(its:List Value)(n j:Nat)(u:Value):Obj.mapSeq (·.setIfInBounds j u) { cls:=.type "list",data:=.seq its.toArray n }={ cls:=.type "list",data:=.seq (its.set j u).toArray n }:=by
 simp[Obj.mapSeq]
theorem Inv.lst{pins:List (Addr×Obj)}{σ:St}{H:Hp}{s:Shared}{p:Addr}{xs:List V}(I:Inv X pins σ H s)(h:H p=some (.lst xs)) :
  ∃ (its:List Value) (n:Nat),Zy xs its∧s.heap.get? p=some { cls:=.type "list",data:=.seq its.toArray n }∧xs.length≤sizeLine:=by
 obtain⟨z,its,n,r,e⟩:=I.hok p _ h
 exact⟨its,n,r,e,z⟩
theorem Inv.lstUpd{pins:List (Addr×Obj)}{σ:St}{H:Hp}{s:Shared}{p:Addr}{xs ys:List V}{its its':List Value}{n n':Nat}{f:Obj→Obj}(I:Inv X pins σ H s)(h:H p=some (.lst xs))
  (ho:s.heap.get? p=some { cls:=.type "list",data:=.seq its.toArray n }) (hf:f { cls:=.type "list",data:=.seq its.toArray n }={ cls:=.type "list",data:=.seq its'.toArray n' }) (r:Zy ys its') (hz:ys.length≤sizeLine) (t:Nat) :
  Inv X pins σ (upd H p (.lst ys)) { s with heap:=s.heap.update p f,toks:=t }:=by
 have e:(s.heap.update p f).get? p=some { cls:=.type "list",data:=.seq its'.toArray n' }:=by
  rw[Heap.get?_update_self f ho (by rw[hf]<;>rfl),hf]
 refine I.write (x:=p) (e:=p) (by rw[h];trivial) (.inl rfl) (fun b u hb q=>(Heap.get?_update_other _ _ (Ne.symm hb)).trans q) ⟨_,e⟩ ?_
 exact⟨hz,its',n',r,e⟩
def ZmY:V→V→V→Hp→(Hp→Prop)→Prop:=fun o i v H Q=>∃p xs k j,o=.ref p∧i=.int k∧H p=some (.lst xs)∧ixN xs.length k=some j∧Q (upd H p (.lst (xs.set j v)))
theorem Zf1:Zlt X ZmY:=by
 intro pins s σ H o i v ov iv u Q I ro ri rv h
 obtain⟨p,xs,k,j,rfl,rfl,hp,hj,q⟩:=h
 cases ro
 obtain⟨t,rfl⟩:=ri
 obtain⟨its,n,r,ho,hz⟩:=I.lst hp
 obtain⟨h1,h2,h3,h4⟩:=Zhu hj
 have hl:=r.length
 have hn:=Zfm
 have I':Inv X pins σ (upd H p (.lst (xs.set j v))) { s with heap:=s.heap.update p (Obj.mapSeq (·.setIfInBounds j u)) } :=
  I.lstUpd hp ho (ZgB its n j u) (r.set rv j) (by rw[List.length_set];exact hz) s.toks
 by_cases h0:0≤k
 ·have hk:k.toNat=j:=by
   rw[seqIndex_of h0 h4]at h1
   exact QS h1
  exact PySem.W.ki_setAt ho h0 (by omega) (by rw[Qo,← hl];exact h4) (by rw[hk];exact⟨_,I',q⟩)
 ·have hk:(k+(its.toArray.size:Int)).toNat=j:=by
   rw[seqIndex_neg (by omega) h3]at h1
   rw[Qo,← hl]
   exact QS h1
  exact PySem.W.ki_setBack ho (by omega) (by rw[Qo,← hl];exact h3) (by omega) (by rw[hk];exact⟨_,I',q⟩)
theorem Zfi(lo hi:Option Int)(n:Nat):(sliceBounds lo hi none n).1=((HT.sIx n 0 lo:Nat):Int)∧(sliceBounds lo hi none n).2.1=((HT.sIx n n hi:Nat):Int)∧(sliceBounds lo hi none n).2.2=1:=by
 refine⟨?_,?_,rfl⟩
 ·cases lo with
  | none=>simp[sliceBounds,HT.sIx]
  | some i =>
   simp only[sliceBounds,HT.sIx,Option.getD_none,show (1:Int)>0 by decide,if_true]
   by_cases h:i<0
   ·simp only[h,if_true]<;>omega
   ·simp only[h,if_false]<;>omega
 ·cases hi with
  | none=>simp[sliceBounds,HT.sIx]
  | some i =>
   simp only[sliceBounds,HT.sIx,Option.getD_none,show (1:Int)>0 by decide,if_true]
   by_cases h:i<0
   ·simp only[h,if_true]<;>omega
   ·simp only[h,if_false]<;>omega
theorem Zeq(its:List Value)(lo hi:Option Int):slicePick its.toArray lo hi none=((its.drop (HT.sIx its.length 0 lo)).take (HT.sIx its.length its.length hi-HT.sIx its.length 0 lo)).toArray:=by
 obtain⟨h1,h2,h3⟩:=Zfi lo hi its.toArray.size
 unfold slicePick
 rw[h1,h2,h3]
 simp only[sliceRange_one,pick_run,List.size_toArray]<;>rfl
def Znp(K:PySem.W.Frag):V→Option Int→Option Int→Hp→VK→Prop:=fun x lo hi H Q=>∃a xs,x=.ref a∧SqL K H a xs∧∀p,H p=none→Q (.ref p) (upd H p (.lst (Zbw xs lo hi)))
theorem ZkO:SlR X (Znp X.K):=by
 intro pins s σ H x v vl vu lo hi sl Q I rx hs pl pu h
 obtain⟨a,xs,rfl,hx,q⟩:=h
 cases rx
 obtain⟨its,r,ht,hz⟩:=I.list hx
 have hlen:=r.length
 refine⟨"list",_,slot_list_getitem.lookup,ht.isList.typeIs,?_⟩
 refine wpAny_getItem_list_slice ht.isList hs pl pu .none (by simp) ?_ (by rw[Qo]<;>omega)
 rw[Zeq,← hlen]
 refine⟨.ref s.heap.objs.size,_,I.laid (t':=s.toks) (o:=.lst (Zbw xs lo hi)) (fun b ob q=>Qa _ q) (Qd _) ?_,rfl,q _ (I.hok.fresh (Qd _))⟩
 exact⟨QL (ZdJ xs lo hi) hz,_,0,(r.drop (HT.sIx xs.length 0 lo)).take (HT.sIx xs.length xs.length hi-HT.sIx xs.length 0 lo),Qm _ rfl⟩
theorem Zfe:Z3 X (.builtin "len") (fun xs H Q=>∃p ys,xs=[.ref p]∧(SqL X.K H p ys∨SqT X.K H p ys)∧Q (.int ys.length) H):=by
 intro pins s σ H xs us Q I r h
 obtain⟨p,ys,rfl,hq,q⟩:=h
 obtain⟨u,rfl,rx⟩:=Zbq r
 cases rx
 have hn:=Zfm
 rcases hq with hq|hq
 ·obtain⟨its,r',pl,hz⟩:=I.list hq
  have hlen:=r'.length
  exact Calls.call_len_list pl.isList (by simp only[List.size_toArray]<;>omega) ⟨.int ys.length,H,I.tok _,⟨s.toks+1,by rw[Qo,hlen]⟩,q⟩
 ·obtain⟨its,r',pl,hz⟩:=I.tuple hq
  have hlen:=r'.length
  exact len_tuple pl (by simp only[List.size_toArray]<;>omega) ⟨.int ys.length,H,I.tok _,⟨s.toks+1,by rw[Qo,hlen]⟩,q⟩
theorem Zem:Z3 X (.type "tuple") (fun xs H Q=>∃p ys,xs=[.ref p]∧((SqL X.K H p ys∧∀l,H l=none→Q (.ref l) (upd H l (.tup ys)))∨(SqT X.K H p ys∧Q (.ref p) H))):=by
 intro pins s σ H xs us Q I r h
 obtain⟨p,ys,rfl,h⟩:=h
 obtain⟨u,rfl,rx⟩:=Zbq r
 cases rx
 rcases h with⟨hq,q⟩|⟨hq,q⟩
 ·obtain⟨its,r',pl,hz⟩:=I.list hq
  have hlen:=r'.length
  refine call_tuple_list pl.isList (fun h' kp=>?_) (by simp only[List.size_toArray]<;>omega)
  have I1:Inv X pins σ H { s with heap:=h' }:=I.kept (t':=s.toks) kp
  have I2:Inv X pins σ (upd H h'.objs.size (.tup ys)) { s with heap:=h'.push { cls:=.type "tuple",data:=.seq its.toArray } } :=
   I1.laid (t':=s.toks) (fun b o e=>Qa _ e) (Qd _) (show Z7 X.prog X.w _ _ _ (.tup ys) from⟨hz,its,r',IsTup.new _ _⟩)
  exact⟨.ref h'.objs.size,_,I2,rfl,q _ (I1.hok.fresh (Qd _))⟩
 ·obtain⟨its,r',pl,hz⟩:=I.tuple hq
  exact call_tuple_same pl ⟨.ref p,H,I,rfl,q⟩
def tyV(K:PySem.W.Frag)(T:String)(x:V)(H:Hp):Prop:=match x with
 | .str _=>T = "str"
 | .int _=>T = "int"
 | .ref p=>(T = "list"∧∃xs,SqL K H p xs)∨(T = "tuple"∧∃o,K.lookup p=some o∧o.cls=.type "tuple"∧o.dict=none) ∨
   (T = "dict"∧((∃kvs,H p=some (.dK kvs))∨∃kvs,H p=some (.dT kvs)))∨(T = "set"∧∃S n,H p=some (.set S n))
 | _=>False
theorem ZiU{pins:List (Addr×Obj)}{σ:St}{H:Hp}{s:Shared}{T:String}{x:V}{v:Value}(I:Inv X pins σ H s)(r:ZK x v)(ty:tyV X.K T x H) :
  s.TypeIs v T∧∀a,v=.ref a→∃ob,s.heap.get? a=some ob∧ob.dict=none:=by
 cases x with
 | str z =>
  obtain⟨t,rfl⟩:=r
  cases (show T = "str" from ty)
  exact⟨typeIs_str s z t,fun _ e=>nomatch e⟩
 | int i =>
  obtain⟨t,rfl⟩:=r
  cases (show T = "int" from ty)
  exact⟨typeIs_int s i t,fun _ e=>nomatch e⟩
 | ref p =>
  cases r
  rcases ty with⟨rfl,xs,hq⟩|⟨rfl,o,hk,hc,hd⟩|⟨rfl,hk⟩|⟨rfl,S,n,hk⟩
  ·obtain⟨its,_,pl,_⟩:=I.list hq
   refine⟨pl.isList.typeIs,fun a e=>?_⟩
   cases e
   obtain⟨o,n,e,c,hd,_⟩:=pl
   exact⟨o,e,hd⟩
  ·refine⟨⟨o,I.kIn p o hk,hc⟩,fun a e=>?_⟩
   cases e
   exact⟨o,I.kIn _ o hk,hd⟩
  ·have z:∃o,s.heap.get? p=some o∧o.ExactDict:=by
    rcases hk with⟨kvs,hk⟩|⟨kvs,hk⟩
    ·obtain⟨_,_,_,_,o,_,_,e,ex,_⟩:=I.hok p _ hk
     exact⟨o,e,ex⟩
    ·obtain⟨_,_,_,_,o,_,_,e,ex,_⟩:=I.hok p _ hk
     exact⟨o,e,ex⟩
   obtain⟨o,e,ex⟩:=z
   refine⟨⟨o,e,ex.1⟩,fun a e2=>?_⟩
   cases e2
   exact⟨o,e,ex.2.1⟩
  ·obtain⟨o,_,_,_,e,ex,_⟩:=I.hok p _ hk
   refine⟨⟨o,e,ex.1⟩,fun a e2=>?_⟩
   cases e2
   exact⟨o,e,ex.2.1⟩
 | _=>exact False.elim ty
def ZnP(K:PySem.W.Frag)(T:String)(r:V→List V→Hp→VK→Prop)(to:TE):TE:=fun σ H Q=>to σ H fun x H1=>tyV K T x H1∧r x [] H1 Q
def tBM(K:PySem.W.Frag)(T:String)(r:V→List V→Hp→VK→Prop)(to:TE)(t:TA):TE:=fun σ H Q=>to σ H fun x H1=>tyV K T x H1∧t σ H1 fun xs H2=>r x xs H2 Q
variable {o e:Expr} {es:List Expr} {to:TE} {t:TA} {name:Str} {apos cpos:Pos} {T id:String} {r:V→List V→Hp→VK→Prop}
theorem Zhk(pa:PlainAttrs T)(slot:Slot T name id)(hty:typeOf (.builtin id)=pure (.type "method_descriptor"))(hm:MtR X id r)(ho:PE X o to)
  (hbase:attributeBase o name X.env (eval o X.env)=eval o X.env:=by rfl) (hline:(apos.endLine == cpos.line)=true:=by rfl):PE X (.Call (.Attribute o name apos) [] [] cpos) (ZnP X.K T r to):=by
 intro pins s σ H Q I h
 refine wpAny_Call_method0_late hbase hline (thn (ho pins s σ H _ I h) ?_)
 rintro v s1 ⟨x,H1,I1,r1,ty,q1⟩
 obtain⟨h1,h2⟩:=ZiU I1 r1 ty
 exact⟨T,id,pa,slot,hty,h1,h2,Calls.callWith_builtin rfl (PySem.evalArgs_none (hm pins s1 σ H1 x [] v [] Q I1 r1 .nil q1))⟩
theorem ZdL(pa:PlainAttrs T)(slot:Slot T name id)(hty:typeOf (.builtin id)=pure (.type "method_descriptor"))(hm:MtR X id r)(ho:PE X o to)(ha:PA X (e::es) t)
  (hbase:attributeBase o name X.env (eval o X.env)=eval o X.env:=by rfl)
  (hfew:((backTo cpos (starEach (e::es) X.env)).all (fun x=>!x.1)&&(backToKw cpos (keywordEach [] X.env)).all (fun x=>x.1.isSome)
   && decide ((e::es).length+([]:List Keyword).length+(if ([]:List Keyword).isEmpty then 0 else 1)<30))=true:=by rfl)
  (hline:(apos.endLine == cpos.line)=true:=by rfl) (hs:starEach (e::es) X.env=(false,eval e X.env)::starEach es X.env:=by rfl) (hplain:(backTo cpos (starEach es X.env)).any (·.1)=false:=by rfl) :
  PE X (.Call (.Attribute o name apos) (e::es) [] cpos) (tBM X.K T r to t):=by
 intro pins s σ H Q I h
 refine wpAny_Call_method_late hbase hfew hline rfl (thn (ho pins s σ H _ I h) ?_)
 rintro v s1 ⟨x,H1,I1,r1,ty,q1⟩
 obtain⟨h1,h2⟩:=ZiU I1 r1 ty
 refine⟨T,id,pa,slot,hty,h1,h2,?_⟩
 have hA:=ha cpos pins s1 σ H1 _ I1 q1
 rw[hs]at hA ⊢
 refine Calls.callWith_builtin (by show (false||(backTo cpos (starEach es X.env)).any (·.1))=false;rw[hplain]<;>rfl) (Calls.evalArgs_plain ?_)
 exact thn hA fun us s2 ⟨vs,H2,I2,r2,q2⟩=>hm pins s2 σ H2 x vs v us Q I2 r1 r2 q2
end
def MtM(X:Cx)(id:String)(r:V→List V→Hp→VK→Prop):Prop :=
 ∀ (pins:List (Addr×Obj)) (s:Shared) (σ:St) (H:Hp) (x:V) (xs:List V) (v:Value) (us:List Value) (Q:VK),Inv X pins σ H s→ZK x v→Zy xs us→r x xs H Q →
  wpAny (model X.prog X.w) X.A (call (.builtin id) (v::us)) (EP X pins σ Q) X.xe s
theorem Zy.one:∀ {x:V} {us:List Value},Zy [x] us→∃u,us=[u]∧ZK x u
 | _,_,.cons r .nil=>⟨_,rfl,r⟩
theorem Zy.two:∀ {x y:V} {us:List Value},Zy [x,y] us→∃u v,us=[u,v]∧ZK x u∧ZK y v
 | _,_,_,.cons r (.cons q .nil)=>⟨_,_,rfl,r,q⟩
theorem Zy.zero:∀ {us:List Value},Zy [] us→us=[]
 | _,.nil=>rfl
theorem Zy.dropLast{xs:List V}{us:List Value}(h:Zy xs us):Zy xs.dropLast us.dropLast:=by
 induction h with
 | nil=>exact .nil
 | cons r t ih =>
  cases t with
  | nil=>exact .nil
  | cons q t'=>exact .cons r ih
theorem ZgD{α:Type}(l:List α):l.eraseIdx (l.length-1)=l.dropLast:=by
 induction l with
 | nil=>rfl
 | cons a r ih =>
  cases r with
  | nil=>rfl
  | cons b r =>
   have e:(a::b::r).length-1=((b::r).length-1)+1:=by
    have h1:(a::b::r).length=r.length+2:=rfl
    have h2:(b::r).length=r.length+1:=rfl
    omega
   rw[e,List.eraseIdx_cons_succ,ih]
   all_goals rfl
section
variable {X:Cx} {pins:List (Addr×Obj)} {σ:St} {H:Hp} {s:Shared} {l b:Addr} {xs ys zs:List V}
theorem Inv.lset{its its':List Value}{n:Nat}{f:Array Value→Array Value}{t':Nat}(I:Inv X pins σ H s)(hH:H l=some (.lst xs))
  (e:s.heap.get? l=some { cls:=.type "list",data:=.seq its.toArray n }) (hf:f its.toArray=its'.toArray) (hv:Zy ys its') (hz:ys.length≤sizeLine) :
  Inv X pins σ (upd H l (.lst ys)) { s with heap:=s.heap.update l (Obj.mapSeq f),toks:=t' }:=by
 have q:=PySem.IsL.update e f
 rw[hf]at q
 refine I.write (x:=l) (e:=l) (by rw[hH];exact trivial) (.inl rfl) (fun b' u hb hu=>(Heap.get?_update_other s.heap (Obj.mapSeq f) (Ne.symm hb)).trans hu) ⟨_,q⟩ ?_
 exact⟨hz,its',_,hv,q⟩
theorem Inv.lnew{its:List Value}{t':Nat}(I:Inv X pins σ H s)(hv:Zy ys its)(hz:ys.length≤sizeLine) :
  Inv X pins σ (upd H s.heap.objs.size (.lst ys)) { s with heap:=s.heap.push { cls:=.type "list",data:=.seq its.toArray },toks:=t' } :=
 I.laid (fun _ _ q=>Qa _ q) (Qd _) ⟨hz,its,0,hv,Qm _ rfl⟩
theorem Inv.fresh(I:Inv X pins σ H s):H s.heap.objs.size=none:=I.hok.fresh (Qd _)
theorem Inv.lstM(I:Inv X pins σ H s)(hH:H l=some (.lst xs)):xs.length≤sizeLine∧∃ (its:List Value) (n:Nat),Zy xs its∧xs.length=its.length∧s.heap.get? l=some { cls:=.type "list",data:=.seq its.toArray n }:=by
 obtain⟨z,its,n,r,e⟩:=I.hok l _ hH
 exact⟨z,its,n,r,r.length,e⟩
theorem ZfP{n:Nat}(h:n≤sizeLine):Builtin.List.listTooLong n=false:=by
 unfold Builtin.List.listTooLong
 exact decide_eq_false (by omega)
end
section
variable {X:Cx}
def Zkk:V→List V→Hp→VK→Prop:=fun x vs H Q=>∃l xs y,x=.ref l∧vs=[y]∧H l=some (.lst xs)∧xs.length<sizeLine∧Q .non (upd H l (.lst (xs++[y])))
theorem Zbg:MtM X "list.append" Zkk:=by
 intro pins s σ H x vs v us Q I rx rv h
 obtain⟨l,xs,y,rfl,rfl,hH,hz,q⟩:=h
 cases rx
 obtain⟨u,rfl,ru⟩:=rv.one
 obtain⟨z,its,n,r,hl,e⟩:=I.lstM hH
 refine call_meets F.slot_list_append ⟨_,e,rfl⟩ F.entry_list_append (F.args_list_append_2 _ _) (PySem.list_append l its.toArray n u (by rw[Qo];omega)) ⟨e,?_⟩
 refine⟨.non,_,I.lset (its':=its++[u]) hH e (by simp) (r.append (.cons ru .nil)) ?_,rfl,q⟩
 rw[Qe,Qy]
 omega
def ZkC:V→List V→Hp→VK→Prop:=fun x vs H Q=>∃l b xs zs,x=.ref l∧vs=[.ref b]∧H l=some (.lst xs)∧H b=some (.lst zs)∧xs.length+zs.length≤sizeLine∧Q .non (upd H l (.lst (xs++zs)))
theorem ZiD:MtM X "list.extend" ZkC:=by
 intro pins s σ H x vs v us Q I rx rv h
 obtain⟨l,b,xs,zs,rfl,rfl,hH,hB,hz,q⟩:=h
 cases rx
 obtain⟨u,rfl,ru⟩:=rv.one
 cases ru
 obtain⟨z,its,n,r,hl,e⟩:=I.lstM hH
 obtain⟨z2,its2,n2,r2,hl2,e2⟩:=I.lstM hB
 have hsz:its.toArray.size+its2.toArray.size≤sizeLine:=by rw[Qo,Qo];omega
 have hlong:¬ (!its.toArray.isEmpty&&Builtin.List.listTooLong (its.toArray.size+its2.toArray.size))=true:=by
  rw[ZfP hsz,Bool.and_false]
  exact Qj
 refine call_meets F.slot_list_extend ⟨_,e,rfl⟩ F.entry_list_extend (F.args_list_extend_2 _ _)
  (AutoSeq1.list_extend_list_list_0 l its.toArray n b its2.toArray n2 hlong (by rw[Qo];omega) (by omega)) ⟨e,e2,?_⟩
 refine⟨.non,_,I.lset (its':=its++its2) hH e (by simp) (r.append r2) ?_,rfl,q⟩
 rw[Qe]
 omega
def ZnX:V→List V→Hp→VK→Prop:=fun x vs H Q=>∃l xs y,x=.ref l∧vs=[]∧H l=some (.lst xs)∧xs[xs.length-1]? = some y∧Q y (upd H l (.lst xs.dropLast))
theorem ZgM:MtM X "list.pop" ZnX:=by
 intro pins s σ H x vs v us Q I rx rv h
 obtain⟨l,xs,y,rfl,rfl,hH,hy,q⟩:=h
 cases rx
 have hus:=rv.zero
 subst hus
 obtain⟨z,its,n,r,hl,e⟩:=I.lstM hH
 obtain⟨u,hu,ru⟩:=r.get hy
 have hy':its.toArray[its.toArray.size-1]? = some u:=by
  show its.toArray[its.length-1]? = some u
  rw[← QP,← hl]
  exact hu
 refine call_meets F.slot_list_pop ⟨_,e,rfl⟩ F.entry_list_pop (F.args_list_pop_1 _) (MeetsSeq.list_pop_last l its.toArray n u hy' (by rw[Qo];omega)) ⟨e,?_⟩
 refine⟨y,_,I.lset (its':=its.dropLast) hH e ?_ r.dropLast ?_,ru,q⟩
 ·show its.toArray.eraseIdxIfInBounds (its.toArray.size-1)=its.dropLast.toArray
  rw[Qo,List.eraseIdxIfInBounds_toArray,ZgD]
 ·rw[QaI]
  omega
def Zn5:R2:=fun x y H Q=>∃l b xs zs,x=.ref l∧y=.ref b∧H l=some (.lst xs)∧H b=some (.lst zs)∧xs.length+zs.length≤sizeLine∧∀p,H p=none→Q (.ref p) (upd H p (.lst (xs++zs)))
theorem Zdq:OpR X (binaryOp .Add) Zn5:=by
 intro pins s σ H x y v u Q I rx ry h
 obtain⟨l,b,xs,zs,rfl,rfl,hH,hB,hz,q⟩:=h
 cases rx
 cases ry
 obtain⟨z,its,n,r,hl,e⟩:=I.lstM hH
 obtain⟨z2,its2,n2,r2,hl2,e2⟩:=I.lstM hB
 refine PySem.P.add_list e e2 ?_ (by rw[Qo,Qo];omega)
 have ea:its.toArray++its2.toArray=(its++its2).toArray:=by simp
 rw[ea]
 exact⟨.ref _,_,I.lnew (t':=s.toks) (r.append r2) (by rw[Qe];omega),rfl,q _ I.fresh⟩
end
section
variable {prog:Program} {w:World} {A:Around} {E:Value→Shared→Prop} {s:Shared}
end
section
variable {X:Cx}
end
end L2
namespace Att
open PySem PySem.W PySem.Calls PyProof.Rows
theorem ZdM{P:Params}{h:Heap}:∀ (ns:List Int) (vs:List Value),WellAll P h vs (ns.map WData.int)→IntsAre vs ns:=by
 intro ns
 induction ns with
 | nil =>
  intro vs w
  rw[List.map_nil]at w
  cases w
  exact .nil
 | cons n ns ih =>
  intro vs w
  rw[QD]at w
  cases w with
  | cons a b =>
   cases a
   exact .cons _ _ (ih _ b)
theorem Ziy{l:OpenLaw}{n:Nat}(hn:l.most=some n){P:Params}{h:Heap}{args:List WData}{vals:List Value}
  (hpre:l.row.toRowW.claim.pre args=true) (hwl:WellAll P h vals args) :
  ∃a vs ns,vals=[Value.ref a]∧args=[WData.list (ns.map WData.int)]∧h.get? a=some { cls:=.type "list",data:=.seq vs.toArray }∧IntsAre vs ns∧ns.length≤n:=by
 have hsh:WShape.hasAll [] args [.list .int]=true:=(pre_splitW hpre).1
 have hc:l.pre.holds [] { args:=args }=true:=(pre_splitW hpre).2
 obtain⟨d,r,rfl,h1,h2⟩:=hasAllW_cons hsh
 obtain rfl:=hasAllW_nil h2
 obtain⟨xs,rfl,h3⟩:=hasW_list h1
 obtain⟨ns,rfl⟩:=items_int h3
 have hlen:ns.length≤n:=by
  unfold OpenLaw.pre at hc
  have h4:(WTm.not (.lt (.lit (.int (n:Int))) (.len (.arg 0)))).holds [] { args:=[.list (ns.map .int)] }=true:=by
   have h4:=(holds_andW hc).1
   rw[hn]at h4
   exact h4
  have h5:=condW_of h4 (w_not (w_lt w_lit (w_len_list (w_arg rfl))))
  rw[Qb]at h5
  refine Nat.le_of_not_lt fun q=>?_
  have q':(n:Int)<((ns.length:Nat):Int):=by omega
  first
   | (rw[decide_eq_true q']at h5;exact absurd h5 (by decide))
   | (simp at h5;omega)
 cases hwl with
 | cons w1 w2 =>
  cases w2
  cases w1 with
  | list ho hall=>exact⟨_,_,ns,rfl,rfl,ho,ZdM ns _ hall,hlen⟩
theorem Ziu(l:OpenLaw)(args:List WData):l.row.toRowW.claim.post args (.bool true) args=true :=
 postW_of (r:=l.row.toRowW) (X:=(true == true))
  (show WShape.has [] (.bool true) .bool=true by first|rfl|decide|simp[WShape.has,WShape.arms,WShape.armsAll])
  (show (WTm.eq .res (.lit (.bool true))).value [] { args:=args,res:=some (.bool true),after:=args }=some (.bool (true == true)) from w_eq_bool (w_res rfl) w_lit) rfl
theorem attach_call{l:OpenLaw}{n:Nat}{q:Program}{loose:List Str}{XP:(Str→Option Value)→Heap→Prop}{YP:World→Heap→Prop}{d:DefRec}
  (hn:l.most=some n) (hdf:d.params.defaults=[])
  (call:∀ (w:World) (s₀ s₁:Shared) (mg mb:Str→Option Value) (fa:Addr) (o:Obj) (pm cd doc:Value) (a:Addr) (vs:List Value) (ns:List Int),
   Ground q loose [] XP w s₀ mg mb s₁.heap→YP w s₁.heap →
   s₁.heap.get? fa=some o→o.data=.func (docDef d.name d.params d.body d.scope pm cd doc)→s₁.heap.CodeRec cd d.name→mg d.name=some (.ref fa) →
   s₁.heap.get? a=some { cls:=.type "list",data:=.seq vs.toArray }→IntsAre vs ns→ns.length≤n→s₁.gens = #[] →
   codeAny (model l.prog w) callerA (.call (.ref fa) ⟨[.ref a],[]⟩) (fun r s'=>r=.ok (.ret (.bool true))∧OldK s₁.heap s'.heap∧s'.os=s₁.os∧AllBare s'.gens) s₁) :
  WalkO q loose XP YP l.row.toRowW d [] (fun f vs=>PySem.call f vs):=by
 intro w s₀ s₁ mg mb G Y fa o pm cd doc dV kV ho hd hcd hD hmg hg args vals as hpre hlay hrd hwl hlo
 obtain rfl:dV=.none:=Dflts.none hD hdf
 obtain rfl:kV=.none:=Dflts.noKw hD
 obtain⟨a,vs,ns,rfl,rfl,hobj,hints,hlen⟩:=Ziy hn hpre hwl
 refine enter_call (codeAny_mono (call w s₀ s₁ mg mb fa o pm cd doc a vs ns G Y ho (fd_plain hd) hcd hmg hobj hints hlen hg) fun r s' hq=>?_)
 obtain⟨rfl,h2,h3,h4⟩:=hq
 exact⟨.inl ⟨.bool true,.bool true,[],rfl,fun _=>rfl,.bool true,Ziu l _,fun _=>⟨List.Pairwise.nil,fun _ hm=>(nomatch hm)⟩⟩,h2,h3,h4⟩
section
variable {prog:Program} {w:World} {A:Around} {E:Value→Shared→Prop} {s:Shared} {K:Frag}
end
end Att
namespace L2
open PySem PySem.Spec PyProof.Rows
theorem Zcx:∀ {vs:List Value} {ns:List Int},IntsAre vs ns→Zy (ns.map V.int) vs
 | _,_,.nil=>.nil
 | _,_,.cons n t h=>.cons ⟨t,rfl⟩ (Zcx h)
def Zmo(H:Hp):Prop:=∀b,H b=none∨∃o xs,H b=some (.frz o (.lst xs))
theorem Zi6{P:Program}{w:World}{K:PySem.W.Frag}{mg mb:Str→Option Value}{CX:CXT}{k:Nat}{fa a:Addr}{fd:FuncData}{x:Str}{sp:Sp}{s₁:Shared}{vs:List Value}{ns:List Int}
  (KX:K.In s₁.heap) (hns:s₁.heap.Ns mainGlobals mg) (hb:s₁.heap.Ns builtinsNs mb) (hbb:∀x:Str,x ≠ "__name__"→mb x=bootBuiltins x) (hlim:s₁.heap.NoLimit) (hg:s₁.gens = #[])
  (ha:s₁.heap.get? a=some { cls:=.type "list",data:=.seq vs.toArray }) (hi:IntsAre vs ns) (hl:ns.length≤sizeLine) (hr:ZaM k callerA)
  (F:∀base:Heap,K.In base→base.Ns mainGlobals mg→ZdQ P w K mg base CX k fa fd [x] sp) (hbind:∀ (s:Shared) (u:Value),BindsTo s fd ⟨[u],[]⟩ [(x,u)])
  (hsp:∀H:Hp,Zmo H→SqL K H a (ns.map V.int)→sp [.ref a] H (fun v _=>v=.bl true) fun _ _ _=>False)
  (hCX:∀H e s',CX [] H s₁ (fun _ _ _=>False) e s'→False) :
  codeAny (model P w) callerA (.call (.ref fa) ⟨[.ref a],[]⟩) (fun r s'=>r=.ok (.ret (.bool true))∧OldK s₁.heap s'.heap∧s'.os=s₁.os∧AllBare s'.gens) s₁:=by
 have rv:=Zcx hi
 have lenV:=hi.length
 have core:∀H:Hp,Zmo H→SqL K H a (ns.map V.int)→HOk P w H s₁.heap→(∀b,H b≠none→b=a)→(H a≠none→K.lookup a=none) →
   codeAny (model P w) callerA (.call (.ref fa) ⟨[.ref a],[]⟩) (fun r s'=>r=.ok (.ret (.bool true))∧OldK s₁.heap s'.heap∧s'.os=s₁.os∧AllBare s'.gens) s₁:=by
  intro H hO hS hok hA hK
  have base_of:∀ {b:Addr} {o:Obj},s₁.heap.get? b=some o→H b=none→(Zfh s₁.heap H).get? b=some o:=fun e n=>Zjs e n
  have noA:∀ {b:Addr} {o:Obj} {es:Array DictEntry} {ep:Nat},s₁.heap.get? b=some o→o.data=.dict es ep→H b=none:=fun {b o es ep} e d=>by
   cases q:H b with
   | none=>rfl
   | some u =>
    have e':b=a:=hA b (by rw[q];simp)
    subst e'
    rw[ha]at e;cases e
    have d':Data.seq vs.toArray _=Data.dict es ep:=d
    cases d'
  have nsK:∀ {b:Addr} {m:Str→Option Value},s₁.heap.Ns b m→(Zfh s₁.heap H).Ns b m:=fun {b m} ⟨o,es,ep,e,d,r⟩=>⟨o,es,ep,base_of e (noA e d),d,r⟩
  have hKb:K.In (Zfh s₁.heap H):=fun b o e=>base_of (KX b o e) (by
   cases q:H b with
   | none=>rfl
   | some u =>
    have e':b=a:=hA b (by rw[q];simp)
    subst e'
    rw[hK (by rw[q];simp)]at e;cases e)
  have hM:Mod K mg (Zfh s₁.heap H):=⟨hKb,nsK hns,⟨mb,nsK hb,hbb⟩,let ⟨mc,h1,h2⟩:=hlim;⟨mc,nsK h1,h2⟩⟩
  have e0:Zk3 P w K mg (Zfh s₁.heap H) callerA [] s₁ H:=⟨rfl,hM,fun b o e=>ZkX e,Nat.le_of_eq (Zij _ _),trivial,fun b hb=>absurd (show b∈([]:List Addr) from hb) (by simp),hok,.of_eq hg⟩
  refine codeAny_mono ((F _ hKb (nsK hns)).run callerA [] s₁ H ⟨[.ref a],[]⟩ [.ref a] [.ref a] _ _ hr e0 (hbind s₁ (.ref a)) (.cons rfl .nil) (hsp H hO hS)) fun r s' h=>?_
  cases r with
  | error e=>exact(hCX H e s' h).elim
  | ok fl =>
   cases fl with
   | next=>exact False.elim h
   | brk=>exact False.elim h
   | cont=>exact False.elim h
   | ret u =>
    obtain⟨v,H',os,bare,un,hok',r',q⟩:=h
    have q':v=.bl true:=q
    subst q'
    obtain rfl:u=Value.bool true:=r'
    refine⟨rfl,OldK.of_keep fun b o e=>?_,os,bare⟩
    cases q:H b with
    | none=>exact un.keep b o e q (by intro z;exact absurd (show b∈([]:List Addr) from z) (by simp)) (by simp)
    | some u =>
     rcases hO b with z|⟨ob,xs,z⟩
     ·rw[q]at z;cases z
     ·have z2:=un.frzs b ob _ z
      obtain⟨e1,_⟩:=hok b _ z
      obtain⟨e2,_⟩:=hok' b _ z2
      rw[e]at e1;cases e1
      exact e2
 cases hk:K.lookup a with
 | some o =>
  have e:=KX a o hk
  rw[ha]at e
  cases e
  refine core (fun _=>none) (fun _=>.inl rfl) (.inr ⟨_,vs.toArray,_,hk,rfl,rfl,rfl,by rw[Qo,lenV];exact hl,by simpa using rv⟩) (fun b u z=>by have z':(none:Option HO)=some u:=z;cases z') (fun b z=>absurd rfl z) fun z=>absurd rfl z
 | none =>
  refine core (fun b=>if b=a then some (.frz { cls:=.type "list",data:=.seq vs.toArray } (.lst (ns.map V.int))) else none) (fun b=>?_) (.inl (.inr ⟨{ cls:=.type "list",data:=.seq vs.toArray },if_pos rfl⟩)) (fun b u z=>?_) (fun b z=>?_) fun _=>hk
  ·by_cases hb:b=a
   ·exact .inr ⟨_,_,if_pos hb⟩
   ·exact .inl (if_neg hb)
  ·by_cases hb:b=a
   ·have z':=(if_pos hb).symm.trans z
    cases z'
    subst hb
    exact⟨ha,by rw[Qb];exact hl,vs,_,rv,ha⟩
   ·have z':=(if_neg hb).symm.trans z
    cases z'
  ·by_cases hb:b=a
   ·exact hb
   ·exact absurd (if_neg hb) z
theorem walk_of{l:PySem.W.OpenLaw}{n k:Nat}{q:Program}{loose:List Str}{XP:(Str→Option Value)→Heap→Prop}{YP:World→Heap→Prop}{d:DefRec}{K:Params→PySem.W.Frag}{CX:World→CXT}{sp:World→Sp}{x:Str}
  (hn:l.most=some n) (hn2:n≤sizeLine) (hdf:d.params.defaults=[]) (hr:ZaM k callerA)
  (hY:∀ (w:World) (h:Heap),YP w h→(K w.params).In h)
  (F:∀ (w:World) (mg:Str→Option Value) (fa:Addr) (h:Heap),(K w.params).In h→h.Ns mainGlobals mg→mg d.name=some (.ref fa) →
   ∃fd:FuncData,(∀ (s:Shared) (u:Value),BindsTo s fd ⟨[u],[]⟩ [(x,u)]) ∧
    ∀base:Heap,(K w.params).In base→base.Ns mainGlobals mg→ZdQ l.prog w (K w.params) mg base (CX w) k fa fd [x] (sp w))
  (hsp:∀ (w:World) (H:Hp) (a:Addr) (ns:List Int),ns.length≤n→Zmo H→SqL (K w.params) H a (ns.map V.int)→sp w [.ref a] H (fun v _=>v=.bl true) fun _ _ _=>False)
  (hCX:∀ (w:World) (H:Hp) (s:Shared) (e:Value) (s':Shared),CX w [] H s (fun _ _ _=>False) e s'→False) :
  PySem.W.WalkO q loose XP YP l.row.toRowW d [] (fun f vs=>PySem.call f vs):=by
 refine Att.attach_call hn hdf fun w s₀ s₁ mg mb fa o pm cd doc a vs ns G Y ho hd hcd hmg hobj hints hlen hg=>?_
 have KX:=hY w _ Y
 obtain⟨fd,hb,hF⟩:=F w mg fa _ KX G.T.g hmg
 exact Zi6 KX G.T.g G.T.b G.T.builtins G.T.nolimit hg hobj hints (QL hlen hn2) hr hF hb (fun H hO hS=>hsp w H a ns hlen hO hS) fun H e s'=>hCX w H s₁ e s'
def Zp(s:Stmt):Arguments:=match s with
 | .FunctionDef _ a _ _ _ _ _ _ _ _=>a
 | _=>{ posonlyargs:=[],args:=[],vararg:=none,kwonlyargs:=[],kw_defaults:=[],kwarg:=none,defaults:=[] }
def Zo(s:Stmt):List Stmt:=match s with
 | .FunctionDef _ _ b _ _ _ _ _ _ _=>b
 | _=>[]
def Zf(s:Stmt):Scope:=match s with
 | .FunctionDef _ _ _ _ _ _ sc _ _ _=>sc
 | _=>{ kind:=.function,names:=[],isGenerator:=false,isCoroutine:=false }
abbrev CX0:CXT:=fun _ _ _ _ _ _=>False
abbrev E0:XK:=fun _ _ _=>False
theorem Znl{X:Cx}:Zhb CX0 X E0:=fun _ _ _ _ _ _ _ h=>h.elim
structure Fun (K:PySem.W.Frag) (x qual:Str) (st:Stmt) (f:Addr) (fd:FuncData):Prop where
 ex:∃ (oc:Value) (od:Option Addr) (kV doc pm:Value) (an:Option Addr) (cdv ct:Value) (osl:Array (Option Value)),
  fd=PySem.W.fnOf x qual (Zp st) (Zo st) (Zf st) .none kV doc pm an cdv ct∧K.lookup f=some ⟨oc,od,.func fd,osl⟩∧PySem.W.codeIn K cdv qual=true
 kp:PySem.W.keepIn K (.ref f)=true
section
variable {P:Program} {w:World} {K:PySem.W.Frag} {mg:Str→Option Value} {base:Heap}
theorem Fun.ok{x qual:Str}{st:Stmt}{f:Addr}{fd:FuncData}{N ps:List Str}{k:Nat}{sp:Sp}(F:Fun K x qual st f fd)(S:Zr N ps (Zf st))(len:∀vs H Q E,sp vs H Q E→vs.length=ps.length)
  (hbody:∀ (cdv:Value) (A:Around) (outer:List Env) (s:Shared) (H:Hp) (vs:List V) (Q:VK) (E:XK),ZaM k (A.deeper (envOfC qual (Zf st) s.heap.objs.size f cdv))→sp vs H Q E →
   ∃t,PSs (Zg8 CX0 P w K mg base N qual (Zf st) f cdv A outer s H E).nox (Zo st) t∧t { nx:=fun _ H'=>Q .non H',rt:=Q } (Zdc N vs) H):ZdQ P w K mg base CX0 (k+1) f fd ps sp:=by
 obtain⟨oc,od,kV,doc,pm,an,cdv,ct,osl,rfl,lk,hcd⟩:=F.ex
 refine Zm2 lk hcd S len fun A outer s H vs Q E hr hsp=>?_
 obtain⟨t,h,q⟩:=hbody cdv A outer s H vs Q E hr hsp
 exact⟨t,h.nox,q⟩
theorem Fun.binds{x qual:Str}{st:Stmt}{f:Addr}{fd:FuncData}{ps:List Str}(F:Fun K x qual st f fd)
  (h:∀ (kV doc pm:Value) (an:Option Addr) (cdv ct:Value) (us:List Value),us.length=ps.length→bindArgs (PySem.W.fnOf x qual (Zp st) (Zo st) (Zf st) .none kV doc pm an cdv ct) ⟨us,[]⟩=pure (ps.zip us)):Zcn K fd ps []:=by
 obtain⟨oc,od,kV,doc,pm,an,cdv,ct,osl,rfl,lk,hcd⟩:=F.ex
 exact .all (h kV doc pm an cdv ct)
theorem ZgF{x qual:Str}{st:Stmt}{f:Addr}{oc:Value}{od an:Option Addr}{osl:Array (Option Value)}{kV doc pm cdv ct:Value}(l:K.lookup f=some ⟨oc,od,.func (PySem.W.fnOf x qual (Zp st) (Zo st) (Zf st) .none kV doc pm an cdv ct),osl⟩)
  (c:PySem.W.codeIn K cdv qual=true) (k:PySem.W.keepIn K (.ref f)=true):Fun K x qual st f (PySem.W.fnOf x qual (Zp st) (Zo st) (Zf st) .none kV doc pm an cdv ct):=⟨⟨oc,od,kV,doc,pm,an,cdv,ct,osl,rfl,l,c⟩,k⟩
end
theorem ZB{n:Nat}(h:n≤1000):n<sizeLine:=Nat.lt_of_le_of_lt h (by decide)
section
variable {X:Cx}
theorem pv(i:Nat){x:Str}{pos:Pos}(hN:X.N[i]? = some x:=by rfl)(hv:Vis X.env.scope x:=by first|exact Or.inl rfl|exact Or.inr (Or.inl rfl)|exact Or.inr (Or.inr rfl))(hd:(x == ("__debug__" : Str))=false:=by decide)
  (hcd:(x == ("__classdict__" : Str))=false:=by decide):PE X (.Name x pos) (Zlv i):=Zhj hN hv hd hcd
end
theorem ZaB{A B:Prop}(h:B):if false=true then A else B:=by
 rw[if_neg Qj]
 exact h
theorem ZY{A B:Prop}(h:A):if true=true then A else B:=by
 rw[if_pos rfl]
 exact h
theorem ZdN{c A B:Prop}[Decidable c](h1:c→A)(h2:¬ c→B):if c then A else B:=by
 by_cases h:c
 ·rw[if_pos h]
  exact h1 h
 ·rw[if_neg h]
  exact h2 h
theorem Zng{c A B:Prop}[Decidable c](hc:c)(h:B):if (!decide c)=true then A else B:=by
 rw[decide_eq_true hc]
 exact ZaB h
def Zn(H H':Hp):Prop:=∀b o,H b=some o→H' b=some o
theorem Zn.refl(H:Hp):Zn H H:=fun _ _ h=>h
theorem Zn.trans{H H1 H2:Hp}(a:Zn H H1)(b:Zn H1 H2):Zn H H2:=fun c o h=>b c o (a c o h)
theorem Zn.free{H H':Hp}(e:Zn H H'){l:Addr}(h:H' l=Option.none):H l=Option.none:=by
 cases q:H l with
 | none=>rfl
 | some o =>
  rw[e l o q]at h
  cases h
theorem Zn.seq{K:PySem.W.Frag}{H H':Hp}{a:Addr}{xs:List V}(e:Zn H H')(h:SqL K H a xs):SqL K H' a xs:=by
 rcases h with(h|⟨o,h⟩)|h
 ·exact .inl (.inl (e _ _ h))
 ·exact .inl (.inr ⟨o,e _ _ h⟩)
 ·exact .inr h
def ZV(cells:List (Str×Addr)):List (Str×NameKind)→List (Str×Addr)→List (Str×Addr)
 | [],acc=>acc
 | (n,k)::r,acc=>if k == .free then ZV cells r ((n,(cells.lookup n).getD 0)::acc) else ZV cells r acc
theorem ZbF{sc:Scope}{env:Env}(h:∀y∈sc.names,y.2=.free→∃c,env.cells.lookup y.1=some c) :
  closureFor sc env=pure (ZV env.cells sc.names []):=by
 have go:∀ (names:List (Str×NameKind)) (acc:List (Str×Addr)),(∀y∈names,y.2=.free→∃c,env.cells.lookup y.1=some c) →
   (forIn names acc fun (x:Str×NameKind) (r:List (Str×Addr))=>if (x.2 == NameKind.free)=true then (do let c ← cellOf env x.1;pure (ForInStep.yield ((x.1,c)::r))) else pure (ForInStep.yield r):Sem (List (Str×Addr)))=pure (ZV env.cells names acc):=by
  intro names
  induction names with
  | nil=>intro acc _;rfl
  | cons y r ih =>
   intro acc hy
   obtain⟨n,k⟩:=y
   rw[List.forIn_cons]
   cases hk:(k == NameKind.free) with
   | false =>
    have e1:ZV env.cells ((n,k)::r) acc=ZV env.cells r acc:=by
     show (if (k == NameKind.free)=true then _ else _)=_
     rw[hk];rfl
    rw[e1,← ih acc fun z hz=>hy z (Qi _ hz)]
    simp only[hk,Bool.false_eq_true,if_false,pure_bind]
   | true =>
    have hk':k=.free:=by simpa using hk
    obtain⟨c,hc⟩:=hy (n,k) Qp hk'
    have e1:ZV env.cells ((n,k)::r) acc=ZV env.cells r ((n,c)::acc):=by
     show (if (k == NameKind.free)=true then _ else _)=_
     rw[hk,hc];rfl
    have e2:cellOf env n=pure c:=by
     unfold cellOf
     rw[hc]
    rw[e1,← ih ((n,c)::acc) fun z hz=>hy z (Qi _ hz)]
    simp only[hk,if_true,e2,pure_bind]
 have q:=go sc.names [] h
 unfold closureFor
 first
  | (rw[show (forIn sc.names ([]:List (Str×Addr)) _:Sem (List (Str×Addr)))=pure (ZV env.cells sc.names []) from q];rfl)
  | (simp only[bind_pure];exact q)
  | exact q
theorem Zco(cells:List (Str×Addr)):∀ (names:List (Str×NameKind)) (acc:List (Str×Addr)) (x:Str) (c:Addr),(ZV cells names acc).lookup x=some c →
  (∃y∈names,y.1=x∧y.2=.free∧c=(cells.lookup x).getD 0)∨acc.lookup x=some c
 | [],acc,x,c,h=>.inr h
 | (n,k)::r,acc,x,c,h=>by
  by_cases hk:(k == NameKind.free)=true
  ·have e:ZV cells ((n,k)::r) acc=ZV cells r ((n,(cells.lookup n).getD 0)::acc):=by
    show (if (k == NameKind.free)=true then _ else _)=_
    rw[if_pos hk]
   rw[e]at h
   rcases Zco cells r _ x c h with⟨y,hy,q⟩|q
   ·exact .inl ⟨y,Qi _ hy,q⟩
   ·rw[QaL]at q
    by_cases hx:(x == n)=true
    ·rw[hx]at q
     have hx':x=n:=by simpa using hx
     subst hx'
     exact .inl ⟨(x,k),Qp,rfl,by simpa using hk,(QS q).symm⟩
    ·have hx':(x == n)=false:=by simpa using hx
     rw[hx']at q
     exact .inr q
  ·have e:ZV cells ((n,k)::r) acc=ZV cells r acc:=by
    show (if (k == NameKind.free)=true then _ else _)=_
    rw[if_neg hk]
   rw[e]at h
   rcases Zco cells r _ x c h with⟨y,hy,q⟩|q
   ·exact .inl ⟨y,Qi _ hy,q⟩
   ·exact .inr q
theorem Zeb(cells:List (Str×Addr)):∀ (names:List (Str×NameKind)) (acc:List (Str×Addr)) (x:Str),((∃y∈names,y.1=x∧y.2=.free)∨∃c,acc.lookup x=some c) →
  ∃c,(ZV cells names acc).lookup x=some c
 | [],acc,x,h=>by
  rcases h with⟨y,hy,_⟩|h
  ·cases hy
  ·exact h
 | (n,k)::r,acc,x,h=>by
  by_cases hk:(k == NameKind.free)=true
  ·have e:ZV cells ((n,k)::r) acc=ZV cells r ((n,(cells.lookup n).getD 0)::acc):=by
    show (if (k == NameKind.free)=true then _ else _)=_
    rw[if_pos hk]
   rw[e]
   refine Zeb cells r _ x ?_
   by_cases hx:(x == n)=true
   ·exact .inr ⟨_,by rw[QaL,hx]⟩
   ·have hx':(x == n)=false:=by simpa using hx
    rcases h with⟨y,hy,q⟩|⟨c,q⟩
    ·rcases QM.mp hy with rfl|hy
     ·exact absurd (by simpa using q.1.symm) hx
     ·exact .inl ⟨y,hy,q⟩
    ·exact .inr ⟨c,by rw[QaL,hx'];exact q⟩
  ·have e:ZV cells ((n,k)::r) acc=ZV cells r acc:=by
    show (if (k == NameKind.free)=true then _ else _)=_
    rw[if_neg hk]
   rw[e]
   refine Zeb cells r _ x ?_
   rcases h with⟨y,hy,q⟩|h
   ·rcases QM.mp hy with rfl|hy
    ·exact absurd (by simpa using q.2) hk
    ·exact .inl ⟨y,hy,q⟩
   ·exact .inr h
structure ZC (N N':List Str) (o c:Scope):Prop where
 kind:c.kind=.function
 okind:o.kind=.function
 nocell:∀y∈c.names,y.2≠.cell
 loc:∀y∈c.names,y.2=.local→c.names.lookup y.1=some .local
 free:∀y∈c.names,y.2=.free→c.names.lookup y.1=some .free∧(o.names.lookup y.1=some .cell∨o.names.lookup y.1=some .free)
 len:N.length≤N'.length
 same:∀i∈List.range N.length,∀x∈N'[i]?,c.names.lookup x=some .local∨c.names.lookup x=some .free→c.names.lookup x=some .free∧N[i]? = some x
 nd:N'.Nodup
def Zu(X:Cx)(c:Scope)(N':List Str)(C:Addr)(s:Shared)(H:Hp)(fp:List Addr):Cx :=
 { X with N:=N',s₀:=s,H₀:=H,env:=compEnvC c (ZV X.env.cells c.names []) C X.env,outer:=X.stack,stack:=X.stack,ex:=fp,fn:=fun _=>false,pn:=[],xe:=fun _ _=>False }
theorem Zct{env:Env}(hf:env.scope.kind=.function):∀ (names:List (Str×NameKind)) (x:Str),
  (names.map fun (p:Str×NameKind)=>if (p.2 == NameKind.free&&env.scope.kind == .function&&env.kindOf p.1 == some .cell)=true then (p.1,NameKind.cell) else (p.1,p.2)).lookup x =
   match names.lookup x with
   | some .free=>if env.kindOf x=some .cell then some .cell else some .free
   | k=>k
 | [],x=>rfl
 | (n,k)::r,x=>by
  have ih:=Zct hf r x
  rw[QD]
  by_cases hx:(x == n)=true
  ·have hx':x=n:=by simpa using hx
   subst hx'
   have e2:List.lookup x ((x,k)::r)=some k:=by rw[QaL];simp
   rw[e2]
   by_cases hk:k=.free
   ·subst hk
    by_cases hc:env.kindOf x=some .cell
    ·simp[List.lookup_cons,hf,hc]
    ·simp[List.lookup_cons,hf,hc]
   ·have hk':(k == NameKind.free)=false:=by simpa using hk
    rw[hk']
    simp only[Bool.false_and,Bool.false_eq_true,if_false,List.lookup_cons,beq_self_eq_true]
    all_goals (cases k<;>first|rfl|exact absurd rfl hk)
  ·have hx':(x == n)=false:=by simpa using hx
   have e2:List.lookup x ((n,k)::r)=List.lookup x r:=by rw[QaL,hx']
   rw[e2,← ih]
   by_cases hc:(k == NameKind.free&&env.scope.kind == .function&&env.kindOf n == some .cell)=true
   ·simp only[hc,if_true,List.lookup_cons,hx']
   ·simp only[hc,if_false,List.lookup_cons,hx',Bool.false_eq_true]
section
variable {X:Cx} {N N':List Str} {o c:Scope}
theorem ZbQ(S:ZC N N' o c)(ho:X.env.scope=o)(cl:List (Str×Addr))(C:Addr)(x:Str):(compEnvC c cl C X.env).kindOf x =
  match c.names.lookup x with
  | some .free=>if X.env.kindOf x=some .cell then some .cell else some .free
  | k=>k:=Zct (env:=X.env) (by rw[ho];exact S.okind) c.names x
theorem Zcb{names:List (Str×NameKind)}{x:Str}{k:NameKind}(h:names.lookup x=some k):(x,k)∈names:=Qaf h
theorem Zbh(S:ZC N N' o c)(ho:X.env.scope=o)(ok:X.Ok){x:Str}{a:Addr}(h:(ZV X.env.cells c.names []).lookup x=some a) :
  X.env.cells.lookup x=some a∧c.names.lookup x=some .free:=by
 rcases Zco _ _ _ _ _ h with⟨y,hy,rfl,hf,e⟩|q
 ·have hk:=S.free y hy hf
  have hv:X.env.kindOf y.1=some .cell∨X.env.kindOf y.1=some .free:=by
   show X.env.scope.names.lookup y.1=_∨X.env.scope.names.lookup y.1=_
   rw[ho];exact hk.2
  obtain⟨b,hb⟩:=ok.has y.1 hv
  rw[hb]at e
  exact⟨by rw[hb,e];rfl,hk.1⟩
 ·cases q
theorem Zgw(S:ZC N N' o c)(ho:X.env.scope=o)(ok:X.Ok){x:Str}(h:c.names.lookup x=some .free):∃a,(ZV X.env.cells c.names []).lookup x=some a∧X.env.cells.lookup x=some a:=by
 obtain⟨a,ha⟩:=Zeb X.env.cells c.names [] x (.inl ⟨(x,.free),Zcb h,rfl,rfl⟩)
 exact⟨a,ha,(Zbh S ho ok ha).1⟩
theorem Zky(S:ZC N N' o c)(ho:X.env.scope=o){pins:List (Addr×Obj)}{σ:St}{H:Hp}{s:Shared}{fp:List Addr}(I:Inv X pins σ H s)
  (hf:∀b∈fp,Zcg X pins H b) (ht:∀b∈fp,b<s.heap.objs.size):(Zu X c N' s.heap.objs.size s H fp).Ok where
 mod:=I.ok.mod
 kind:=S.kind
 glob:=I.ok.glob
 blt:=I.ok.blt
 above:=Qd _
 inj:=fun x y a h1 h2=>I.ok.inj x y a (Zbh S ho I.ok h1).1 (Zbh S ho I.ok h2).1
 has:=fun x hx=>by
  have e:=ZbQ (X:=X) S ho (ZV X.env.cells c.names []) s.heap.objs.size x
  have hx':(compEnvC c (ZV X.env.cells c.names []) s.heap.objs.size X.env).kindOf x=some .cell∨(compEnvC c (ZV X.env.cells c.names []) s.heap.objs.size X.env).kindOf x=some .free:=hx
  rw[e]at hx'
  cases q:c.names.lookup x with
  | none=>rw[q]at hx';rcases hx' with z|z<;>cases z
  | some k =>
   by_cases hk:k=.free
   ·subst hk
    obtain⟨a,ha,_⟩:=Zgw S ho I.ok q
    exact⟨a,ha⟩
   ·rw[q]at hx'
    have hc:k=.cell:=by
     cases k<;>first|rfl|exact absurd rfl hk|(rcases hx' with z|z<;>cases z)
    subst hc
    exact absurd rfl (S.nocell _ (Zcb q))
 cab:=fun x a h=>by cases (show false=true from h)
 hd:=I.ok.hd
 frames:=I.ok.frames
 stk:=.inl rfl
 exf:=fun b hb=>⟨Qv (ht b hb),fun x a h=>(hf b hb).2.2.2.2.1 x a (Zbh S ho I.ok h).1⟩
 bs:=fun b ob e=>I.bs b ob e
 bsz:=QL I.ok.bsz I.sz
 noex:=fun b ob e hb=>by
  rcases(hf b hb).2.2.2.1 with z|z
  ·exact I.ok.noex b ob e z
  ·exact absurd (Qx (Qk e) (QL I.ok.bsz z)) (Q0 _)
 exfs:=fun b hb hb'=>by
  rcases QM.mp (I.stkSub b hb') with z|z
  ·exact(hf b hb).2.1 z
  ·exact(hf b hb).2.2.1 z
 funs:=I.stack
 frf:=I.stkFree
theorem Zd3(S:ZC N N' o c)(hN:X.N=N)(ho:X.env.scope=o){pins:List (Addr×Obj)}{σ:St}{H:Hp}{s:Shared}{fp:List Addr}{h₁:Heap}{tk:Nat}{m₀:Str→Option Value}(I:Inv X pins σ H s)
  (hf:∀b∈fp,Zcg X pins H b) (ht:∀b∈fp,b<s.heap.objs.size) (hns:h₁.Ns s.heap.objs.size m₀) (hk:∀b ob,s.heap.get? b=some ob→h₁.get? b=some ob) :
  Inv (Zu X c N' s.heap.objs.size s H fp) [] (σ++List.replicate (N'.length-N.length) none) H { s with heap:=h₁,toks:=tk } where
 ok:=Zky S ho I hf ht
 os:=rfl
 bare:=I.bare
 base:=Un.kept hk
 loc:=by
  refine⟨m₀,hns,fun i x v e1 e2 e3=>?_⟩
  obtain⟨m,hn,hl⟩:=I.loc
  have hlen:σ.length=N.length:=by rw[I.len,hN]
  have hi:i<σ.length:=by
   by_cases hi:i<σ.length
   ·exact hi
   ·rw[QZ (by omega),List.getElem?_replicate]at e2
    split at e2<;>cases e2
  have e2':σ[i]? = some (some v):=by rw[Qai hi]at e2;exact e2
  have kd:=ZbQ (X:=X) S ho (ZV X.env.cells c.names []) s.heap.objs.size x
  have vis:c.names.lookup x=some .local∨c.names.lookup x=some .free:=by
   have e3':(compEnvC c (ZV X.env.cells c.names []) s.heap.objs.size X.env).kindOf x=some .local∨(compEnvC c (ZV X.env.cells c.names []) s.heap.objs.size X.env).kindOf x=some .cell∨(compEnvC c (ZV X.env.cells c.names []) s.heap.objs.size X.env).kindOf x=some .free:=e3
   rw[kd]at e3'
   cases q:c.names.lookup x with
   | none=>rw[q]at e3';rcases e3' with z|z|z<;>cases z
   | some k =>
    cases k with
    | «local»=>exact .inl rfl
    | free=>exact .inr rfl
    | cell=>exact absurd rfl (S.nocell _ (Zcb q))
    | _=>rw[q]at e3';rcases e3' with z|z|z<;>cases z
  obtain⟨hfr,hNi⟩:=S.same i (QK.mpr (by omega)) x (by rw[show N'[i]? = some x from e1];rfl) vis
  have hok:X.env.kindOf x=some .cell∨X.env.kindOf x=some .free:=by
   show X.env.scope.names.lookup x=_∨X.env.scope.names.lookup x=_
   rw[ho];exact(S.free _ (Zcb hfr) rfl).2
  obtain⟨u,r,l⟩:=hl i x v (by rw[hN];exact hNi) e2' (.inr hok)
  refine⟨u,r,.inr ⟨?_,?_⟩⟩
  ·show (compEnvC c (ZV X.env.cells c.names []) s.heap.objs.size X.env).kindOf x=some .cell∨(compEnvC c (ZV X.env.cells c.names []) s.heap.objs.size X.env).kindOf x=some .free
   rw[kd,hfr]
   show (if X.env.kindOf x=some .cell then some NameKind.cell else some NameKind.free)=some .cell∨(if X.env.kindOf x=some .cell then some NameKind.cell else some NameKind.free)=some .free
   by_cases q:X.env.kindOf x=some .cell
   ·rw[if_pos q];exact .inl rfl
   ·rw[if_neg q];exact .inr rfl
  ·obtain⟨a,ha,ha'⟩:=Zgw S ho I.ok hfr
   refine⟨a,ha,?_⟩
   rcases l with⟨z,_⟩|⟨_,a',e,ob,hob,hd⟩
   ·rcases hok with q|q<;>rw[q]at z<;>cases z
   ·rw[ha']at e;cases e
    exact⟨ob,hk _ _ hob,hd⟩
 cell:=fun x a h=>by
  obtain⟨v,ob,e,d⟩:=I.cell x a (Zbh S ho I.ok h).1
  exact⟨v,ob,hk _ _ e,d⟩
 free:=I.hok.fresh (Qd _)
 freeC:=fun x a h=>I.freeC x a (Zbh S ho I.ok h).1
 pin:=fun p hp=>absurd (show p∈([]:List (Addr×Obj)) from hp) (by simp)
 hok:=I.hok.kept hk
 len:=by
  have hlen:σ.length=N.length:=by rw[I.len,hN]
  have:=S.len
  show (σ++List.replicate (N'.length-N.length) none).length=N'.length
  rw[Qe,List.length_replicate]
  omega
end
abbrev ZfB(ifs:List Expr)(env:Env):Sem Bool :=
 forIn ifs true fun k r=>if r=true then do let ok ← isTrue k env (eval k env);pure (ForInStep.yield ok) else pure (ForInStep.yield r)
def PTs(X:Cx)(ifs:List Expr)(t:TT):Prop :=
 ∀ (pins:List (Addr×Obj)) (s:Shared) (σ:St) (H:Hp) (Q:Bool→Hp→Prop),Inv X pins σ H s→t σ H Q→wpAny (model X.prog X.w) X.A (ZfB ifs X.env) (TP X pins σ Q) X.xe s
def Zdy:TT:=fun _ H Q=>Q true H
theorem ZaI{X:Cx}:PTs X [] Zdy:=fun _ _ _ H _ I h=>wpAny_tests_nil ⟨H,I,h⟩
theorem ZhV{X:Cx}{e:Expr}{t:TT}(h:PT X e t):PTs X [e] t:=fun pins s σ H Q I q=>wpAny_tests_one (h pins s σ H Q I q)
section
variable {prog:Program} {w:World} {A:Around} {R:Result→Shared→Prop} {s:Shared}
theorem Zfv{elt target iter:Expr}{ifs:List Expr}{scope:Scope}{pos:Pos}{it acc:Value}{env:Env}{E:Value→Shared→Prop}(I:Nat→Shared→Prop)
  (hE:∀e s',E e s'→False)
  (turn:∀n s,I n s→wpAny (model prog w) A (pyNext it) (fun r s₁=>match r with
   | none=>R (.ok .next) s₁
   | some v=>wpAny (model prog w) A (letOwnedTupleGo target it v) (fun _ s₀=>wpAny (model prog w) A (assign target env v) (fun _ s₂ =>
     wpAny (model prog w) A (ZfB ifs env) (fun ok s₃ =>
      if ok=true then wpAny (model prog w) A (eval elt env) (fun x s₄ =>
       wpAny (model prog w) A (call (.builtin "list.append") [acc,x]) (fun _ s₅=>∃m,m<n∧I m s₅) E s₄) E s₃
      else ∃m,m<n∧I m s₃) E s₂) E s₀) E s₁) E s)
  (n:Nat) (h:I n s):codeAny (model prog w) A (.compLoop (.ListComp elt [⟨target,iter,ifs,0⟩] scope pos) 0 it acc env) R s:=by
 have go:∀ {α:Type} {t:Sem α} {Q:α→Shared→Prop} {s:Shared},wpAny (model prog w) A t Q E s→wpAny (model prog w) A t Q (notedBy (model prog w) A env fun e s'=>R (.error e) s') s :=
  fun {α t Q s} q=>wpAny_mono q (fun _ _ z=>z) fun e s' z=>(hE e s' z).elim
 refine codeAny_loop rfl I (fun n s hI=>?_) n h
 show wpAny _ A ((compTurn (.ListComp elt [⟨target,iter,ifs,0⟩] scope pos) 0 it acc env).onRaise (fun x=>do noteFrame x env;theTreesLotGoes x)) _ _ s
 refine wpAny_noted ?_
 rw[compTurn_list]
 refine wpAny_bind (wpAny_standAt (wpAny_bind (thn (go (turn n s hI)) fun r s₁ h₁=>?_)))
 cases r with
 | none=>exact wpAny_pure h₁
 | some v =>
  refine wpAny_bind (thn (go h₁) fun _ s₀ h₀=>wpAny_bind (thn (go h₀) fun _ s₂ h₂=>wpAny_bind (thn (go h₂) fun ok s₃ h₃=>?_)))
  cases ok with
  | false=>exact wpAny_pure ⟨rfl,h₃⟩
  | true =>
   exact wpAny_bind (wpAny_bind (thn (go h₃) fun x s₄ h₄=>wpAny_bind (thn (go h₄) fun _ s₅ h₅=>wpAny_pure (wpAny_pure ⟨rfl,h₅⟩))))
end
def ZdB(J:It)(D:Addr)(k:Nat)(σ:St)(H1:Hp)(g:TG)(tc:TT)(te:TE)(Q:VK):Prop :=
 ∃W:Nat→Nat→List V→St→Hp→Prop,(∃m,W 0 m [] (σ++List.replicate k none) (upd H1 D (.lst []))) ∧
  ∀i m ys σ2 H2,W i m ys σ2 H2→(J.stop i H2∧Q (.ref D) H2) ∨
   (J.go i H2∧∃N:List V→St→Hp→Prop,(∀ys' σ' H',N ys' σ' H'→∃m',m'<m∧W (i+1) m' ys' σ' H')∧∀x H3,J.yld i H2 x H3→g x σ2 H3 fun σ4 H4=>tc σ4 H4 fun b H5 =>
    if b=true then te σ4 H5 fun y H6=>H6 D=some (.lst ys)∧ys.length<sizeLine∧N (ys++[y]) σ4 (upd H6 D (.lst (ys++[y]))) else N ys σ4 H5)
def Zka(n:Nat)(wi:TI)(g:TG)(tc:TT)(te:TE):TE:=fun σ H Q=>wi σ H fun J H1=>∀D,H1 D=none→ZdB J D n σ H1 g tc te Q
section
variable {X:Cx} {N N':List Str} {o c:Scope}
theorem Zf8{elt tg iter:Expr}{ifs:List Expr}{pos pos':Pos}{wi:TI}{g:TG}{tc:TT}{te:TE}{use:Option (Value→Sem Unit)}{QQ:Value→Shared→Prop}(S:ZC N N' o c)(hN:X.N=N)(ho:X.env.scope=o)(hc:X.calm=true)
  (hi:PI X tg iter wi) (hg:∀C s H fp,PG (Zu X c N' C s H fp) tg g) (ht:∀C s H fp,PTs (Zu X c N' C s H fp) ifs tc) (he:∀C s H fp,PE (Zu X c N' C s H fp) elt te)
  (hs:∀x,foldedSetIterable iter X.env x=pure x) {pins:List (Addr×Obj)} {s:Shared} {σ:St} {H:Hp} {Q:VK} (I:Inv X pins σ H s) (h:Zka (N'.length-N.length) wi g tc te σ H Q)
  (post:∀ (D C:Addr) (s5:Shared) (H5:Hp) (m:Str→Option Value),Inv X pins σ H5 s5→H5 C=none→s5.heap.Ns C m→C≠X.env.locals→X.s₀.heap.objs.size≤C→(∀x a,X.env.cells.lookup x=some a→a≠C)→(∀p∈X.pn++pins,p.1≠C) →
   Q (.ref D) H5→compPost (model X.prog X.w) X.A X.xe use QQ (.ref D) C (.ok .next) s5) :
  wpAny (model X.prog X.w) X.A (comprehension (.ListComp elt [⟨tg,iter,ifs,0⟩] c pos) c X.env pos' (newList []) false (eval iter X.env) use) QQ X.xe s:=by
 have hclos:closureFor c X.env=pure (ZV X.env.cells c.names []):=ZbF fun y hy hf=>by
  refine I.ok.has y.1 ?_
  show X.env.scope.names.lookup y.1=_∨X.env.scope.names.lookup y.1=_
  rw[ho];exact(S.free y hy hf).2
 refine wpAny_comprehension_free (use:=use) rfl hs hclos S.kind S.loc (thn (hi pins s σ H _ I h) fun v s1 h1=>thn h1 fun itv s2 h2=>?_)
 obtain⟨it,fp,tn,J,H2,e,I2,T,st2,f2,hR⟩:=h2
 subst e
 have hD:H2 s2.heap.objs.size=none:=I2.fresh
 have I3:Inv X pins σ (upd H2 s2.heap.objs.size (.lst [])) { s2 with heap:=s2.heap.push { cls:=.type "list",data:=.seq ([]:List Value).toArray } } :=
  I2.lnew (ys:=[]) (its:=[]) (t':=s2.toks) .nil (Ql _)
 have fpl:∀b∈fp,b<s2.heap.objs.size:=fun b hb=>by
  obtain⟨ob,e,_⟩:=T.obj 0 _ st2 b hb
  exact Qk e
 refine wpAny_newObj_type (wpAny_newFunctionEnv S.nocell (by intro y hy;simp at hy) (fun h₁ hns₁ hsb₁=>?_) S.kind)
 have e3:∃s3:Shared,s3={ s2 with heap:=s2.heap.push { cls:=.type "list",data:=.seq ([]:List Value).toArray } }:=⟨_,rfl⟩
 obtain⟨s3,hs3⟩:=e3
 have e3:s3.heap=s2.heap.push { cls:=.type "list",data:=.seq ([]:List Value).toArray }:=by rw[hs3]
 have sz3:s3.heap.objs.size=s2.heap.objs.size+1:=by rw[e3,Q5]
 have fpl3:∀b∈fp,b<s3.heap.objs.size:=fun b hb=>Qx (fpl b hb) (by rw[sz3];exact Qaz _)
 have f3:∀b∈fp,Zcg X pins (upd H2 s2.heap.objs.size (.lst [])) b:=fun b hb=>⟨by rw[Zj (Qv (fpl b hb))];exact(f2 b hb).1,(f2 b hb).2⟩
 have st3:tn 0 s3.heap:=T.keep 0 _ _ st2 fun b _ ob e=>by rw[e3];exact Qa _ e
 rw[← hs3]at I3
 show codeAny (model X.prog X.w) X.A (.compStart _ 0 (.ref it) (.ref s2.heap.objs.size) (compEnvC c (ZV X.env.cells c.names []) (s2.heap.push { cls:=.type "list",data:=.seq ([]:List Value).toArray }).objs.size X.env))
  (compPost (model X.prog X.w) X.A X.xe use QQ (.ref s2.heap.objs.size) (s2.heap.push { cls:=.type "list",data:=.seq ([]:List Value).toArray }).objs.size)
  { s2 with heap:=h₁,toks:=s2.toks+([]:List (Str×Value)).length }
 have hns:h₁.Ns s3.heap.objs.size (fun x=>([]:List (Str×Value)).reverse.lookup x):=by rw[e3];exact hns₁
 have hk1:∀b ob,s3.heap.get? b=some ob→h₁.get? b=some ob:=fun b ob e=>by
  rw[e3]at e
  exact hsb₁.extBut b ob (Qv (Qk e)) (Qa _ e)
 rw[← e3]
 have es4:({ s2 with heap:=h₁,toks:=s2.toks+([]:List (Str×Value)).length }:Shared)={ s3 with heap:=h₁,toks:=s2.toks }:=by rw[hs3];rfl
 rw[es4]
 obtain⟨W,⟨m0,w0⟩,turn⟩:=hR s2.heap.objs.size hD
 have I4:=Zd3 (tk:=s2.toks) S hN ho I3 f3 fpl3 hns hk1
 have st4:tn 0 h₁:=T.keep 0 _ _ st3 fun b _ ob e=>hk1 b ob e
 generalize hX:Zu X c N' s3.heap.objs.size s3 (upd H2 s2.heap.objs.size (.lst [])) fp=Y at I4
 have Yp:Y.prog=X.prog:=by rw[← hX];rfl
 have Yw:Y.w=X.w:=by rw[← hX];rfl
 have YK:Y.K=X.K:=by rw[← hX];rfl
 have Yc:Y.calm=true:=by rw[← hX];exact hc
 have YA:Y.A=X.A:=by rw[← hX];rfl
 have Yenv:Y.env=compEnvC c (ZV X.env.cells c.names []) s3.heap.objs.size X.env:=by rw[← hX];rfl
 have Yl:Y.env.locals=s3.heap.objs.size:=by rw[Yenv];rfl
 have Yxe:Y.xe=fun _ _=>False:=by rw[← hX];rfl
 have hg':=hg s3.heap.objs.size s3 (upd H2 s2.heap.objs.size (.lst [])) fp
 have ht':=ht s3.heap.objs.size s3 (upd H2 s2.heap.objs.size (.lst [])) fp
 have he':=he s3.heap.objs.size s3 (upd H2 s2.heap.objs.size (.lst [])) fp
 rw[hX]at hg' ht' he'
 have stat:∀ {H':Hp},(∀b∈fp,H' b=none)→∀b∈fp,Zcg Y [] H' b:=fun {H'} hn b hb=>by
  obtain⟨_,q1,q2,q3,q4,_⟩:=f3 b hb
  have z1:=I4.ok.exf b (by rw[← hX];exact hb)
  refine⟨hn b hb,z1.1,I4.ok.exfs b (by rw[← hX];exact hb),.inl (by rw[← hX];exact hb),z1.2,fun p hp=>?_⟩
  have hp':p∈([]:List (Addr×Obj)):=by
   have:Y.pn=[]:=by rw[← hX];rfl
   rw[this]at hp;exact hp
  cases hp'
 have fin:∀ (s5:Shared) (σ5:St) (H5:Hp),Inv Y [] σ5 H5 s5→Q (.ref s2.heap.objs.size) H5→compPost (model X.prog X.w) X.A X.xe use QQ (.ref s2.heap.objs.size) s3.heap.objs.size (.ok .next) s5:=fun s5 σ5 H5 I5 q=>by
  obtain⟨m,hn,_⟩:=id I5.loc
  rw[Yl]at hn
  have hCn:H5 s3.heap.objs.size=none:=by have:=I5.free;rw[Yl]at this;exact this
  have un:Un (frs X.stack) fp (upd H2 s2.heap.objs.size (.lst [])) H5 s3.heap s5.heap:=by
   have:=I5.base
   rw[← hX]at this
   exact this
  have os5:s5.os=s3.os:=by have:=I5.os;rw[← hX]at this;exact this
  have hok5:HOk X.prog X.w H5 s5.heap:=by
   have:=I5.hok
   rw[Yp,Yw]at this
   exact this
  refine post _ _ s5 H5 m (I3.call' (s':=s5) (ch:=fp) os5 un hok5 I5.bare fun b hb=>?_) hCn hn (QY I3.lt) I3.sz (fun x a e=>?_) (fun p hp=>?_) q
  ·obtain⟨_,q1,_,q3,q4,q5⟩:=f3 b hb
   exact⟨q3,q1,q4,q5⟩
  ·obtain⟨v,ob,e',_⟩:=I3.cell x a e
   exact Qv (Qk e')
  ·exact Qv (Qk (I3.pin p hp).1)
 have loop:codeAny (model X.prog X.w) X.A (.compLoop (.ListComp elt [⟨tg,iter,ifs,0⟩] c pos) 0 (.ref it) (.ref s2.heap.objs.size) (compEnvC c (ZV X.env.cells c.names []) s3.heap.objs.size X.env))
   (compPost (model X.prog X.w) X.A X.xe use QQ (.ref s2.heap.objs.size) s3.heap.objs.size) { s3 with heap:=h₁,toks:=s2.toks }:=by
  rw[← Yenv,← YA]
  refine Zfv (E:=fun _ _=>False) (fun n s'=>∃i ys σ' H',Inv Y [] σ' H' s'∧tn i s'.heap∧(∀b∈fp,H' b=none)∧W i n ys σ' H') (fun _ _ z=>z) ?_ m0
   ⟨0,[],_,_,I4,st4,fun b hb=>(f3 b hb).1,?_⟩
  ·rintro n s5 ⟨i,ys,σ5,H5,I5,st5,fr5,w5⟩
   rcases turn i n ys σ5 H5 w5 with⟨stop,qn⟩|⟨go,Nn,hNn,step⟩
   ·refine thn (T.done Y Yp Yw YK Yc i [] s5 σ5 H5 _ I5 (stat fr5) st5 stop) ?_
    rintro r s6 ⟨hr,I6⟩
    subst hr
    have fq:=fin s6 σ5 H5 I6 qn
    rw[← YA]at fq
    exact fq
   ·refine thn (T.item Y Yp Yw YK Yc i [] s5 σ5 H5 _ I5 (stat fr5) st5 go) ?_
    rintro r s6 ⟨u,hr,h6⟩
    subst hr
    refine thn h6 ?_
    rintro _ s7 ⟨x,H7,I7,r7,y7,st7,fr7⟩
    have I7':=I7.pinned (stat fr7) (T.obj _ _ st7)
    have back:∀ {σ9:St} {H9:Hp} {s9:Shared},Inv Y ([]++Za9 fp s7.heap) σ9 H9 s9→Inv Y [] σ9 H9 s9∧tn (i+1) s9.heap∧∀b∈fp,H9 b=none:=fun {σ9 H9 s9} I9=>by
     refine⟨I9.unpinned,T.keep _ _ _ st7 fun b hb ob e=>(I9.pin (b,ob) (Qf _ (Qf _ (Z5 hb e)))).1,fun b hb=>?_⟩
     obtain⟨ob,e,d⟩:=T.obj _ _ st7 b hb
     exact(I9.pin (b,ob) (Qf _ (Qf _ (Z5 hb e)))).2.1
    have P1:=hg' _ s7 σ5 H7 x u _ I7' r7 (step x H7 y7)
    rw[Yp,Yw,Yxe]at P1
    refine thn P1 ?_
    rintro _ s8 ⟨σ8,H8,I8,q8⟩
    have P2:=ht' _ s8 σ8 H8 _ I8 q8
    rw[Yp,Yw,Yxe]at P2
    refine thn P2 ?_
    rintro ok s9 ⟨H9,I9,q9⟩
    cases ok with
    | false =>
     rw[if_neg Qj]at q9
     rw[if_neg Qj]
     obtain⟨b1,b2,b3⟩:=back I9
     obtain⟨m',hm',w9⟩:=hNn _ _ _ q9
     exact⟨m',hm',i+1,ys,σ8,H9,b1,b2,b3,w9⟩
    | true =>
     rw[if_pos rfl]at q9
     rw[if_pos rfl]
     have P3:=he' _ s9 σ8 H9 _ I9 q9
     rw[Yp,Yw,Yxe]at P3
     refine thn P3 ?_
     rintro y s10 ⟨vy,H10,I10,r10,hDl,hsz,q10⟩
     have P4:=Zbg (X:=Y) _ s10 σ8 H10 (.ref s2.heap.objs.size) [vy] (.ref s2.heap.objs.size) [y] (fun _ H'=>Nn (ys++[vy]) σ8 H') I10 rfl (.cons r10 .nil) ⟨_,ys,vy,rfl,rfl,hDl,hsz,q10⟩
     rw[Yp,Yw,Yxe]at P4
     refine thn P4 ?_
     rintro _ s11 ⟨_,H11,I11,_,q11⟩
     obtain⟨b1,b2,b3⟩:=back I11
     obtain⟨m',hm',w11⟩:=hNn _ _ _ q11
     exact⟨m',hm',i+1,ys++[vy],σ8,H11,b1,b2,b3,w11⟩
  ·exact w0
 have lp:=T.self X.A 0 { s3 with heap:=h₁,toks:=s2.toks } (fun it' s'=>codeAny (model X.prog X.w) X.A (.compLoop (.ListComp elt [⟨tg,iter,ifs,0⟩] c pos) 0 it' (.ref s2.heap.objs.size) (compEnvC c (ZV X.env.cells c.names []) s3.heap.objs.size X.env))
   (compPost (model X.prog X.w) X.A X.xe use QQ (.ref s2.heap.objs.size) s3.heap.objs.size) s') (fun _ _=>False) st4 loop
 exact codeAny_compStart_list loop (wpAny_mono lp (fun _ _ z=>z) fun _ _ z=>z.elim)
theorem Inv.let{pins:List (Addr×Obj)}{σ:St}{H:Hp}{s:Shared}{C:Addr}{h':Heap}(I:Inv X pins σ H s)(hn:H C=none)(hL:C≠X.env.locals)(h1:X.s₀.heap.objs.size≤C)
  (h2:∀x a,X.env.cells.lookup x=some a→a≠C) (h3:∀p∈X.pn++pins,p.1≠C) (hs:Heap.SameBut C s.heap h'):Inv X pins σ H { s with heap:=h' } :=
 I.turned (t':=s.toks) (fun b ob hb e=>hs.extBut b ob hb e) hn hL (.inr h1) h2 h3
theorem ZaU{elt tg iter:Expr}{ifs:List Expr}{pos:Pos}{wi:TI}{g:TG}{tc:TT}{te:TE}(S:ZC N N' o c)(hN:X.N=N)(ho:X.env.scope=o)(hc:X.calm=true)
  (hi:PI X tg iter wi) (hg:∀C s H fp,PG (Zu X c N' C s H fp) tg g) (ht:∀C s H fp,PTs (Zu X c N' C s H fp) ifs tc) (he:∀C s H fp,PE (Zu X c N' C s H fp) elt te)
  (hs:∀x,foldedSetIterable iter X.env x=pure x:=by intro _;rfl) :
  PE X (.ListComp elt [⟨tg,iter,ifs,0⟩] c pos) (Zka (N'.length-N.length) wi g tc te):=by
 intro pins s σ H Q I h
 rw[eval_ListComp]
 refine Zf8 (use:=none) S hN ho hc hi hg ht he hs I h fun D C s5 H5 m I5 hCn hn n1 n2 n3 n4 q=>⟨m,hn,fun h' hsb=>?_⟩
 exact⟨.ref D,H5,I5.let hCn n1 n2 n3 n4 hsb,rfl,q⟩
theorem Zg1{i:Nat}{x:Str}{elt tg iter:Expr}{ifs:List Expr}{pos pos' spos:Pos}{wi:TI}{g:TG}{tc:TT}{te:TE}(hnd:X.N.Nodup)(hx:X.N[i]? = some x)(hl:Loc X.env.scope x)(S:ZC N N' o c)(hN:X.N=N)(ho:X.env.scope=o)(hc:X.calm=true)
  (hi:PI X tg iter wi) (hg:∀C s H fp,PG (Zu X c N' C s H fp) tg g) (ht:∀C s H fp,PTs (Zu X c N' C s H fp) ifs tc) (he:∀C s H fp,PE (Zu X c N' C s H fp) elt te)
  (hsw:swapsWith (.ListComp elt [⟨tg,iter,ifs,0⟩] c pos) (some (.Name x pos')) spos.line X.env=pure true)
  (hs:∀x,foldedSetIterable iter X.env x=pure x:=by intro _;rfl) (hf:X.fn x=true∨X.env.scope.names.lookup x=some .local:=by first|exact .inl rfl|exact .inr rfl|assumption) :
  PS X (.Assign [.Name x pos'] (.ListComp elt [⟨tg,iter,ifs,0⟩] c pos) spos) (ZkS (Zka (N'.length-N.length) wi g tc te) (ZfF i)):=by
 intro pins s σ H D I h
 rw[exec_Assign_Name_used _ _ _ _ hsw]
 refine wpAny_bind (wpAny_standAt (wpAny_bind ?_))
 show wpAny _ X.A (do let _ ← comprehension (.ListComp elt [⟨tg,iter,ifs,0⟩] c pos) c X.env _ (newList []) false (eval iter X.env) (some (assign (.Name x pos') X.env))) _ _ s
 refine wpAny_bind (thn (Zf8 (QQ:=fun _ s'=>SP X pins D .next s') (use:=some (assign (.Name x pos') X.env)) S hN ho hc hi hg ht he hs I h ?_) fun _ s' hq=>wpAny_pure (wpAny_pure hq))
 intro L C s5 H5 m I5 hCn hn n1 n2 n3 n4 q
 show wpAny _ X.A (assign (.Name x pos') X.env (.ref L)) _ _ _
 refine wpAny_assign_Name (Zdl (v:=.ref L) I5 hnd hx hl rfl (?_) hf)
 rintro s6 I6 ⟨a,hsb,ha⟩
 have nCa:C≠a:=by
  rcases ha with z|z
  ·rw[z];exact n1
  ·exact(n3 x a z).symm
 exact⟨m,hn.sameBut hsb nCa,fun h' hsb'=>⟨_,H5,I6.let hCn n1 n2 n3 n4 hsb',q⟩⟩
end
section
variable {X:Cx}
def Znz(K:PySem.W.Frag):List V→Hp→VK→Prop:=fun xs H Q=>∃x c t b,xs=[x,.ty c]∧Zdj K H x t∧PySem.W.kitOne K t (.type c)=some b∧Q (.bl b) H
theorem ZjL:Z3 X (.builtin "isinstance") (Znz X.K):=by
 intro pins s σ H xs us Q I r h
 obtain⟨x,c,t,b,rfl,ty,e,q⟩:=h
 obtain⟨u,w',rfl,rx,rc⟩:=Zju r
 cases rc
 exact Zit I rx ty e fun tk=>⟨.bl b,H,I.tok _,rfl,q⟩
theorem Zji(hc:X.calm=true):Z3 X (.builtin "all") (fun xs H Q=>∃ (p:Addr) (bs:List Bool),xs=[.ref p]∧SqL X.K H p (bs.map V.bl)∧Q (.bl (bs.all id)) H):=by
 intro pins s σ H xs us Q I r h
 obtain⟨p,bs,rfl,hq,q⟩:=h
 obtain⟨u,rfl,rx⟩:=Zbq r
 cases rx
 obtain⟨its,rv,pl,hz⟩:=I.list hq
 have hl:=pl.isList
 have hlt:p<s.heap.objs.size:=by obtain⟨_,e,_⟩:=hl;exact Qk e
 refine call_all_walk (wpAny_pyIter_list hl ?_)
 refine⟨s.heap.objs.size,[s.heap.objs.size,p],[s.heap.objs.size],its.toArray.size,_,_,fun i=>(bs[i]?).getD true,rfl,Walks.list (A:=X.A.in1) (I.ok.hd hc) _ p (Qv hlt) its.toArray,
  ⟨⟨_,Qm _ rfl,rfl,rfl⟩,hl.push _⟩,fun i v s' Q' E' hP hQ=>?_,fun h' tk hk=>?_⟩
 ·have hP':its[i]? = some v:=by simpa using hP
  have hi:i<its.length:=(Qn.mp hP').1
  have hlen:=rv.length
  have hb:(bs.map V.bl)[i]? = some (V.bl (bs[i]'(by rw[Qb]at hlen;omega))):=by
   rw[Qr,Qc (by rw[Qb]at hlen;omega)];rfl
  obtain⟨u',hu',ru'⟩:=rv.get hb
  rw[hP']at hu';cases hu'
  obtain rfl:v=Value.bool _:=ru'
  have hQ2:Q' ((bs[i]?).getD true) s':=hQ
  rw[Qc (by rw[Qb]at hlen;omega)]at hQ2
  exact wpAny_truthy_bool hQ2
 ·have e:((List.range its.toArray.size).all fun i=>(bs[i]?).getD true)=bs.all id:=by
   have hlen:=rv.length
   rw[Qb]at hlen
   rw[Qo,← hlen,QaR,List.all_eq_true,List.all_eq_true]
   constructor
   ·intro z b hb
    obtain⟨i,hi,rfl⟩:=Q9.mp hb
    have:=z i (QK.mpr hi)
    rw[Qc hi]at this
    exact this
   ·intro z i hi
    have hi':=QK.mp hi
    rw[Qc hi']
    exact z _ (QW hi')
  refine⟨.bl (bs.all id),H,I.kept fun b ob e'=>hk b ob (fun hm=>?_) (Qa _ e'),by rw[e];rfl,q⟩
  rw[Qg.mp hm]at e'
  exact Q0 _ (Qk e')
end
inductive Src where
 | l (a:Addr)|t (a:Addr)|s (z:Str)
def Src.val:Src→V
 | .l a=>.ref a
 | .t a=>.ref a
 | .s z=>.str z
def Zlp(c:Nat):V:=.str ⟨#[c]⟩
def Src.its(K:PySem.W.Frag)(H:Hp):Src→List V→Prop
 | .l a,xs=>SqL K H a xs
 | .t a,xs=>SqT K H a xs
 | .s z,xs=>xs=z.cps.toList.map Zlp
def Src.at(h:Heap)(i:Addr):Src→Nat→Prop
 | .l a,k=>h.IsListIter i a k
 | .t a,k=>h.IsTupleIter i a k
 | .s z,k=>∃tk,h.IsStrIter i (strIterType z) z tk k
def Src.raw(h:Heap):Src→List Value→Prop
 | .l a,us=>h.IsList a us.toArray
 | .t a,us=>h.IsTuple a us.toArray
 | .s _,_=>True
def Src.fit:Src→List Value→Nat→Value→Prop
 | .l _,us,k,u=>us[k]? = some u
 | .t _,us,k,u=>us[k]? = some u
 | .s z,_,k,u=>∃c tk,z.cps[k]? = some c∧u=.str ⟨#[c]⟩ tk
def Src.many:Src→List Value→Nat
 | .l _,us=>us.length
 | .t _,us=>us.length
 | .s z,_=>z.cps.size
def Src.off:Src→Addr→Prop
 | .l a,b=>a≠b
 | .t a,b=>a≠b
 | .s _,_=>True
theorem Src.at_obj{h:Heap}{i:Addr}:∀ {S:Src} {k:Nat},S.at h i k→∃o vs,h.get? i=some o∧o.data=.fields vs
 | .l _,_,⟨o,e,_,d⟩=>⟨o,_,e,d⟩
 | .t _,_,⟨o,e,_,d⟩=>⟨o,_,e,d⟩
 | .s _,_,⟨_,o,e,_,d⟩=>⟨o,_,e,d⟩
theorem Src.at_keep{h h':Heap}{i:Addr}(k':∀o,h.get? i=some o→h'.get? i=some o):∀ {S:Src} {k:Nat},S.at h i k→S.at h' i k
 | .l _,_,⟨o,e,d⟩=>⟨o,k' o e,d⟩
 | .t _,_,⟨o,e,d⟩=>⟨o,k' o e,d⟩
 | .s _,_,⟨tk,o,e,d⟩=>⟨tk,o,k' o e,d⟩
theorem Src.raw_keep{h h':Heap}{b:Addr}(k':∀c o,c≠b→h.get? c=some o→h'.get? c=some o):∀ {S:Src} {us:List Value},S.off b→S.raw h us→S.raw h' us
 | .l _,_,f,⟨o,e,d⟩=>⟨o,k' _ o f e,d⟩
 | .t _,_,f,⟨o,e,d⟩=>⟨o,k' _ o f e,d⟩
 | .s _,_,_,_=>trivial
section
variable {prog:Program} {w:World} {A:Around} {E:Value→Shared→Prop} {s:Shared}
theorem Zfp{it t:Addr}{i:Nat}{items:Array Value}{x:Value}{Q:Value→Shared→Prop}(hit:s.heap.IsTupleIter it t i)(ht:s.heap.IsTuple t items)(hx:items[i]? = some x)
  (hQ:∀h',h'.IsTupleIter it t (i+1)→Heap.SameBut it s.heap h'→Q x { s with heap:=h' }):wpAny (model prog w) A (Builtin.SmallTypes.nextOf (.ref it)) Q E s:=by
 obtain⟨o,ho,hc,hd⟩:=id hit
 obtain⟨ol,hol,_,nl,hdl⟩:=ht
 unfold Builtin.SmallTypes.nextOf
 refine wpAny_bind (wpAny_callSpecial?_slot (name:=Str.ofString "__next__") hit.typeIs F.slot_tuple_iterator_next
  (wpAny_call_entry F.slot_tuple_iterator_next hit.typeIs F.entry_tuple_iterator_next ?_ (F.args_tuple_iterator_next_1 _)))
 show wpAny _ _ (field (.ref it) 0 >>= _) _ _ s
 refine wpAny_bind (wpAny_field ho hd (x:=.ref t) rfl ?_)
 show wpAny _ _ (if (Value.ref t == Value.none)=true then _ else _) _ _ s
 rw[if_neg (show ¬ ((Value.ref t == Value.none)=true) from Qj)]
 show wpAny _ _ (field (.ref it) 1 >>= _) _ _ s
 refine wpAny_bind (wpAny_field ho hd (x:=.int i 0) rfl ?_)
 show wpAny _ _ (seqItems? (.ref t) >>= _) _ _ s
 refine wpAny_bind (wpAny_seqItems hol hdl ?_)
 simp only[Int.toNat_natCast,hx]
 refine wpAny_bind (wpAny_setField ho hd (by simp) (wpAny_pure ⟨x,rfl,wpAny_pure (hQ _ ?_ (Qar ..))⟩))
 exact⟨_,Heap.get?_update_self _ ho (Obj.isFreed_of_fields (Obj.data_mapFields hd _)),(Obj.cls_mapFields ..).trans hc,by
  rw[Obj.data_mapFields hd];simp[rawInt]⟩
theorem ZaK{i:Addr}{k:Nat}{us:List Value}{Q:Value→Shared→Prop}:∀ {S:Src},S.at s.heap i k→S.raw s.heap us→k<S.many us →
  (∀h' tk u,S.fit us k u→S.at h' i (k+1)→Heap.SameBut i s.heap h'→Q u { s with heap:=h',toks:=tk })→wpAny (model prog w) A (Builtin.SmallTypes.nextOf (.ref i)) Q E s
 | .l a,h1,h2,h3,hQ=>wpAny_nextOf_list_item h1 h2 (x:=us[k]'h3) (by rw[QaC];exact Qc h3) fun h' q1 q2=>hQ h' s.toks _ (Qc h3) q1 q2
 | .t a,h1,h2,h3,hQ=>Zfp h1 h2 (x:=us[k]'h3) (by rw[QaC];exact Qc h3) fun h' q1 q2=>hQ h' s.toks _ (Qc h3) q1 q2
 | .s z,⟨tk,h1⟩,h2,h3,hQ=>by
  have hx:z.cps[k]? = some z.cps[k]:=QaM h3
  by_cases ha:z.cps.all (·<128)=true
  ·have e:strIterType z = "str_ascii_iterator":=by unfold strIterType;rw[if_pos ha]
   rw[e]at h1
   exact wpAny_nextOf_ascii_item h1 hx fun h' q1 q2=>hQ h' _ _ ⟨_,_,hx,rfl⟩ ⟨tk,by rw[e];exact q1⟩ q2
  ·have e:strIterType z = "str_iterator":=by unfold strIterType;rw[if_neg ha]
   rw[e]at h1
   exact wpAny_nextOf_wide_item h1 hx fun h' q1 q2=>hQ h' _ _ ⟨_,_,hx,rfl⟩ ⟨tk,by rw[e];exact q1⟩ q2
theorem Zds{it t:Addr}{i:Nat}{items:Array Value}{Q:Value→Shared→Prop}(hh:A.handled=none)(hit:s.heap.IsTupleIter it t i)(ht:s.heap.IsTuple t items)(hx:items[i]? = none)
  (hE:∀h' e,Heap.ExtBut it s.heap h'→(∃o,h'.get? e=some o∧o.cls=.type "StopIteration")→E (.ref e) { s with heap:=h' }):wpAny (model prog w) A (Builtin.SmallTypes.nextOf (.ref it)) Q E s:=by
 obtain⟨o,ho,hc,hd⟩:=id hit
 obtain⟨ol,hol,_,nl,hdl⟩:=ht
 unfold Builtin.SmallTypes.nextOf
 refine wpAny_bind (wpAny_callSpecial?_slot (name:=Str.ofString "__next__") hit.typeIs F.slot_tuple_iterator_next
  (wpAny_call_entry F.slot_tuple_iterator_next hit.typeIs F.entry_tuple_iterator_next ?_ (F.args_tuple_iterator_next_1 _)))
 show wpAny _ _ (field (.ref it) 0 >>= _) _ _ s
 refine wpAny_bind (wpAny_field ho hd (x:=.ref t) rfl ?_)
 show wpAny _ _ (if (Value.ref t == Value.none)=true then _ else _) _ _ s
 rw[if_neg (show ¬ ((Value.ref t == Value.none)=true) from Qj)]
 show wpAny _ _ (field (.ref it) 1 >>= _) _ _ s
 refine wpAny_bind (wpAny_field ho hd (x:=.int i 0) rfl ?_)
 show wpAny _ _ (seqItems? (.ref t) >>= _) _ _ s
 refine wpAny_bind (wpAny_seqItems hol hdl ?_)
 simp only[Int.toNat_natCast,hx]
 refine wpAny_bind (wpAny_rule (wpAny_bind (wpAny_setField ho hd (by simp) ?_)))
 show wpAny _ _ (newExc (.type "StopIteration") [] >>= _) _ _ _
 refine wpAny_bind ?_
 simp only[newExc,newTuple]
 refine wpAny_bind (wpAny_newObj_type ?_ (by size_fits))
 refine wpAny_bind (m:=firstArgMember _ _) (wpAny_of_eq (a:=Value.none) (by first|rfl|(simp only[firstArgMember];rfl)) ?_)
 refine wpAny_newObj_type ?_ (by size_fits)
 simp only[raiseNew]
 refine wpAny_bind (wpAny_handled ?_)
 first|rw[show A.in1.handled=none from hh]|rw[hh]
 refine wpAny_bind (wpAny_pure (wpAny_throw ?_))
 exact hE _ _ (((Qar ..).extBut.push _).push _) ⟨_,Qm _ rfl,rfl⟩
theorem Zb2{i:Addr}{k:Nat}{us:List Value}{Q:Value→Shared→Prop}(hh:A.handled=none):∀ {S:Src},S.at s.heap i k→S.raw s.heap us→S.many us≤k →
  (∀h' e,Heap.ExtBut i s.heap h'→(∃o,h'.get? e=some o∧o.cls=.type "StopIteration")→E (.ref e) { s with heap:=h' })→wpAny (model prog w) A (Builtin.SmallTypes.nextOf (.ref i)) Q E s
 | .l a,h1,h2,h3,hE=>wpAny_nextOf_list_end hh h1 h2 (by rw[QaC];exact QX h3) hE
 | .t a,h1,h2,h3,hE=>Zds hh h1 h2 (by rw[QaC];exact QX h3) hE
 | .s z,⟨tk,h1⟩,h2,h3,hE=>by
  have hx:z.cps[k]? = none:=Array.getElem?_eq_none h3
  by_cases ha:z.cps.all (·<128)=true
  ·have e:strIterType z = "str_ascii_iterator":=by unfold strIterType;rw[if_pos ha]
   rw[e]at h1
   exact wpAny_nextOf_ascii_end hh h1 hx hE
  ·have e:strIterType z = "str_iterator":=by unfold strIterType;rw[if_neg ha]
   rw[e]at h1
   exact wpAny_nextOf_wide_end hh h1 hx hE
structure ZfD (z TI TO i1 i2:Addr) (S1 S2:Src):Prop where
 TIz:TI≠z
 TOz:TO≠z
 i1z:i1≠z
 i2z:i2≠z
 TITO:TI≠TO
 TIi1:TI≠i1
 TIi2:TI≠i2
 TOi1:TO≠i1
 TOi2:TO≠i2
 i12:i1≠i2
 s1z:S1.off z
 s1TO:S1.off TO
 s1i1:S1.off i1
 s1i2:S1.off i2
 s2z:S2.off z
 s2TO:S2.off TO
 s2i1:S2.off i1
 s2i2:S2.off i2
end
def Src.iter(tk:Tok):Src→Obj
 | .l a=>{ cls:=.type "list_iterator",data:=.fields #[.ref a,.int 0 0] }
 | .t a=>{ cls:=.type "tuple_iterator",data:=.fields #[.ref a,.int 0 0] }
 | .s z=>{ cls:=.type (strIterType z),data:=.fields #[.str z tk,.int 0 0] }
def Src.value(tk:Tok):Src→Value
 | .l a=>.ref a
 | .t a=>.ref a
 | .s z=>.str z tk
theorem Src.iter_at{h:Heap}{i:Addr}{tk:Tok}:∀ {S:Src},h.get? i=some (S.iter tk)→S.at h i 0
 | .l _,e=>⟨_,e,rfl,rfl⟩
 | .t _,e=>⟨_,e,rfl,rfl⟩
 | .s _,e=>⟨tk,_,e,rfl,rfl⟩
theorem Src.pyIter{prog:Program}{w:World}{A:Around}{E:Value→Shared→Prop}{s:Shared}{tk:Tok}{us:List Value}{Q:Value→Shared→Prop}:∀ {S:Src},S.raw s.heap us →
  Q (.ref s.heap.objs.size) { s with heap:=s.heap.push (S.iter tk) }→wpAny (model prog w) A (pyIter (S.value tk)) Q E s
 | .l _,r,q=>wpAny_pyIter_list r q
 | .t _,r,q=>wpAny_pyIter_tuple r q
 | .s _,_,q=>wpAny_pyIter_strU q
theorem Src.raw_push{h:Heap}{ob:Obj}:∀ {S:Src} {us:List Value},S.raw h us→S.raw (h.push ob) us
 | .l _,_,⟨o,e,d⟩=>⟨o,Qa _ e,d⟩
 | .t _,_,⟨o,e,d⟩=>⟨o,Qa _ e,d⟩
 | .s _,_,_=>trivial
abbrev zH1(h:Heap)(S1:Src)(t1:Tok):Heap:=h.push (S1.iter t1)
abbrev zH2(h:Heap)(S1 S2:Src)(t1 t2:Tok):Heap:=(zH1 h S1 t1).push (S2.iter t2)
abbrev zH3(h:Heap)(S1 S2:Src)(t1 t2:Tok):Heap:=(zH2 h S1 S2 t1 t2).push { cls:=.type "tuple",data:=.seq #[.ref h.objs.size,.ref (zH1 h S1 t1).objs.size] }
abbrev zH4(h:Heap)(S1 S2:Src)(t1 t2:Tok):Heap:=(zH3 h S1 S2 t1 t2).push { cls:=.type "tuple",data:=.seq #[.none,.none] }
abbrev zH5(h:Heap)(S1 S2:Src)(t1 t2:Tok):Heap:=(zH4 h S1 S2 t1 t2).push { cls:=.type "zip",data:=.fields #[.none,.bool false,.bool false,.ref (zH2 h S1 S2 t1 t2).objs.size,.ref (zH3 h S1 S2 t1 t2).objs.size] }
theorem Zkx(S1 S2:Src)(t1 t2:Tok)(us1 us2:List Value) :
  Meets (Builtin.«zip.__new__» ⟨[.type "zip",S1.value t1,S2.value t2],[]⟩) (fun _ R s=>S1.raw s.heap us1∧S2.raw s.heap us2 ∧
   R (.ok (.ret (.ref (zH4 s.heap S1 S2 t1 t2).objs.size))) { s with heap:=zH5 s.heap S1 S2 t1 t2 }) :=
 .of_wp fun prog w A R s h=>by
  obtain⟨hp,g,d,tk,os⟩:=s;obtain⟨r1,r2,h⟩:=h
  have hsub:=sub_zip
  have q1:∀ {A:Around} {E:Value→Shared→Prop} {Q:Value→Shared→Prop},Q (.ref hp.objs.size) ⟨zH1 hp S1 t1,g,d,tk,os⟩→wpAny (model prog w) A (pyIter (S1.value t1)) Q E ⟨hp,g,d,tk,os⟩:=
   fun {A E Q} q=>Src.pyIter (s:=⟨hp,g,d,tk,os⟩) (us:=us1) r1 q
  have q2:∀ {A:Around} {E:Value→Shared→Prop} {Q:Value→Shared→Prop},Q (.ref (zH1 hp S1 t1).objs.size) ⟨zH2 hp S1 S2 t1 t2,g,d,tk,os⟩→wpAny (model prog w) A (pyIter (S2.value t2)) Q E ⟨zH1 hp S1 t1,g,d,tk,os⟩:=
   fun {A E Q} q=>Src.pyIter (s:=⟨zH1 hp S1 t1,g,d,tk,os⟩) (us:=us2) (S2.raw_push r2) q
  generalize S1.value t1=v1 at q1 ⊢
  generalize S2.value t2=v2 at q2 ⊢
  wp_walk using q1,q2
  exact⟨_,rfl,h⟩
section
variable {prog:Program} {w:World} {A:Around} {E:Value→Shared→Prop} {s:Shared}
theorem ZiP{S1 S2:Src}{t1 t2:Tok}{us1 us2:List Value}{Q:Value→Shared→Prop}(r1:S1.raw s.heap us1)(r2:S2.raw s.heap us2)
  (h:∀h',IsZip h' (s.heap.objs.size+4) (s.heap.objs.size+2) (s.heap.objs.size+3) .none→IsPair h' (s.heap.objs.size+2) (.ref s.heap.objs.size) (.ref (s.heap.objs.size+1)) →
   IsPair h' (s.heap.objs.size+3) .none .none→S1.at h' s.heap.objs.size 0→S2.at h' (s.heap.objs.size+1) 0→h'.objs.size=s.heap.objs.size+5 →
   (∀c o,s.heap.get? c=some o→h'.get? c=some o)→Q (.ref (s.heap.objs.size+4)) { s with heap:=h' }) :
  wpAny (model prog w) A (call (.type "zip") [S1.value t1,S2.value t2]) Q E s:=by
 refine callType_new F.called_zip (by decide) (F.typeCall_zip_2 _ _) (F.newCall_zip_2 _ _) (fun obj=>F.args_object_init_3 obj _ _) F.entry_zip_new (Zkx S1 S2 t1 t2 us1 us2) ⟨r1,r2,?_⟩
 have z1:(zH1 s.heap S1 t1).objs.size=s.heap.objs.size+1:=Q5 ..
 have z2:(zH2 s.heap S1 S2 t1 t2).objs.size=s.heap.objs.size+2:=by rw[Q5,z1]
 have z3:(zH3 s.heap S1 S2 t1 t2).objs.size=s.heap.objs.size+3:=by rw[Q5,z2]
 have z4:(zH4 s.heap S1 S2 t1 t2).objs.size=s.heap.objs.size+4:=by rw[Q5,z3]
 have z5:(zH5 s.heap S1 S2 t1 t2).objs.size=s.heap.objs.size+5:=by rw[Q5,z4]
 have fr:∀ (tk:Tok) (S:Src),(S.iter tk).isFreed=false:=fun tk S=>by cases S<;>rfl
 have g5:(zH5 s.heap S1 S2 t1 t2).get? (zH4 s.heap S1 S2 t1 t2).objs.size=some _:=Qm _ rfl
 have g4:(zH5 s.heap S1 S2 t1 t2).get? (zH3 s.heap S1 S2 t1 t2).objs.size=some _:=Qa _ (Qm _ rfl)
 have g3:(zH5 s.heap S1 S2 t1 t2).get? (zH2 s.heap S1 S2 t1 t2).objs.size=some _:=Qa _ (Qa _ (Qm _ rfl))
 have g2:(zH5 s.heap S1 S2 t1 t2).get? (zH1 s.heap S1 t1).objs.size=some (S2.iter t2):=Qa _ (Qa _ (Qa _ (Qm _ (fr _ _))))
 have g1:(zH5 s.heap S1 S2 t1 t2).get? s.heap.objs.size=some (S1.iter t1):=Qa _ (Qa _ (Qa _ (Qa _ (Qm _ (fr _ _)))))
 show _∧_
 rw[z2,z3,z4]at g5
 rw[z1,z2]at g3
 rw[z3]at g4
 rw[z1]at g2
 rw[z4]
 exact⟨⟨_,g5,rfl⟩,h _ g5 g3 g4 (Src.iter_at g1) (Src.iter_at g2) z5 fun c o x =>
  Qa _ (Qa _ (Qa _ (Qa _ (Qa _ x))))⟩
end
def Itz(K:PySem.W.Frag)(S1 S2:Src):It :=
 ⟨fun i H=>∃xs ys,S1.its K H xs∧S2.its K H ys∧i<xs.length∧i<ys.length,
  fun i H v H'=>∃p,H p=none∧v=.ref p∧∀xs ys,S1.its K H xs→S2.its K H ys→∀x y,xs[i]? = some x→ys[i]? = some y→H'=upd H p (.tup [x,y]),
  fun i H=>∃xs ys,S1.its K H xs∧S2.its K H ys∧(xs.length≤i∨ys.length≤i)⟩
section
variable {X:Cx} {pins:List (Addr×Obj)} {σ:St} {H:Hp} {s:Shared}
theorem Inv.src(I:Inv X pins σ H s):∀ {S:Src} {xs:List V},S.its X.K H xs→∃us,S.raw s.heap us∧S.many us=xs.length∧∀k u x,S.fit us k u→xs[k]? = some x→ZK x u
 | .l a,xs,h=>by
  obtain⟨its,rv,pl,_⟩:=I.list h
  refine⟨its,pl.isList,rv.length.symm,fun k u x e1 e2=>?_⟩
  obtain⟨u',e3,r⟩:=rv.get e2
  rw[show its[k]? = some u from e1]at e3;cases e3
  exact r
 | .t a,xs,h=>by
  obtain⟨its,rv,pl,_⟩:=I.tuple h
  refine⟨its,pl,rv.length.symm,fun k u x e1 e2=>?_⟩
  obtain⟨u',e3,r⟩:=rv.get e2
  rw[show its[k]? = some u from e1]at e3;cases e3
  exact r
 | .s z,xs,h=>by
  refine⟨[],trivial,?_,fun k u x e1 e2=>?_⟩
  ·rw[show xs=_ from h,Qb];simp[Src.many]
  ·obtain⟨c,tk,e3,e4⟩:=e1
   subst e4
   rw[show xs=_ from h,Qr]at e2
   have e5:z.cps.toList[k]? = some c:=by simpa using e3
   rw[e5]at e2
   cases e2
   exact⟨tk,rfl⟩
theorem Inv.src_off(I:Inv X pins σ H s){b:Addr}(hb:Zcg X pins H b):∀ {S:Src} {xs:List V},S.its X.K H xs→S.off b
 | .l a,xs,h=>by
  rcases h with(h|⟨ob,h⟩)|⟨o,its,n,hk,_⟩
  ·exact Zg h hb.1
  ·exact Zg h hb.1
  ·rintro rfl
   have e:=I.ok.mod.kin a o hk
   rcases hb.2.2.2.1 with z|z
   ·exact I.ok.noex a o e z
   ·exact absurd (Qx (Qk e) (QL I.ok.bsz z)) (Q0 _)
 | .t a,xs,h=>by
  rcases h with(h|⟨ob,h⟩)|⟨o,its,n,hk,_⟩
  ·exact Zg h hb.1
  ·exact Zg h hb.1
  ·rintro rfl
   have e:=I.ok.mod.kin a o hk
   rcases hb.2.2.2.1 with z|z
   ·exact I.ok.noex a o e z
   ·exact absurd (Qx (Qk e) (QL I.ok.bsz z)) (Q0 _)
 | .s z,xs,h=>trivial
theorem Inv.zipped{fp:List Addr}{h':Heap}{tk:Nat}{x y:V}{u v:Value}(I:Inv X pins σ H s)(hf:∀b∈fp,Zcg X pins H b)(rx:ZK x u)(ry:ZK y v)
  (hp:IsPair h' s.heap.objs.size u v) (hfh:∀b∈fp,∃o,h'.get? b=some o) (hk:∀c o,c ∉ fp→s.heap.get? c=some o→h'.get? c=some o) :
  Inv X pins σ (upd H s.heap.objs.size (.tup [x,y])) { s with heap:=h',toks:=tk }:=by
 have hn:H s.heap.objs.size=none:=I.fresh
 have ne:∀b ob,s.heap.get? b=some ob→b≠s.heap.objs.size:=fun b ob e=>Qv (Qk e)
 have nt:∀b u,H b=some u→b≠s.heap.objs.size:=fun b u e=>Zg e hn
 have nfp:∀b u,H b=some u→b ∉ fp:=fun b u e hb=>by rw[(hf b hb).1]at e;cases e
 refine I.step (g':=s.gens) (d':=s.drawn) (ch:=fp) (fun b hb=>⟨(hf b hb).2.2.2.1,(hf b hb).2.1,(hf b hb).2.2.2.2.1,(hf b hb).2.2.2.2.2⟩)
  (fun b ob _ _ hc e _=>hk b ob hc e) (fun b ob _ _ hc e _=>⟨ob.slots,hk b ob hc e⟩) (fun b ob _ e n=>by rw[Zj (ne b ob e)];exact n) (fun b ob hc e=>⟨ob,hk b ob hc e⟩)
  (fun b xs e=>by rw[Zj (nt b _ e)];exact e) (fun b ob u e=>by rw[Zj (nt b _ e)];exact e) (fun b ps e=>⟨#[],by rw[Zj (nt b _ e),e];simp⟩) (fun m hm=>?_) (fun b ub e=>?_) I.bare
 ·obtain⟨ob,es,ep,ho,r⟩:=hm
  exact⟨ob,es,ep,hk _ ob (fun z=>(hf _ z).2.1 rfl) ho,r⟩
 ·by_cases hb:b=s.heap.objs.size
  ·subst hb
   rw[Zb]at e;cases e
   exact⟨by show 2≤sizeLine;decide,[u,v],.cons rx (.cons ry .nil),⟨_,hp,rfl,_,rfl⟩⟩
  ·rw[Zj hb]at e
   refine(I.hok b ub e).stay (fun c w' hc q=>hk c w' ?_ q) (fun c q=>by rw[Zj (nt c _ q)];exact q) fun c xs q=>by rw[Zj (nt c _ q)];exact q
   rcases hc with z|z
   ·rw[z];exact nfp b ub e
   ·exact nfp c _ z
end
def Zm8(K:PySem.W.Frag)(ta:TA):TI:=fun σ H R=>ta σ H fun vs H1=>∃S1 S2 xs ys,vs=[Src.val S1,Src.val S2]∧S1.its K H1 xs∧S2.its K H1 ys∧R (Itz K S1 S2) H1
section
variable {X:Cx} (K:PySem.W.Frag)
theorem ixL(h:X.K=K:=by rfl):IxR X (ZnA K):=by subst h;exact Zk9
theorem ixT(h:X.K=K:=by rfl):IxR X (Znx K):=by subst h;exact Zmv
theorem slL(h:X.K=K:=by rfl):SlR X (Znp K):=by subst h;exact ZkO
def ZnD:List V→Hp→VK→Prop:=fun xs H Q=>∃p ys,xs=[.ref p]∧(SqL K H p ys∨SqT K H p ys)∧Q (.int ys.length) H
theorem ZbC(h:X.K=K:=by rfl):Z3 X (.builtin "len") (ZnD K):=by subst h;exact Zfe
theorem Zcs(h:X.K=K:=by rfl):Z3 X (.builtin "isinstance") (Znz K):=by subst h;exact ZjL
def Znq:List V→Hp→VK→Prop:=fun xs H Q=>∃ (p:Addr) (bs:List Bool),xs=[.ref p]∧SqL K H p (bs.map V.bl)∧Q (.bl (bs.all id)) H
theorem ZnU(hc:X.calm=true:=by rfl)(h:X.K=K:=by rfl):Z3 X (.builtin "all") (Znq K):=by subst h;exact Zji hc
theorem iL{tg l:Expr}{tl:TE}(hl:PE X l tl)(h:X.K=K:=by rfl):PI X tg l (ZlY K tl):=by subst h;exact ZkT hl
theorem iT{tg l:Expr}{tl:TE}(hl:PE X l tl)(h:X.K=K:=by rfl):PI X tg l (Znw K tl):=by subst h;exact Zmc hl
theorem gT{es:List Expr}{k:Nat}{t:TGs}{n:Nat}{pos:Pos}(h:PGs X es t)(hK:X.K=K:=by rfl)(hc:X.calm=true:=by rfl)
  (hn:(assignEach es X.env).length=n:=by rfl) (hst:(assignEach es X.env).findIdx? (·.1)=none:=by rfl):PG X (.Tuple es k pos) (Zny K n t):=by subst hK;exact Zmk hc h hn hst
end
structure Df (P:Program) (w:World) (K:PySem.W.Frag) (mg:Str→Option Value) (base:Heap) (k:Nat) (x:Str) (ps:List Str) (sp:Sp):Prop where
 ex:∃f fd,ZdQ P w K mg base CX0 k f fd ps sp∧mg x=some (.ref f)∧PySem.W.keepIn K (.ref f)=true∧Zcn K fd ps []
section
variable {P:Program} {w:World} {K:PySem.W.Frag} {mg:Str→Option Value} {base:Heap}
structure Top (K:PySem.W.Frag) (mg:Str→Option Value) (x:Str) (st:Stmt) (ps:List Str):Prop where
 ex:∃f fd,Fun K x x st f fd∧mg x=some (.ref f)∧Zcn K fd ps []
theorem Top.df{x:Str}{st:Stmt}{N ps:List Str}{k:Nat}{sp:Sp}(T:Top K mg x st ps)(S:Zr N ps (Zf st))(len:∀vs H Q E,sp vs H Q E→vs.length=ps.length)
  (hbody:∀ (cdv:Value) (f:Addr) (A:Around) (outer:List Env) (s:Shared) (H:Hp) (vs:List V) (Q:VK) (E:XK),ZaM k (A.deeper (envOfC x (Zf st) s.heap.objs.size f cdv))→sp vs H Q E →
   ∃t,PSs (Zg8 CX0 P w K mg base N x (Zf st) f cdv A outer s H E).nox (Zo st) t∧t { nx:=fun _ H'=>Q .non H',rt:=Q } (Zdc N vs) H):Df P w K mg base (k+1) x ps sp:=by
 obtain⟨f,fd,F,m,b⟩:=T.ex
 exact⟨f,fd,F.ok S len (fun cdv A outer s H vs Q E hr h=>hbody cdv f A outer s H vs Q E hr h),m,F.kp,b⟩
end
section
variable {X:Cx} {k j:Nat} {x:Str} {ps:List Str} {sp:Sp} {e:Expr} {es:List Expr} {t:TA} {p pos:Pos}
theorem Zs(F:Df X.prog X.w X.K X.mg X.base k x ps sp)(hr:ZaM j X.A)(ha:PA X (e::es) t)(hjk:k≤j:=by decide)(hg:Gl X x:=by rfl)(hdb:(x == ("__debug__" : Str))=false:=by decide)
  (he:starEach (e::es) X.env=(false,eval e X.env)::starEach es X.env:=by rfl) (hpl:(backTo pos (starEach es X.env)).any (·.1)=false:=by rfl) :
  PE X (.Call (.Name x p) (e::es) [] pos) (Zkh sp [] E0 t):=by
 obtain⟨f,fd,F,m,kp,b⟩:=F.ex
 exact Zk8 F (hr.mono hjk) hg m kp b .nil Znl ha hdb he hpl
theorem Za6{T:String}(hm:X.mg x=none)(hv:bootBuiltins x=some (.type T))(hg:Gl X x:=by rfl)(hn:x ≠ "__name__":=by decide)(hd:(x == ("__debug__" : Str))=false:=by decide):PE X (.Name x pos) (tC (.ty T)) :=
 Zkj hg hm hv rfl hn hd
end
theorem Zb7{lo:Int}{n k:Nat}{D:Addr}{σ:St}{H1:Hp}{g:TG}{te:TE}{Q:VK}(Pv:Nat→List V→St→Hp→Prop)(h0:Pv 0 [] (σ++List.replicate k none) (upd H1 D (.lst [])))
  (hs:∀i ys σ H,i<n→Pv i ys σ H→g (.int (lo+i)) σ H fun σ4 H4=>te σ4 H4 fun y H6=>H6 D=some (.lst ys)∧ys.length<sizeLine∧Pv (i+1) (ys++[y]) σ4 (upd H6 D (.lst (ys++[y]))))
  (hd:∀ys σ H,Pv n ys σ H→Q (.ref D) H):ZdB (Itr lo n) D k σ H1 g Zdy te Q:=by
 refine⟨fun i m ys σ H=>m=n-i∧i≤n∧Pv i ys σ H,⟨n,by simp,Ql _,h0⟩,?_⟩
 rintro i m ys σ H ⟨rfl,hi,p⟩
 by_cases hlt:i<n
 ·refine .inr ⟨hlt,Pv (i+1),fun ys' σ' H' p'=>⟨n-(i+1),by omega,rfl,hlt,p'⟩,fun x H' y=>?_⟩
  obtain⟨e,y⟩:=y
  subst e y
  simp only[Zdy,↓reduceIte]
  exact hs i ys σ _ hlt p
 ·have e:i=n:=by omega
  subst e
  exact .inl ⟨Qd _,hd ys σ H p⟩
theorem ZiX{K:PySem.W.Frag}{S1 S2:Src}{xs ys:List V}{k:Nat}{D:Addr}{σ:St}{H1:Hp}{g:TG}{te:TE}{Q:VK}(Pv:Nat→List V→St→Hp→Prop)(h0:Pv 0 [] (σ++List.replicate k none) (upd H1 D (.lst [])))
  (hl:∀i zs σ H,Pv i zs σ H→S1.its K H xs∧S2.its K H ys)
  (hs:∀i zs σ H x y p,xs[i]? = some x→ys[i]? = some y→Pv i zs σ H→H p=none→g (.ref p) σ (upd H p (.tup [x,y])) fun σ4 H4=>te σ4 H4 fun z H6=>H6 D=some (.lst zs)∧zs.length<sizeLine∧Pv (i+1) (zs++[z]) σ4 (upd H6 D (.lst (zs++[z]))))
  (hd:∀zs σ H,Pv (min xs.length ys.length) zs σ H→Q (.ref D) H):ZdB (Itz K S1 S2) D k σ H1 g Zdy te Q:=by
 refine⟨fun i m zs σ H=>m=min xs.length ys.length-i∧i≤min xs.length ys.length∧Pv i zs σ H,⟨min xs.length ys.length,by simp,Ql _,h0⟩,?_⟩
 rintro i m zs σ H ⟨rfl,hi,p⟩
 obtain⟨q1,q2⟩:=hl i zs σ H p
 by_cases hlt:i<min xs.length ys.length
 ·have l1:i<xs.length:=by omega
  have l2:i<ys.length:=by omega
  refine .inr ⟨⟨xs,ys,q1,q2,l1,l2⟩,Pv (i+1),fun ys' σ' H' p'=>⟨min xs.length ys.length-(i+1),by omega,rfl,hlt,p'⟩,fun x H' y=>?_⟩
  obtain⟨r,hr,rfl,e⟩:=y
  have e':=e xs ys q1 q2 _ _ (Qc l1) (Qc l2)
  subst e'
  simp only[Zdy,↓reduceIte]
  exact hs i zs σ H _ _ r (Qc l1) (Qc l2) p hr
 ·have e:i=min xs.length ys.length:=by omega
  refine .inl ⟨⟨xs,ys,q1,q2,by omega⟩,hd zs σ H (e ▸ p)⟩
section
variable {X:Cx} {N N':List Str} {o c:Scope} {x:Str} {pos:Pos} {C:Addr} {s:Shared} {H:Hp} {fp:List Addr}
theorem ZcH(S:ZC N N' o c)(ho:X.env.scope=o)(hl:c.names.lookup x=some .local):(Zu X c N' C s H fp).env.scope.names.lookup x=some .local:=by
 have e:=ZbQ (X:=X) S ho (ZV X.env.cells c.names []) C x
 rw[hl]at e
 exact e
theorem Zad(S:ZC N N' o c)(ho:X.env.scope=o)(hl:c.names.lookup x=some .globalImplicit):Gl (Zu X c N' C s H fp) x:=by
 have e:=ZbQ (X:=X) S ho (ZV X.env.cells c.names []) C x
 rw[hl]at e
 exact e
theorem Zj2(S:ZC N N' o c)(ho:X.env.scope=o)(hl:c.names.lookup x=some .free):Vis (Zu X c N' C s H fp).env.scope x:=by
 have e:=ZbQ (X:=X) S ho (ZV X.env.cells c.names []) C x
 rw[hl]at e
 have e':(Zu X c N' C s H fp).env.scope.names.lookup x=if X.env.kindOf x=some .cell then some NameKind.cell else some NameKind.free:=e
 by_cases z:X.env.kindOf x=some .cell
 ·rw[if_pos z]at e';exact .inr (.inl e')
 ·rw[if_neg z]at e';exact .inr (.inr e')
theorem cv(i:Nat)(S:ZC N N' o c)(ho:X.env.scope=o)(hl:c.names.lookup x=some .free)(hN:N'[i]? = some x:=by rfl)(hd:(x == ("__debug__" : Str))=false:=by decide)(hcd:(x == ("__classdict__" : Str))=false:=by decide) :
  PE (Zu X c N' C s H fp) (.Name x pos) (Zlv i):=Zhj hN (Zj2 S ho hl) hd hcd
theorem cw(i:Nat)(S:ZC N N' o c)(ho:X.env.scope=o)(hl:c.names.lookup x=some .local)(hN:N'[i]? = some x:=by rfl)(hd:(x == ("__debug__" : Str))=false:=by decide)(hcd:(x == ("__classdict__" : Str))=false:=by decide) :
  PE (Zu X c N' C s H fp) (.Name x pos) (Zlv i):=Zhj hN (.inl (ZcH S ho hl)) hd hcd
theorem cg(i:Nat)(S:ZC N N' o c)(ho:X.env.scope=o)(hl:c.names.lookup x=some .local)(hi:N'[i]? = some x:=by rfl):PG (Zu X c N' C s H fp) (.Name x pos) (ZfF i) :=
 Zx S.nd hi (.inl (ZcH S ho hl)) (.inr (ZcH S ho hl))
end
mutual
inductive DV (K:PySem.W.Frag) (H:Hp):V→PyData→Prop where
 | non:DV K H .non .none
 | bl (b:Bool):DV K H (.bl b) (.bool b)
 | int (i:Int):DV K H (.int i) (.int i)
 | str (s:Str):DV K H (.str s) (.str s)
 | lst {a:Addr} {xs:List V} {ds:List PyData}:SqL K H a xs→DVs K H xs ds→DV K H (.ref a) (.list ds)
 | tup {a:Addr} {xs:List V} {ds:List PyData}:SqT K H a xs→DVs K H xs ds→DV K H (.ref a) (.tuple ds)
inductive DVs (K:PySem.W.Frag) (H:Hp):List V→List PyData→Prop where
 | nil:DVs K H [] []
 | cons {x:V} {d:PyData} {xs:List V} {ds:List PyData}:DV K H x d→DVs K H xs ds→DVs K H (x::xs) (d::ds)
end
section
variable {X:Cx} {pins:List (Addr×Obj)} {σ:St} {H:Hp} {s:Shared}
mutual
theorem Inv.reads(I:Inv X pins σ H s):∀ {x:V} {d:PyData} {u:Value},DV X.K H x d→ZK x u→∃as,Reads s.heap u d as
 | _,_,_,.non,r=>by cases r;exact⟨_,.none⟩
 | _,_,_,.bl b,r=>by cases r;exact⟨_,.bool b⟩
 | _,_,_,.int i,r=>by obtain⟨t,rfl⟩:=r;exact⟨_,.int i t⟩
 | _,_,_,.str z,r=>by obtain⟨t,rfl⟩:=r;exact⟨_,.str z t⟩
 | _,_,_,.lst h hs,r=>by
  cases r
  obtain⟨its,rv,⟨o,n,e,hc,_,hd⟩,_⟩:=I.list h
  obtain⟨as,q⟩:=Inv.readsAll I hs rv
  exact⟨_,reads_list_at e hc hd (by simpa using q)⟩
 | _,_,_,.tup h hs,r=>by
  cases r
  obtain⟨its,rv,⟨o,e,hc,n,hd⟩,_⟩:=I.tuple h
  obtain⟨as,q⟩:=Inv.readsAll I hs rv
  exact⟨_,reads_tuple_at e hc hd (by simpa using q)⟩
theorem Inv.readsAll(I:Inv X pins σ H s):∀ {xs:List V} {ds:List PyData} {us:List Value},DVs X.K H xs ds→Zy xs us→∃as,ReadsAll s.heap us ds as
 | _,_,_,.nil,r=>by cases r;exact⟨_,.nil⟩
 | _,_,_,.cons h hs,r=>by
  cases r with
  | cons r1 r2 =>
   obtain⟨as,q1⟩:=Inv.reads I h r1
   obtain⟨bs,q2⟩:=Inv.readsAll I hs r2
   exact⟨_,.cons q1 q2⟩
end
def ZkA(K:PySem.W.Frag)(neg:Bool):R2:=fun x y H Q=>∃d e,DV K H x d∧DV K H y e∧SeqAt.shaped d=true∧SeqAt.shaped e=true∧Q (.bl (if neg then !PyData.eqv d e else PyData.eqv d e)) H
theorem Zma(hu:X.A.units+64<cLine):OpR X (compareOp .Eq) (ZkA X.K false):=by
 intro pins s σ H x y v u Q I rx ry h
 obtain⟨d,e,h1,h2,s1,s2,q⟩:=h
 obtain⟨as,r1⟩:=I.reads h1 rx
 obtain⟨bs,r2⟩:=I.reads h2 ry
 exact eq_dataH r1 r2 s1 s2 hu ⟨.bl _,H,I,rfl,q⟩
theorem Zl1(hu:X.A.units+64<cLine):OpR X (compareOp .NotEq) (ZkA X.K true):=by
 intro pins s σ H x y v u Q I rx ry h
 obtain⟨d,e,h1,h2,s1,s2,q⟩:=h
 obtain⟨as,r1⟩:=I.reads h1 rx
 obtain⟨bs,r2⟩:=I.reads h2 ry
 exact ne_dataH r1 r2 s1 s2 hu ⟨.bl _,H,I,rfl,q⟩
end
theorem eqD{X:Cx}(K:PySem.W.Frag){k:Nat}(hr:ZaM k X.A)(h:X.K=K:=by rfl):OpR X (compareOp .Eq) (ZkA K false):=by subst h;exact Zma hr.units
theorem neD{X:Cx}(K:PySem.W.Frag){k:Nat}(hr:ZaM k X.A)(h:X.K=K:=by rfl):OpR X (compareOp .NotEq) (ZkA K true):=by subst h;exact Zl1 hr.units
mutual
theorem DV.mono{K:PySem.W.Frag}{H H':Hp}(s:Zn H H'):∀ {x:V} {d:PyData},DV K H x d→DV K H' x d
 | _,_,.non=>.non
 | _,_,.bl b=>.bl b
 | _,_,.int i=>.int i
 | _,_,.str z=>.str z
 | _,_,.lst h hs=>.lst (s.seq h) (DVs.mono s hs)
 | _,_,.tup h hs=>.tup (by
   rcases h with(h|⟨ob,h⟩)|h
   ·exact .inl (.inl (s _ _ h))
   ·exact .inl (.inr ⟨ob,s _ _ h⟩)
   ·exact .inr h) (DVs.mono s hs)
theorem DVs.mono{K:PySem.W.Frag}{H H':Hp}(s:Zn H H'):∀ {xs:List V} {ds:List PyData},DVs K H xs ds→DVs K H' xs ds
 | _,_,.nil=>.nil
 | _,_,.cons h hs=>.cons (DV.mono s h) (DVs.mono s hs)
end
def ZlU(K:PySem.W.Frag):List V→Hp→VK→Prop:=fun vs H Q=>∃ (p:Addr) (ns:List Int),vs=[.ref p]∧SqL K H p (ns.map V.int)∧0<ns.length∧∀M,M∈ns→(∀a∈ns,M≤a)→Q (.int M) H
theorem Zir{X:Cx}(hc:X.calm=true):Z3 X (.builtin "min") (ZlU X.K):=by
 intro pins s σ H vs us Q I r h
 obtain⟨p,ns,rfl,hq,hne,q⟩:=h
 obtain⟨u,rfl,rx⟩:=Zbq r
 cases rx
 obtain⟨its,rv,pl,_⟩:=I.list hq
 have hi:=Zbr rv
 obtain⟨xs,e⟩:=hi.allInts.items
 have hns:ns=xs.toList.map (·.1):=by rw[← hi.numsOf,← nums_intItems,← e]
 have hsz:0<xs.size:=by
  have h3:=hne
  rw[hns,Qb,Qs]at h3
  exact h3
 have hl:=pl.isList
 rw[e]at hl
 refine min_intList (I.ok.hd hc) hl hsz fun v h' tk hv hk=>?_
 obtain⟨t,rfl⟩:=intItems_at hv
 obtain⟨h1,h2⟩:=argBest_lt (numAt xs) (xs.size-1)
 refine⟨.int _,H,I.kept hk,⟨t,rfl⟩,q _ ?_ fun a ha=>?_⟩
 ·rw[hns,numAt_eq];exact getD_mem (by rw[Qb,Qs];omega)
 ·rw[hns]at ha
  obtain⟨j,hj,rfl⟩:=mem_getD ha
  rw[Qb,Qs]at hj
  rw[← numAt_eq];exact h2 j (by omega)
theorem ZmZ{X:Cx}(K:PySem.W.Frag)(hc:X.calm=true:=by rfl)(h:X.K=K:=by rfl):Z3 X (.builtin "min") (ZlU K):=by subst h;exact Zir hc
section
variable {prog:Program} {w:World} {A:Around} {E:Value→Shared→Prop} {s:Shared}
end
theorem ZeL{xs:List V}{us:List Value}(r:Zy xs us):∀is:List Nat,Zy (is.filterMap fun i=>xs[i]?) (is.filterMap fun i=>us[i]?)
 | []=>.nil
 | i::is=>by
  have ih:=ZeL r is
  by_cases hi:i<xs.length
  ·have e1:xs[i]? = some xs[i]:=Qc hi
   obtain⟨u,hu,ru⟩:=r.get e1
   rw[QR,QR,e1,hu]
   exact .cons ru ih
  ·have e1:xs[i]? = none:=QX (by omega)
   have e2:us[i]? = none:=QX (by rw[← r.length];omega)
   rw[QR,QR,e1,e2]
   exact ih
def ZmB(X:Cx)(r:V→Option Int→Option Int→Int→Hp→VK→Prop):Prop :=
 ∀ (pins:List (Addr×Obj)) (s:Shared) (σ:St) (H:Hp) (x:V) (v vl vu vs:Value) (lo hi:Option Int) (st:Int) (sl:Addr) (Q:VK),Inv X pins σ H s→ZK x v→s.heap.IsSliceOf sl vl vu vs→IsPart vl lo→IsPart vu hi→IsPart vs (some st)→r x lo hi st H Q →
  ∃T id,typeLookup (.type T) "__getitem__" = pure (some (.builtin id))∧s.TypeIs v T∧wpAny (model X.prog X.w) X.A (getItem v (.ref sl)) (EP X pins σ Q) X.xe s
def ZnI(r:V→Option Int→Option Int→Int→Hp→VK→Prop)(te:TE)(tl th ts:TO):TE:=fun σ H Q=>te σ H fun x H1=>tl σ H1 fun l H2=>th σ H2 fun u H3=>ts σ H3 fun k H4=>∃i,k=some i∧r x l u i H4 Q
section
variable {X:Cx} {e st:Expr} {te:TE} {lo hi:Option Expr} {tl th ts:TO} {pos p2:Pos}
theorem Ziw{r:V→Option Int→Option Int→Int→Hp→VK→Prop}(hr:ZmB X r)(he:PE X e te)(hl:PO X lo tl)(hu:PO X hi th)(hst:PO X (some st) ts):PE X (.Subscript e (.Slice lo hi (some st) p2) pos) (ZnI r te tl th ts):=by
 intro pins s σ H Q I h
 refine Subscript_ (thn (he pins s σ H _ I h) ?_)
 rintro v s1 ⟨x,H1,I1,r1,q1⟩
 refine wpAny_Slice (thn (hl pins s1 σ H1 _ I1 q1) fun vl s2 ⟨l,H2,I2,pl,q2⟩=>thn (hu pins s2 σ H2 _ I2 q2) fun vu s3 ⟨u,H3,I3,pu,q3⟩=>thn (hst pins s3 σ H3 _ I3 q3) ?_)
 rintro vs s4 ⟨k,H4,I4,pk,q4⟩
 obtain⟨i,rfl,q4⟩:=q4
 have I5:Inv X pins σ H4 { s4 with heap:=s4.heap.push { cls:=.type "slice",data:=.fields #[vl,vu,vs] } }:=I4.kept (t':=s4.toks) fun b ob q=>Qa _ q
 obtain⟨T,id,hT,ht,hg⟩:=hr pins { s4 with heap:=s4.heap.push { cls:=.type "slice",data:=.fields #[vl,vu,vs] } } σ H4 x v vl vu vs l u i s4.heap.objs.size Q I5 r1 (Heap.IsSliceOf.new ..) pl pu pk q4
 show wpAny (model X.prog X.w) X.A (subscriptTail e (.Slice lo hi (some st) p2) v (.ref s4.heap.objs.size)) (EP X pins σ Q) X.xe { s4 with heap:=s4.heap.push { cls:=.type "slice",data:=.fields #[vl,vu,vs] } }
 exact tail_any (ops:=[v,.ref s4.heap.objs.size]) ht hT hg (by with_unfolding_all rfl)
end
theorem ZbE{α:Type}(xs:List α):((List.range xs.length).map fun i=>xs.length-1-i).filterMap (fun i=>xs[i]?)=xs.reverse:=by
 rw[List.filterMap_map]
 have e:∀n,n≤xs.length→(List.range n).filterMap ((fun i=>xs[i]?) ∘ fun i=>xs.length-1-i)=xs.reverse.take n:=by
  intro n
  induction n with
  | zero=>intro _;rfl
  | succ n ih =>
   intro hn
   rw[QaT,List.filterMap_append,ih (by omega)]
   have h1:xs[xs.length-1-n]? = some xs[xs.length-1-n]:=Qc (by omega)
   rw[QR]
   simp only[Function.comp,h1,List.filterMap_nil]
   rw[Qw,List.getElem?_reverse (by omega),h1]
   rfl
 rw[e _ (Qd _)]
 exact Qq (by simp)
section
variable {X:Cx}
def Zm0(K:PySem.W.Frag):List V→Hp→VK→Prop:=fun xs H Q=>∃p ys,xs=[.ref p]∧((SqL K H p ys∧∀l,H l=none→Q (.ref l) (upd H l (.tup ys)))∨(SqT K H p ys∧Q (.ref p) H))
theorem ZnT(K:PySem.W.Frag)(h:X.K=K:=by rfl):Z3 X (.type "tuple") (Zm0 K):=by subst h;exact Zem
end
section
variable {X:Cx} {tg:Expr}
end
def Znu:PyData→Str
 | .str z=>z
 | d=>d.shown
def ZU(kvs:List (List Key×V))(k:List Key):Option V:=(kvs.find? fun kv=>decide (kv.1=k)).map (·.2)
abbrev ZcG(H:Hp):List (List Key×V)→List (List Key×Addr×Value)→Prop:=Paired fun (p:List Key×V) (q:List Key×Addr×Value)=>p.1=q.1∧H q.2.1=some (.tup (p.1.map kV))∧ZK p.2 q.2.2
theorem ZeQ{H:Hp}{kvs:List (List Key×V)}{xs:List (List Key×Addr×Value)}(r:ZcG H kvs xs){p:List Key×V}{q:List Key×Addr×Value}(h:p.1=q.1∧H q.2.1=some (.tup (p.1.map kV))∧ZK p.2 q.2.2):ZcG H (kvs++[p]) (xs++[q]):=by
 induction r with
 | nil=>exact .cons h .nil
 | cons a t ih=>exact .cons a ih
theorem Zdw{H H':Hp}{kvs:List (List Key×V)}{xs:List (List Key×Addr×Value)}(k:∀b ys,H b=some (.tup ys)→H' b=some (.tup ys))(r:ZcG H kvs xs):ZcG H' kvs xs:=by
 induction r with
 | nil=>exact .nil
 | cons a t ih=>exact .cons ⟨a.1,k _ _ a.2.1,a.2.2⟩ ih
theorem Zci{H:Hp}{R:List Key→Addr→Prop}(k:∀ks b,H b=some (.tup (ks.map kV))→R ks b){kvs:List (List Key×V)}{xs:List (List Key×Addr×Value)}(r:ZcG H kvs xs):∀x∈xs,R x.1 x.2.1:=by
 induction r with
 | nil=>intro x hx;cases hx
 | cons a t ih =>
  intro x hx
  rcases QM.mp hx with rfl|hx
  ·exact k _ _ (by rw[← a.1];exact a.2.1)
  ·exact ih x hx
theorem Zcl{H:Hp}{kvs:List (List Key×V)}{xs:List (List Key×Addr×Value)}(r:ZcG H kvs xs):kvs.length=xs.length:=by
 induction r with
 | nil=>rfl
 | cons a t ih=>rw[QE,QE,ih]
theorem Zl4{P:Program}{w:World}{k:Key}{u:Value}(r:ZK (kV k) u):(ZN P w).is k u=true:=by
 rcases k with i|x
 ·obtain⟨t,e⟩:=(show ∃t,u=Value.int i t from r)
  rw[e]
  exact ZfN P w i t
 ·obtain⟨t,e⟩:=(show ∃t,u=Value.str x t from r)
  rw[e]
  exact Zgz P w x t
theorem ZjI{P:Program}{w:World}:∀ (ks:List Key) (us:List Value),Zy (ks.map kV) us→ItemsAre (ZN P w) ks us:=by
 intro ks
 induction ks with
 | nil=>intro us r;cases (show Zy [] us from r);exact .nil
 | cons k ks ih =>
  intro us r
  cases (show Zy (kV k::ks.map kV) us from r) with
  | cons a b=>exact .cons (Zl4 a) (ih _ b)
section
variable {X:Cx} {pins:List (Addr×Obj)} {σ:St} {H:Hp} {s:Shared}
theorem Inv.tkey{ks:List Key}{b:Addr}(I:Inv X pins σ H s)(e:H b=some (.tup (ks.map kV))):(tupleKind (ZN X.prog X.w)).is s.heap ks b:=by
 obtain⟨_,its,r,hb⟩:=I.hok b _ e
 obtain⟨o,h1,h2,n,h3⟩:=hb
 refine⟨o,its.toArray,n,h1,h2,h3,?_⟩
 have:=ZjI (P:=X.prog) (w:=X.w) ks its r
 simpa using this
def Zni:TE:=fun _ H Q=>∀p,H p=none→Q (.ref p) (upd H p (.dT []))
theorem Zkw{pos:Pos}:PE X (.Dict [] [] pos) Zni:=by
 intro pins s σ H Q I h
 have hb:sysModules<s.heap.objs.size:=QaX (by decide) (show mainGlobals<s.heap.objs.size from(I.mod.glob.keeps I.bk).lt)
 refine wpAny_Dict_empty ⟨.ref s.heap.objs.size,upd H s.heap.objs.size (.dT []),?_,rfl,h _ (I.hok.fresh (Qd _))⟩
 refine I.laid (t':=s.toks) (fun _ _ q=>Qa _ q) (Qd _) ?_
 refine⟨Ql _,?_,[],.nil,_,#[],0,Qm _ rfl,⟨rfl,rfl,rfl⟩,rfl,rfl,List.nodup_nil⟩
 exact beq_eq_false_iff_ne.mpr fun z=>Q0 _ (z ▸ hb)
end
def Znh:List V→Hp→VK→Prop:=fun xs H Q=>∃j:Int,xs=[.int j]∧∀p,H p=none→Q (.ref p) (upd H p (.rng 0 j))
theorem Zmm{X:Cx}:Z3 X (.type "range") Znh:=by
 intro pins s σ H xs us Q I r h
 obtain⟨j,rfl,q⟩:=h
 obtain⟨u,rfl,t,rfl⟩:=Zbq r
 refine call_range_1 ⟨.ref s.heap.objs.size,_,I.laid (a:=s.heap.objs.size) (o:=.rng 0 j) (fun b o e=>Qa _ e) (Qd _) ?_,rfl,q _ (I.hok.fresh (Qd _))⟩
 exact⟨_,_,_,Qm _ rfl⟩
def Z8(lo:Int)(n:Nat):List Int:=(List.range n).map fun (k:Nat)=>lo+k
theorem Zc5(lo:Int)(n:Nat):(Z8 lo n).length=n:=by simp[Z8]
theorem ZgX{lo:Int}:∀ (n:Nat) (us:List Value),us.length=n→(∀ (j:Nat) (v:Value),us[j]? = some v→∃t,v=Value.int (lo+j*1) t)→Zy ((Z8 lo n).map V.int) us:=by
 intro n us hl h
 subst hl
 induction us generalizing lo with
 | nil=>exact .nil
 | cons u r ih =>
  have e:Z8 lo (u::r).length=lo::Z8 (lo+1) r.length:=by
   unfold Z8
   rw[QE,List.range_succ_eq_map,QD,Q3]
   refine congr (congrArg _ (by simp)) (List.map_congr_left fun a _=>?_)
   simp only[Function.comp]
   omega
  rw[e,QD]
  refine .cons ?_ (ih fun j v hv=>?_)
  ·obtain⟨t,e⟩:=h 0 u rfl
   exact⟨t,by rw[e];simp⟩
  ·obtain⟨t,e⟩:=h (j+1) v (by simpa using hv)
   exact⟨t,by rw[e];congr 1;omega⟩
def ZmK:List V→Hp→VK→Prop:=fun xs H Q=>∃ (p:Addr) (lo hi:Int),xs=[.ref p]∧H p=some (.rng lo hi) ∧ -(2 ^ 62)≤lo∧lo<2 ^ 62 ∧ -(2 ^ 62)≤hi∧hi<2 ^ 62∧(hi-lo).toNat≤1000 ∧
 ∀l,H l=none→Q (.ref l) (upd H l (.lst ((Z8 lo (hi-lo).toNat).map V.int)))
theorem Zj0{X:Cx}(hc:X.calm=true:=by rfl):Z3 X (.type "list") ZmK:=by
 intro pins s σ H xs us Q I r h
 obtain⟨p,lo,hi,rfl,hp,h1,h2,h3,h4,h5,q⟩:=h
 obtain⟨u,rfl,rx⟩:=Zbq r
 cases rx
 obtain⟨t,u,v,e⟩:=I.hok _ _ hp
 have sz:Builtin.Range.rangeSize lo hi 1=(((hi-lo).toNat:Nat):Int):=by rw[rangeSize_one];split<;>omega
 refine call_list_range (I.ok.hd hc) e (small_one h1 h2 h3 h4) sz (by omega) fun h' tk acc' c' kp e' it=>?_
 refine⟨.ref s.heap.objs.size,_,I.laid (t':=tk) kp (Qd _) (show Z7 X.prog X.w _ h' _ (.lst ((Z8 lo (hi-lo).toNat).map V.int)) from⟨?_,acc'.toList,c',ZgX _ _ (by simpa using it.1) (fun j v hv=>it.2 j v (by simpa using hv)),by simpa using e'⟩),rfl,q _ (I.hok.fresh (Qd _))⟩
 rw[Qb,Zc5]
 exact Q7 (ZB h5)
theorem ZfY(n:Nat):Builtin.Slice.sliceAdjust none none (-1) (n:Int)=((n:Int)-1,-1):=by
 unfold Builtin.Slice.sliceAdjust
 simp
theorem Zgk(n:Nat):Builtin.Slice.slicePlaces ((n:Int)-1) (-1) (-1)=n:=by
 unfold Builtin.Slice.slicePlaces
 have h1:¬ ((-1:Int)>0):=by omega
 simp only[h1,if_false]
 by_cases h:(n:Int)-1 > -1
 ·simp only[h,if_true];simp
 ·simp only[h,if_false];omega
section
variable {prog:Program} {w:World} {A:Around} {E:Value→Shared→Prop} {s:Shared}
theorem ZcX{sl:Addr}{t:Tok}{n:Nat}{Q:Int×Int×Nat→Shared→Prop}(hs:s.heap.IsSliceOf sl .none .none (.int (-1) t))
  (h:Q ((n:Int)-1,-1,n) s):wpAny (model prog w) A (Builtin.Slice.sliceApplied (.ref sl) (pure (n:Int))) Q E s:=by
 obtain⟨os,hos,hcs,hds⟩:=id hs
 unfold Builtin.Slice.sliceApplied Builtin.Slice.sliceFields
 refine wpAny_bind (wpAny_bind (wpAny_field hos hds (x:=.none) rfl (wpAny_bind (wpAny_field hos hds (x:=.none) rfl (wpAny_bind (wpAny_field hos hds (x:=.int (-1) t) rfl (wpAny_pure ?_)))))))
 refine wpAny_bind (slicePart_int ?_)
 show wpAny _ _ (if ((-1:Int) == 0)=true then _ else _) _ _ s
 rw[if_neg (by decide)]
 refine wpAny_bind (slicePart_none (wpAny_bind (slicePart_none (wpAny_bind (wpAny_pure ?_)))))
 show wpAny _ _ (match Builtin.Slice.sliceAdjust none none (-1) (n:Int) with|(lo,hi)=>pure (lo,(-1:Int),Builtin.Slice.slicePlaces lo hi (-1))) _ _ s
 rw[ZfY n]
 show wpAny _ _ (pure ((n:Int)-1,(-1:Int),Builtin.Slice.slicePlaces ((n:Int)-1) (-1) (-1))) _ _ s
 rw[Zgk]
 exact wpAny_pure h
theorem ZfG{α β:Type}{f g:α→Option β}:∀l:List α,(∀m∈l,f m=g m)→l.filterMap f=l.filterMap g
 | [],_=>rfl
 | a::r,h=>by rw[QR,QR,h a (by simp),ZfG r fun m hm=>h m (Qi _ hm)]
theorem Zia(xs:Array Value):((List.range xs.size).filterMap fun (m:Nat)=>xs[(((xs.size:Nat):Int)-1+(m:Int)*(-1)).toNat]?).toArray=xs.toList.reverse.toArray:=by
 have h:=ZbE xs.toList
 rw[List.filterMap_map]at h
 have e:∀m∈List.range xs.size,xs[(((xs.size:Nat):Int)-1+(m:Int)*(-1)).toNat]? = ((fun i=>xs.toList[i]?) ∘ fun i=>xs.toList.length-1-i) m:=fun m hm=>by
  have hm':=QK.mp hm
  have e1:(((xs.size:Nat):Int)-1+(m:Int)*(-1)).toNat=xs.toList.length-1-m:=by rw[Qs];omega
  rw[e1]
  simp
 rw[ZfG _ e]
 rw[show List.range xs.size=List.range xs.toList.length by rw[Qs],h]
theorem ZcM{t sl:Addr}{items:Array Value}{tk:Tok}{Q:Value→Shared→Prop}(ht:IsTup s.heap t items)(hs:s.heap.IsSliceOf sl .none .none (.int (-1) tk))
  (h:Q (.ref s.heap.objs.size) { s with heap:=s.heap.push { cls:=.type "tuple",data:=.seq items.toList.reverse.toArray } })
  (hsz:items.size≤sizeLine):wpAny (model prog w) A (getItem (.ref t) (.ref sl)) Q E s:=by
 have htake:sizeOk (.seq items.toList.reverse.toArray):=by
  show items.toList.reverse.toArray.size≤sizeLine
  rw[Qo,List.length_reverse,Qs]
  exact hsz
 obtain⟨os,hos,hcs,hds⟩:=id hs
 have hTs:s.TypeIs (.ref sl) "slice":=⟨os,hos,hcs⟩
 unfold getItem
 try with_reducible refine wpAny_holding ?_
 first|refine wpAny_bind (wpAny_pure ?_)|skip
 refine wpAny_bind (wpAny_sequenceKey ht.typeIs (by decide) ?_)
 refine wpAny_bind (wpAny_callSpecial?_slot (name:=Str.ofString "__getitem__") ht.typeIs Qab
  (wpAny_call_entry Qab ht.typeIs entry_tuple_getitem ?_ (args_tuple_getitem _ _)))
 show wpAny _ _ (Builtin.Tuple.tupleItemsOf (.ref t) >>= _) _ _ s
 refine wpAny_bind (tupleItemsOf_ ht ?_)
 refine wpAny_bind (wpAny_typeOf hTs ?_)
 rw[if_pos (by decide)]
 refine wpAny_bind (ZcX hs ?_)
 have hno:¬ ((((items.size:Nat):Int)-1 == 0&&(-1:Int) == 1&&items.size == items.size)=true):=by
  intro q
  rw[Qau,Qau]at q
  exact absurd q.1.2 (by decide)
 show wpAny _ _ (if (((items.size:Nat):Int)-1 == 0&&(-1:Int) == 1&&items.size == items.size)=true then _ else _) _ _ s
 rw[if_neg hno,Zia]
 first
  | exact wpAny_bind (m:=Builtin.Tuple.tupleExact _) (wpAny_newObj_type (wpAny_pure ⟨_,rfl,wpAny_pure h⟩) htake)
  | exact wpAny_bind (m:=Builtin.Tuple.tupleExact _) (wpAny_newObj_type (wpAny_bind (wpAny_pure (wpAny_pure ⟨_,rfl,wpAny_pure h⟩))) htake)
  | exact wpAny_bind (wpAny_bind (m:=Builtin.Tuple.tupleExact _) (wpAny_newObj_type (wpAny_pure (wpAny_pure ⟨_,rfl,wpAny_pure h⟩)) htake))
  | exact wpAny_bind (wpAny_bind (m:=Builtin.Tuple.tupleExact _) (wpAny_newObj_type (wpAny_pure ⟨_,rfl,wpAny_pure h⟩) htake))
end
section
variable {X:Cx}
def ZlL(K:PySem.W.Frag):V→Option Int→Option Int→Int→Hp→VK→Prop:=fun x lo hi st H Q=>∃a xs,x=.ref a∧SqT K H a xs∧lo=none∧hi=none∧st = -1∧∀p,H p=none→Q (.ref p) (upd H p (.tup xs.reverse))
theorem Zln:ZmB X (ZlL X.K):=by
 intro pins s σ H x v vl vu vs lo hi st sl Q I rx hs pl pu pk h
 obtain⟨a,xs,rfl,hx,rfl,rfl,rfl,q⟩:=h
 cases rx
 cases pl
 cases pu
 cases pk
 obtain⟨its,r,ht,hz⟩:=I.tuple hx
 have hlen:its.toArray.size=xs.length:=by rw[Qo];exact r.length.symm
 refine⟨"tuple",_,PyProof.Rows.slot_tuple_getitem.lookup,ht.typeIs,?_⟩
 refine ZcM ht hs ?_ (by rw[hlen];exact hz)
 refine⟨.ref s.heap.objs.size,_,I.laid (t':=s.toks) (o:=.tup xs.reverse) (fun b ob q=>Qa _ q) (Qd _) ?_,rfl,q _ (I.hok.fresh (Qd _))⟩
 refine⟨by rw[List.length_reverse];exact hz,its.reverse,?_,?_⟩
 ·have hv:=ZeL r ((List.range xs.length).map fun i=>xs.length-1-i)
  rw[ZbE]at hv
  rw[r.length]at hv
  rw[ZbE]at hv
  exact hv
 ·simpa using IsTup.new s.heap its.reverse.toArray
theorem Zn0(K:PySem.W.Frag)(h:X.K=K:=by rfl):ZmB X (ZlL K):=by subst h;exact Zln
def ZfZ(K:PySem.W.Frag):V→List V→Hp→VK→Prop:=fun x vs H Q=>∃l b xs zs,x=.ref l∧vs=[.ref b]∧H l=some (.lst xs)∧H b=some (.tup zs)∧xs.length+zs.length≤sizeLine∧Q .non (upd H l (.lst (xs++zs)))
theorem Zb6{prog:Program}{w:World}{A:Around}{E:Value→Shared→Prop}{s:Shared}{a:Addr}{o:Obj}{xs:Array Value}{n:Nat}{Q:Array Value→Shared→Prop}(ho:s.heap.get? a=some o)(hd:o.data=.seq xs n)(h:Q xs s):wpAny (model prog w) A (Builtin.List.listItems (.ref a)) Q E s:=by
 unfold Builtin.List.listItems
 exact wpAny_bind (wpAny_seqItems ho hd (wpAny_pure h))
theorem ZgO:MtM X "list.extend" (ZfZ X.K):=by
 intro pins s σ H x vs v us Q I rx rv h
 obtain⟨l,b,xs,zs,rfl,rfl,hH,hB,hz,q⟩:=h
 cases rx
 obtain⟨u,rfl,ru⟩:=rv.one
 cases ru
 obtain⟨z,its,n,r,hl,e⟩:=I.lstM hH
 obtain⟨its2,r2,ht2,hz2⟩:=I.tuple (SqT.of hB)
 have hl2:=r2.length
 have hsz:its.toArray.size+its2.toArray.size≤sizeLine:=by rw[Qo,Qo];omega
 have hlong:¬ (!its.toArray.isEmpty&&Builtin.List.listTooLong (its.toArray.size+its2.toArray.size))=true:=by
  rw[ZfP hsz,Bool.and_false]
  exact Qj
 refine wpAny_call_entry F.slot_list_extend ⟨_,e,rfl⟩ F.entry_list_extend ?_ (F.args_list_extend_2 _ _)
 show wpAny _ _ (Builtin.List.listExtendWith (.ref l) (.ref b) .none) _ _ s
 unfold Builtin.List.listExtendWith
 refine wpAny_bind (wpAny_typeOf ht2.typeIs ?_)
 rw[if_pos (by simp)]
 obtain⟨o2,ho2,hc2,n2,hd2⟩:=id ht2
 refine wpAny_bind (Zb6 ho2 hd2 (wpAny_bind (Zb6 e rfl ?_)))
 rw[if_neg hlong]
 refine wpAny_bind (wpAny_updateSeq e rfl ?_ ?_ ?_)
 ·exact wpAny_pure ⟨_,rfl,.non,_,I.lset (its':=its++its2) hH e (by simp) (r.append r2) (by rw[Qe];omega),rfl,q⟩
 ·omega
 ·show (its.toArray++its2.toArray).size≤_
  rw[Array.size_append];omega
theorem ZmG(K:PySem.W.Frag)(h:X.K=K:=by rfl):MtM X "list.extend" (ZfZ K):=by subst h;exact ZgO
theorem Zcp(ns:List Int):∀n,n≤ns.length→preSum (fun j=>ns.getD j 0) n=(ns.take n).sum
 | 0,_=>rfl
 | n+1,h=>by
  have ih:=Zcp ns n (by omega)
  have e:ns.take (n+1)=ns.take n++[ns.getD n 0]:=by
   rw[Qw,Qc (by omega),QT,Qc (by omega)]
   rfl
  rw[e,List.sum_append,← ih]
  simp[preSum]
end
section
variable {prog:Program} {w:World} {A:Around} {E:Value→Shared→Prop} {s:Shared} {κ:PyProof.Rows.KeyKind} {k0:SortKind} {a₀:Array Keyed} {st:SortSt}
def Zdd(prog:Program)(w:World)(A:Around)(s:Shared)(k0:SortKind)(κ:PyProof.Rows.KeyKind):Prop :=
 ∀ (E:Value→Shared→Prop) (x y:Value) (a b:κ.α) (Q:Bool→Shared→Prop),κ.keyOf x=some a→κ.keyOf y=some b→Q (κ.blt a b) s→wpAny (model prog w) A (keyLt' k0 x y) Q E s
structure SB (k0:SortKind) (a₀:Array Keyed) (st:SortSt):Prop where
 perm:(arrOf st).Perm a₀
 kind:kindOf st=k0
 failed:failedOf st=none
 pend:pendingOf st = #[]
theorem SB.size(B:SB k0 a₀ st):(arrOf st).size=a₀.size:=B.perm.size_eq
theorem w_elem{arr:Array Keyed}{i:Nat}{p:Keyed}{Q:Keyed→SortSt→Prop}(h:arr[i]? = some p)(q:Q p st):wpS (model prog w) A E s (elem' arr i) Q st:=by
 rw[elem'_eq,h]
 exact wpS_pure q
theorem w_rev{i j:Nat}{Q:Unit→SortSt→Prop}(q:Q () (setArr st (mirror (arrOf st) i j ((j-i) / 2)))):wpS (model prog w) A E s (reverseSlice' i j) Q st:=wpS_reverse q
end
section
variable {prog:Program} {w:World} {A:Around} {E:Value→Shared→Prop} {s:Shared} {κ:PyProof.Rows.KeyKind}
end
def kLt:Key→Key→Bool
 | .inl i,.inl j=>decide (i<j)
 | .inr x,.inr y=>decide (x.cps.toList<y.cps.toList)
 | .inl _,.inr _=>true
 | .inr _,.inl _=>false
theorem ZgP:∀a:Key,kLt a a=false
 | .inl i=>decide_eq_false (by omega)
 | .inr x=>decide_eq_false (List.lt_irrefl _)
theorem ZiG:∀a b c:Key,kLt a b=true→kLt b c=true→kLt a c=true
 | .inl i,.inl j,.inl k,h1,h2=>by have:=of_decide_eq_true h1;have:=of_decide_eq_true h2;exact decide_eq_true (by omega)
 | .inr x,.inr y,.inr z,h1,h2=>decide_eq_true (List.lt_trans (of_decide_eq_true h1) (of_decide_eq_true h2))
 | .inl _,.inl _,.inr _,_,_=>rfl
 | .inl _,.inr _,.inr _,_,_=>rfl
 | .inl _,.inr _,.inl _,_,h=>by cases h
 | .inr _,.inl _,_,h,_=>by cases h
 | .inr _,.inr _,.inl _,_,h=>by cases h
def Zbm:List Key→List Key→Bool
 | [],[]=>false
 | [],_::_=>true
 | _::_,[]=>false
 | x::xs,y::ys=>if x=y then Zbm xs ys else kLt x y
theorem ZeE(x y:Key)(xs ys:List Key):Zbm (x::xs) (y::ys)=if x=y then Zbm xs ys else kLt x y:=rfl
theorem Zcv:∀a:List Key,Zbm a a=false
 | []=>rfl
 | x::r=>by unfold Zbm;rw[if_pos rfl];exact Zcv r
theorem Zd0:∀a b c:List Key,Zbm a b=true→Zbm b c=true→Zbm a c=true
 | [],[],_,h,_=>by cases h
 | [],_::_,[],_,h=>by cases h
 | [],_::_,_::_,_,_=>rfl
 | _::_,[],_,h,_=>by cases h
 | _::_,_::_,[],_,h=>by cases h
 | x::r,y::s,z::t,h1,h2=>by
  have ih:=Zd0 r s t
  unfold Zbm at h1 h2 ⊢
  by_cases e1:x=y
  ·rw[if_pos e1]at h1
   by_cases e2:y=z
   ·rw[if_pos e2]at h2
    rw[if_pos (e1.trans e2)]
    exact ih h1 h2
   ·rw[if_neg e2]at h2
    rw[if_neg (fun e=>e2 (e1.symm.trans e)),e1]
    exact h2
  ·rw[if_neg e1]at h1
   by_cases e2:y=z
   ·rw[if_neg (fun e=>e1 (e.trans e2.symm)),← e2]
    exact h1
   ·rw[if_neg e2]at h2
    have h3:=ZiG _ _ _ h1 h2
    rw[if_neg (fun e=>by rw[e,ZgP]at h3;cases h3)]
    exact h3
def Zbu(ks:List Key):List Bool:=ks.map fun k=>k.isLeft
section
variable {prog:Program} {w:World} {A:Around} {E:Value→Shared→Prop} {s:Shared}
end
section
variable {prog:Program} {w:World} {A:Around} {E:Value→Shared→Prop} {s:Shared}
end
abbrev ZaX:=List (Addr×List Key)
def ZS(ts:ZaX):List V:=ts.map fun t=>V.ref t.1
def AtT(H:Hp)(ts:ZaX):Prop:=∀t∈ts,H t.1=some (.tup (t.2.map kV))
theorem ZeD:∀ {ts:ZaX} {us:List Value},Zy (ZS ts) us→us=ts.map fun t=>Value.ref t.1
 | [],_,h=>by cases h;rfl
 | t::r,_,h=>by
  cases h with
  | cons a b=>rw[ZeD b];cases a;rfl
theorem ZiT(A:Around)(s:Shared){k m:Key}{p q:Value}(hp:ZK (kV k) p)(hq:ZK (kV m) q)(hs:k.isLeft=m.isLeft):∃e,SeqAt.EqAt A s p q e∧(e=true↔k=m):=by
 cases k with
 | inl i =>
  cases m with
  | inl j =>
   obtain⟨t,rfl⟩:=hp
   obtain⟨u,rfl⟩:=hq
   exact⟨_,SeqAt.EqAt.int_int i t j u,by simp⟩
  | inr y=>cases hs
 | inr x =>
  cases m with
  | inl j=>cases hs
  | inr y =>
   obtain⟨t,rfl⟩:=hp
   obtain⟨u,rfl⟩:=hq
   exact⟨_,SeqAt.EqAt.str_str x t y u,by simp⟩
theorem Zja(A:Around)(s:Shared){k m:Key}{p q:Value}(hp:ZK (kV k) p)(hq:ZK (kV m) q)(hs:k.isLeft=m.isLeft)(prog:Program)(w:World)(E:Value→Shared→Prop)(Q:Value→Shared→Prop)(h:Q (.bool (kLt k m)) s) :
  wpAny (model prog w) A (richCompare .Lt p q) Q E s:=by
 cases k with
 | inl i =>
  cases m with
  | inl j =>
   obtain⟨t,rfl⟩:=hp
   obtain⟨u,rfl⟩:=hq
   exact(PyProof.Rows.lt_int h:wpAny (model prog w) A (compareOp .Lt (.int i t) (.int j u)) Q E s)
  | inr y=>cases hs
 | inr x =>
  cases m with
  | inl j=>cases hs
  | inr y =>
   obtain⟨t,rfl⟩:=hp
   obtain⟨u,rfl⟩:=hq
   exact(PyProof.Rows.lt_str h:wpAny (model prog w) A (compareOp .Lt (.str x t) (.str y u)) Q E s)
section
open PySem.SeqAt
open PySem.AutoSeq1 (wpAny_loadPart')
open PySem.MeetsSeq PySem.MeetsSeq2 PySem.MeetsSeq3
theorem Zev(l b:Addr)(items items2:Array Value)(n n2:Nat)(dd dd2:Option Addr)(sl sl2:Array (Option Value))(ks ms:List Key)(hi:Zy (ks.map kV) items.toList)(hj:Zy (ms.map kV) items2.toList)(hs:Zbu ks=Zbu ms) :
  Meets (Builtin.«tuple.__lt__» ⟨[.ref l,.ref b],[]⟩)
   (fun _ R s=>s.heap.get? l=some { cls:=.type "tuple",dict:=dd,data:=.seq items n,slots:=sl }∧s.heap.get? b=some { cls:=.type "tuple",dict:=dd2,data:=.seq items2 n2,slots:=sl2 } ∧
    R (.ok (.ret (.bool (Zbm ks ms)))) s) :=
 .of_wp fun prog w A R s h=>by
  obtain⟨hp,g,d,tk,os⟩:=s;obtain⟨hl,hb,h⟩:=h
  have f2:=AutoSeq1.sub_tuple_tuple
  have z1:items.size=ks.length:=by have:=hi.length;simpa using this.symm
  have z2:items2.size=ms.length:=by have:=hj.length;simpa using this.symm
  have z3:ks.length=ms.length:=by have:=congrArg List.length hs;simpa [Zbu] using this
  wp_walk using wpAny_loadPart' hl,wpAny_loadPart' hb,wpAny_forIn_list _ (fun rest b s'=>b.1=none∧s'=⟨hp,g,d,tk,os⟩∧∃ (vs ws:List Value) (ks' ms':List Key),rest=vs.zip ws ∧
   Zy (ks'.map kV) vs∧Zy (ms'.map kV) ws∧Zbu ks'=Zbu ms'∧R (.ok (.ret (.bool (Zbm ks' ms')))) ⟨hp,g,d,tk,os⟩) _
  case turn =>
   rintro⟨y,x⟩ rest b s' ⟨hb',rfl,vs,ws,ks',ms',hz,hvi,hwi,hsh,hR⟩
   cases ks' with
   | nil=>cases hvi;rw[List.zip_nil_left]at hz;cases hz
   | cons k1 kr =>
    cases ms' with
    | nil=>cases hsh
    | cons m1 mr =>
     cases hvi with
     | cons r1 rr =>
      cases hwi with
      | cons r1' rr' =>
       rw[List.zip_cons_cons]at hz
       injection hz with hyx hrest
       injection hyx with hy hx
       subst hy hx
       rw[ZeE]at hR
       unfold Zbu at hsh
       rw[QD,QD]at hsh
       injection hsh with s1 s2
       obtain⟨e,he,hiff⟩:=ZiT A.in1 ⟨hp,g,d,tk,os⟩ r1 r1' s1
       refine wpAny_bind (he prog w _ _ ?_)
       cases e with
       | true =>
        rw[if_pos (hiff.mp rfl)]at hR
        wp_walk
        exact⟨rfl,rfl,_,_,_,_,hrest,rr,rr',s2,hR⟩
       | false =>
        rw[if_neg (fun q=>absurd (hiff.mpr q) Qj)]at hR
        have hri:=Zja A.in1 ⟨hp,g,d,tk,os⟩ r1 r1' s1 prog w
        wp_walk using hri
        exact⟨_,rfl,by simpa using hR⟩
  case fin =>
   rintro⟨b1,b2⟩ s' ⟨hb',rfl,vs,ws,ks',ms',hz,hvi,hwi,hsh,hR⟩
   simp only at hb'
   subst hb'
   have hv:Zbm ks' ms'=decide (items.size<items2.size):=by
    rw[decide_eq_false (by omega)]
    cases ks' with
    | nil =>
     cases ms' with
     | nil=>rfl
     | cons _ _=>cases hsh
    | cons k1 kr =>
     cases ms' with
     | nil=>cases hsh
     | cons m1 mr =>
      cases hvi with
      | cons r1 rr =>
       cases hwi with
       | cons r1' rr'=>rw[List.zip_cons_cons]at hz;cases hz
   rw[hv]at hR
   wp_walk
   exact⟨_,rfl,by simpa [Builtin.Tuple.tupleCompareSizes] using hR⟩
  case h =>
   exact⟨rfl,rfl,items.toList,items2.toList,ks,ms,rfl,hi,hj,hs,h⟩
end
section
variable {prog:Program} {w:World} {A:Around} {E:Value→Shared→Prop} {s:Shared}
theorem Zhe{l b:Addr}{items items2:Array Value}{ks ms:List Key}{Q:Value→Shared→Prop}(hl:IsTup s.heap l items)(hb:IsTup s.heap b items2)(hi:Zy (ks.map kV) items.toList)(hj:Zy (ms.map kV) items2.toList)(hs:Zbu ks=Zbu ms)
  (hu:A.units<cLine) (h:Q (.bool (Zbm ks ms)) s):wpAny (model prog w) A (richCompare .Lt (.ref l) (.ref b)) Q E s:=by
 obtain⟨⟨cls,dd,data,sl⟩,ho,hc,n,hd⟩:=id hl
 obtain⟨⟨cls2,dd2,data2,sl2⟩,ho2,hc2,n2,hd2⟩:=id hb
 simp only at hc hd hc2 hd2
 subst hc hd hc2 hd2
 exact richCompare_meets_room (op:=.Lt) ⟨_,ho,rfl⟩ ⟨_,ho2,rfl⟩ PySem.F.slot_tuple_lt PySem.F.entry_tuple_lt (PySem.F.args_tuple_lt_2 _ _) (Zev l b items items2 n n2 dd dd2 sl sl2 ks ms hi hj hs)
  ⟨ho,ho2,show Value.bool (Zbm ks ms)≠Value.notImplemented∧Q (.bool (Zbm ks ms)) s from⟨(fun x=>nomatch x),h⟩⟩ hu
end
section
variable {prog:Program} {w:World}
theorem Zip{A:Around}{a:Args}:(A.under (.builtin "min.loop" a)).units≤A.units+1:=by
 show A.units+(Code.builtin "min.loop" a).cUnits≤A.units+1
 first|exact Qd _|simp[Code.cUnits,Code.frames,Code.isFrame]
theorem Zd7{A:Around}{R:Result→Shared→Prop}{l I S:Addr}{ts:ZaX}{sh:List Bool}{h0:Heap}{kw:List (Str×Value)}(hh:A.handled=none)(hu:A.units+4<cLine)(hlist:h0.IsList l (ts.map fun t=>Value.ref t.1).toArray)
  (hI:h0.get? I=none) (hS:h0.get? S=none) (hSI:S≠I) (htup:∀t∈ts,∃its:List Value,Zy (t.2.map kV) its∧IsTup h0 t.1 its.toArray) (hsh:∀t∈ts,Zbu t.2=sh) (s0:Shared)
  (q:∀ (h':Heap) (t:Addr×List Key),(∀b o,h0.get? b=some o→h'.get? b=some o)→t∈ts→(∀u∈ts,Zbm u.2 t.2=false)→R (.ok (.ret (.ref t.1))) { s0 with heap:=h' }) :
  ∀ (k j:Nat) (h:Heap) (t:Addr×List Key) (c:Nat),ts.length-j=k→j≤ts.length→(∀b o,h0.get? b=some o→h.get? b=some o)→h.IsListIter I l j→h.get? S=some { cls:=.type "list",data:=.seq #[.ref t.1,.ref t.1] c }→t∈ts →
   (∀u∈ts.take j,Zbm u.2 t.2=false)→codeAny (model prog w) A (.builtin "min.loop" { pos:=[.ref I,.none,.ref S],kw:=kw }) R { s0 with heap:=h }
 | k,j,h,t,c,hk,hj,keep,hit,hst,htm,hbest=>by
  refine codeAny_builtin F.entry_min_loop ?_
  show wpAny _ _ (seqItems? (.ref S) >>= _) _ _ _
  refine wpAny_bind (wpAny_seqItems hst rfl ?_)
  have keepL:h.IsList l (ts.map fun t=>Value.ref t.1).toArray:=by
   obtain⟨o,ho,r⟩:=hlist
   exact⟨o,keep _ _ ho,r⟩
  by_cases hlt:j<ts.length
  ·have hx:((ts.map fun t=>Value.ref t.1).toArray)[j]? = some (Value.ref ts[j].1):=by simp[hlt]
   refine wpAny_bind (wpAny_tryCatch (wpAny_pyNext_list_item hit keepL hx fun h1 hit1 sb=>?_))
   have keep1:∀b o,h0.get? b=some o→h1.get? b=some o:=fun b o hb=>by
    have nb:b≠I:=fun e=>by rw[e,hI]at hb;cases hb
    rw[sb.2 b nb];exact keep b o hb
   have hst1:h1.get? S=some { cls:=.type "list",data:=.seq #[.ref t.1,.ref t.1] c }:=by rw[sb.2 S hSI];exact hst
   refine wpAny_bind (wpAny_pure ?_)
   have hjm:ts[j]∈ts:=QW hlt
   obtain⟨i1,v1,t1⟩:=htup _ hjm
   obtain⟨i2,v2,t2⟩:=htup _ htm
   have tup1:∀ {a:Addr} {its:List Value},IsTup h0 a its.toArray→IsTup h1 a its.toArray:=fun ⟨o,ho,hc⟩=>⟨o,keep1 _ _ ho,hc⟩
   have hsh1:Zbu ts[j].2=Zbu t.2:=(hsh _ hjm).trans (hsh _ htm).symm
   refine wpAny_bind (wpAny_tryCatch (wpAny_holding (wpAny_bind (Zhe (tup1 t1) (tup1 t2) (by simpa using v1) (by simpa using v2) hsh1 (Nat.lt_of_le_of_lt Zip (by omega)) (wpAny_bind (wpAny_holding (wpAny_truthy_bool (wpAny_bind (wpAny_letGo (wpAny_pure ?_))))))))))
   cases hb:Zbm ts[j].2 t.2 with
   | true =>
    refine wpAny_bind (wpAny_updateSeq hst1 rfl ?_ (by show 2≤_;rw[sizeLine_eq];decide) (by show 2≤_;rw[sizeLine_eq];decide))
    refine wpAny_bind (wpAny_letGo (wpAny_pure ⟨rfl,?_⟩))
    refine Zd7 hh hu hlist hI hS hSI htup hsh s0 q (k-1) (j+1) _ ts[j] c (by omega) (by omega) (fun b o hb'=>?_) ?_ ?_ hjm (fun u hu'=>?_)
    ·have nb:S≠b:=fun e=>by rw[← e,hS]at hb';cases hb'
     exact Q4 _ nb (keep1 b o hb')
    ·obtain⟨o,ho,r⟩:=hit1
     exact⟨o,Q4 _ hSI ho,r⟩
    ·have:=get?_update_seq (c := "list") hst1 (fun _=>#[.ref ts[j].1,.ref ts[j].1])
     simpa using this
    ·rw[Qw,Qc hlt]at hu'
     rcases Qt.mp hu' with hu'|hu'
     ·have:=hbest u hu'
      cases hz:Zbm u.2 ts[j].2 with
      | false=>rfl
      | true=>rw[Zd0 _ _ _ hz hb]at this;cases this
     ·have:u=ts[j]:=by simpa using hu'
      rw[this];exact Zcv _
   | false =>
    refine wpAny_bind (wpAny_letGo (wpAny_pure ⟨rfl,?_⟩))
    refine Zd7 hh hu hlist hI hS hSI htup hsh s0 q (k-1) (j+1) h1 t c (by omega) (by omega) keep1 hit1 hst1 htm (fun u hu'=>?_)
    rw[Qw,Qc hlt]at hu'
    rcases Qt.mp hu' with hu'|hu'
    ·exact hbest u hu'
    ·have:u=ts[j]:=by simpa using hu'
     rw[this];exact hb
  ·have hx:((ts.map fun t=>Value.ref t.1).toArray)[j]? = none:=by simp;omega
   refine wpAny_bind (wpAny_tryCatch (wpAny_pyNext_list_end hh hit keepL hx fun h1 eb=>?_))
   have hst1:h1.get? S=some { cls:=.type "list",data:=.seq #[.ref t.1,.ref t.1] c }:=eb S _ hSI hst
   refine wpAny_bind (wpAny_updateSeq hst1 rfl ?_ (by show 2≤_;rw[sizeLine_eq];decide) (by show 0≤_;omega))
   refine wpAny_bind (wpAny_letGo (wpAny_pure ?_))
   refine q _ t (fun b o hb=>?_) htm (fun u hu'=>hbest u (by rw[Qq (by omega)];exact hu'))
   have nb:S≠b:=fun e=>by rw[← e,hS]at hb;cases hb
   have nI:b≠I:=fun e=>by rw[e,hI]at hb;cases hb
   exact Q4 _ nb (eb b o nI (keep b o hb))
termination_by k=>k
theorem ZiK{A:Around}{R:Result→Shared→Prop}{l I S:Addr}{ts:ZaX}{sh:List Bool}{h0 h:Heap}{c:Nat}{kw:List (Str×Value)}(hh:A.handled=none)(hu:A.units+4<cLine)(hlist:h0.IsList l (ts.map fun t=>Value.ref t.1).toArray)
  (hI:h0.get? I=none) (hS:h0.get? S=none) (hSI:S≠I) (htup:∀t∈ts,∃its:List Value,Zy (t.2.map kV) its∧IsTup h0 t.1 its.toArray) (hsh:∀t∈ts,Zbu t.2=sh) (s0:Shared) (keep:∀b o,h0.get? b=some o→h.get? b=some o) (hit:h.IsListIter I l 0) (hst:h.get? S=some { cls:=.type "list",data:=.seq #[] c })
  (hne:ts≠[]∨∃n d kr,kw=(n,d)::kr∧∀h':Heap,(∀b o,h0.get? b=some o→h'.get? b=some o)→R (.ok (.ret d)) { s0 with heap:=h' })
  (q:∀ (h':Heap) (t:Addr×List Key),(∀b o,h0.get? b=some o→h'.get? b=some o)→t∈ts→(∀u∈ts,Zbm u.2 t.2=false)→R (.ok (.ret (.ref t.1))) { s0 with heap:=h' }) :
  codeAny (model prog w) A (.builtin "min.loop" { pos:=[.ref I,.none,.ref S],kw:=kw }) R { s0 with heap:=h }:=by
 refine codeAny_builtin F.entry_min_loop ?_
 show wpAny _ _ (seqItems? (.ref S) >>= _) _ _ _
 refine wpAny_bind (wpAny_seqItems hst rfl ?_)
 have keepL:h.IsList l (ts.map fun t=>Value.ref t.1).toArray:=by
  obtain⟨o,ho,r⟩:=hlist
  exact⟨o,keep _ _ ho,r⟩
 cases ts with
 | nil =>
  obtain⟨n,d,kr,rfl,q0⟩:=hne.resolve_left (by simp)
  refine wpAny_bind (wpAny_tryCatch (wpAny_pyNext_list_end hh hit keepL (by simp) fun h1 eb=>?_))
  show wpAny _ _ (rule _ >>= _) _ _ _
  refine wpAny_bind (wpAny_rule (wpAny_pure ?_))
  refine q0 _ fun b o hb=>?_
  have nI:b≠I:=fun e=>by rw[e,hI]at hb;cases hb
  exact eb b o nI (keep b o hb)
 | cons t r =>
  refine wpAny_bind (wpAny_tryCatch (wpAny_pyNext_list_item hit keepL (x:=.ref t.1) (by simp) fun h1 hit1 sb=>?_))
  have keep1:∀b o,h0.get? b=some o→h1.get? b=some o:=fun b o hb=>by
   have nb:b≠I:=fun e=>by rw[e,hI]at hb;cases hb
   rw[sb.2 b nb];exact keep b o hb
  have hst1:h1.get? S=some { cls:=.type "list",data:=.seq #[] c }:=by rw[sb.2 S hSI];exact hst
  refine wpAny_bind (wpAny_pure ?_)
  show wpAny _ _ (updateSeq S _ >>= _) _ _ _
  refine wpAny_bind (wpAny_updateSeq hst1 rfl ?_ (by show 0≤_;omega) (by show 2≤_;rw[sizeLine_eq];decide))
  refine wpAny_pure ⟨rfl,?_⟩
  refine Zd7 hh hu hlist hI hS hSI htup hsh s0 q _ 1 _ t (c+1) rfl (by simp) (fun b o hb'=>?_) ?_ ?_ (by simp) (fun u hu'=>?_)
  ·have nb:S≠b:=fun e=>by rw[← e,hS]at hb';cases hb'
   exact Q4 _ nb (keep1 b o hb')
  ·obtain⟨o,ho,r⟩:=hit1
   exact⟨o,Q4 _ hSI ho,r⟩
  ·have:=get?_update_seq (c := "list") hst1 (fun _=>#[.ref t.1,.ref t.1])
   simpa using this
  ·have:u=t:=by simpa using hu'
   rw[this];exact Zcv _
end
section
variable {X:Cx}
def Zl0(K:PySem.W.Frag):List V→Hp→VK→Prop:=fun vs H Q=>∃ (p:Addr) (ts:ZaX) (sh:List Bool),vs=[.ref p]∧SqL K H p (ZS ts)∧AtT H ts∧ts≠[]∧(∀t∈ts,Zbu t.2=sh) ∧
 ∀t:Addr×List Key,t∈ts→(∀u∈ts,Zbm u.2 t.2=false)→Q (.ref t.1) H
theorem Zj3{prog:Program}{w:World}{A:Around}{R:Result→Shared→Prop}{s:Shared}{l:Addr}{ts:ZaX}{sh:List Bool}{kw:List (Str×Value)}{kw2:List (Str×Value)}(hh:A.handled=none)(hu:A.units+4<cLine)(hlist:s.heap.IsList l (ts.map fun t=>Value.ref t.1).toArray)
  (hkw:(kw=[]∧kw2=[])∨∃d,kw=[(Str.ofString "default",d)]∧kw2=[(Str.ofString "default",d)])
  (htup:∀t∈ts,∃its:List Value,Zy (t.2.map kV) its∧IsTup s.heap t.1 its.toArray) (hsh:∀t∈ts,Zbu t.2=sh)
  (hne:ts≠[]∨∃n d kr,kw2=(n,d)::kr∧∀h':Heap,(∀b o,s.heap.get? b=some o→h'.get? b=some o)→R (.ok (.ret d)) { s with heap:=h' })
  (q:∀ (h':Heap) (t:Addr×List Key),(∀b o,s.heap.get? b=some o→h'.get? b=some o)→t∈ts→(∀u∈ts,Zbm u.2 t.2=false)→R (.ok (.ret (.ref t.1))) { s with heap:=h' }) :
  codeAny (model prog w) A (.call (.builtin "min") { pos:=[.ref l],kw:=kw }) R s:=by
 refine codeAny_call_builtin_at rfl F.entry_min ?_
 have hc:checkBuiltinCall "min" { pos:=[.ref l],kw:=kw }=pure ():=by
  rcases hkw with⟨rfl,_⟩|⟨d,rfl,_⟩<;>rfl
 rw[hc]
 refine wpAny_pure ?_
 have go:∀ {A':Around},A'.handled=none→wpAny (model prog w) A' (pyIter (.ref l) >>= fun it=>newList [] >>= fun b=>again (.builtin "min.loop" { pos:=[it,.none,b],kw:=kw2 })) (fun fin s'=>match fin with
   | Fin.done f=>R (Except.ok f) s'
   | Fin.again c'=>c'.quiet=true∧codeAny (model prog w) A c' R s') (fun e s'=>R (Except.error e) s') s:=fun {A'} hA'=>by
  refine wpAny_bind (wpAny_pyIter_list hlist ?_)
  refine wpAny_bind (wpAny_newList ?_ (by show 0≤_;omega))
  refine wpAny_pure ⟨rfl,?_⟩
  have none_at:∀b,s.heap.objs.size≤b→s.heap.get? b=none:=fun b hb=>by
   cases e:s.heap.get? b with
   | none=>rfl
   | some o=>exact absurd (Qk e) (Nat.not_lt.mpr hb)
  have hsz:(s.heap.push { cls:=Value.type "list_iterator",data:=Data.fields #[Value.ref l,Value.int 0 0] }).objs.size=s.heap.objs.size+1:=size_push' _ _
  refine ZiK (h0:=s.heap) (c:=0) hh hu hlist (none_at _ (Qd _)) (none_at _ (by rw[hsz];exact Qaz _)) (by rw[hsz];exact Nat.succ_ne_self _) htup hsh s (fun b o h=>Qa _ (Qa _ h)) ⟨_,Qa _ (Qm _ rfl),rfl,rfl⟩ (Qm _ rfl) hne q
 rcases hkw with⟨rfl,rfl⟩|⟨d,rfl,rfl⟩
 ·exact go hh
 ·exact go hh
theorem Zib(hc:X.calm=true)(hu:X.A.units+64<cLine):Z3 X (.builtin "min") (Zl0 X.K):=by
 intro pins s σ H vs us Q I r h
 obtain⟨p,ts,sh,rfl,hq,hat,hne,hsh,q⟩:=h
 obtain⟨u,rfl,rx⟩:=Zbq r
 cases rx
 obtain⟨its,rv,pl,hz⟩:=I.list hq
 have ei:=ZeD rv
 subst ei
 refine wpAny_call (Zj3 (sh:=sh) (I.ok.hd hc) (by omega) pl.isList (.inl ⟨rfl,rfl⟩) (fun t ht=>?_) hsh (.inl hne) fun h' t kp ht hmin=>?_)
 ·obtain⟨i,v,q,_⟩:=I.tuple (SqT.of (K:=X.K) (hat t ht))
  exact⟨i,v,q⟩
 ·exact⟨.ref t.1,H,I.kept (t':=s.toks) kp,rfl,q t ht hmin⟩
theorem ZnG(K:PySem.W.Frag){k:Nat}(hr:ZaM k X.A)(hc:X.calm=true:=by rfl)(h:X.K=K:=by rfl):Z3 X (.builtin "min") (Zl0 K):=by subst h;exact Zib hc hr.units
end
section
variable {X:Cx}
end
section
open PySem.SeqAt
open PySem.AutoSeq1 (wpAny_loadPart')
open PySem.MeetsSeq PySem.MeetsSeq2 PySem.MeetsSeq3
end
section
variable {prog:Program} {w:World} {A:Around} {E:Value→Shared→Prop} {s:Shared}
end
section
variable {X:Cx}
end
section
variable {X:Cx}
end
section
variable {X:Cx} {T name id:String} {r:V→List V→Hp→VK→Prop} {o e:Expr} {es:List Expr} {to:TE} {t:TA} {apos cpos:Pos}
end
section
variable {X:Cx}
def ZnB(K:PySem.W.Frag):R2:=fun x y H Q=>∃ (l:Addr) (xs:List V) (ds:List PyData) (d:PyData),y=.ref l∧SqL K H l xs∧DVs K H xs ds∧DV K H x d∧PyData.canLayAll0 ds=true∧SeqAt.shaped d=true∧d.depth≤60∧Q (.bl (ds.any fun e=>PyData.eqv e d)) H
theorem Zl2(hu:X.A.units+64<cLine):OpR X (compareOp .In) (ZnB X.K):=by
 intro pins s σ H x y v u Q I rx ry h
 obtain⟨l,xs,ds,d,rfl,hl,hds,hd,hc,hsd,hdep,q⟩:=h
 obtain⟨as,ra⟩:=I.reads (.lst hl hds) ry
 obtain⟨bs,rb⟩:=I.reads hd rx
 exact SeqAt.in_list_reads ra rb hc (SeqAt.canLay_of_shaped hsd) (by have:=Nat.min_le_right (PyData.depthAll ds) d.depth;omega) ⟨.bl _,H,I,rfl,q⟩
def ZlH(K:PySem.W.Frag):List V→Hp→VK→Prop:=fun vs H Q=>∃ (p:Addr) (ns:List Int),vs=[.ref p]∧SqL K H p (ns.map V.int)∧ns.length≤1000∧(∀n∈ns,0≤n∧n≤10000000000000)∧Q (.int ns.sum) H
theorem ZiF(hc:X.calm=true):Z3 X (.builtin "sum") (ZlH X.K):=by
 intro pins s σ H vs us Q I r h
 obtain⟨p,ns,rfl,hq,hn,hb,q⟩:=h
 obtain⟨u,rfl,rx⟩:=Zbq r
 cases rx
 obtain⟨its,rv,pl,_⟩:=I.list hq
 have hi:=Zbr rv
 obtain⟨xs,e⟩:=hi.allInts.items
 have hns:ns=xs.toList.map (·.1):=by rw[← hi.numsOf,← nums_intItems,← e]
 have hsz:xs.size=ns.length:=by rw[hns,Qb,Qs]
 have hnum:numAt xs=fun j=>ns.getD j 0:=by funext j;rw[numAt_eq,hns]
 have hl:=pl.isList
 rw[e]at hl
 have bound:∀n,n≤ns.length→0≤(ns.take n).sum∧(ns.take n).sum≤10000000000000*n:=by
  intro n
  induction n with
  | zero=>intro _;exact⟨by simp,by simp⟩
  | succ n ih =>
   intro h
   have ih:=ih (by omega)
   have hm:=hb ns[n] (QW (by omega))
   have e2:ns.take (n+1)=ns.take n++[ns[n]]:=by rw[Qw,Qc (by omega)];rfl
   rw[e2,List.sum_append]
   have e3:([ns[n]]:List Int).sum=ns[n]:=by simp
   rw[e3]
   omega
 refine sum_intList (I.ok.hd hc) hl (fun j hj=>?_) fun h' tk t' hk=>⟨.int _,H,I.kept hk,⟨t',rfl⟩,?_⟩
 ·rw[hnum]
  have hm:=hb ns[j] (QW (by omega))
  have hg:ns.getD j 0=ns[j]:=by rw[QT,Qc (by omega)];rfl
  have hp:=bound (j+1) (by omega)
  refine⟨⟨?_,?_⟩,⟨?_,?_⟩⟩
  ·show -(2 ^ 63)≤ns.getD j 0
   rw[hg];omega
  ·show ns.getD j 0<2 ^ 63
   rw[hg];omega
  ·rw[Zcp ns (j+1) (by omega)];omega
  ·rw[Zcp ns (j+1) (by omega)];omega
 ·rw[hnum,hsz,Zcp ns ns.length (Qd _),Qq (Qd _)]
  exact q
theorem Zkm(K:PySem.W.Frag)(hc:X.calm=true:=by rfl)(h:X.K=K:=by rfl):Z3 X (.builtin "sum") (ZlH K):=by subst h;exact ZiF hc
theorem slT{X:Cx}(K:PySem.W.Frag)(h:X.K=K:=by rfl):SlR X (Znv K):=by subst h;exact Zms
theorem inD{X:Cx}(K:PySem.W.Frag){k:Nat}(hr:ZaM k X.A)(h:X.K=K:=by rfl):OpR X (compareOp .In) (ZnB K):=by subst h;exact Zl2 hr.units
end
theorem ZhP{H:Hp}{k:List Key}{kvs:List (List Key×V)}{xs:List (List Key×Addr×Value)}(r:ZcG H kvs xs):∀ {v:V},ZU kvs k=some v→∃p,atKey xs k=some p∧ZK v p.2:=by
 induction r with
 | nil=>intro v h;cases h
 | @cons p q ps qs h t ih =>
  intro v hv
  unfold ZU at hv
  unfold atKey
  rw[List.find?_cons]at hv ⊢
  rw[← h.1]
  by_cases e:p.1=k
  ·rw[decide_eq_true e]at hv ⊢
   cases hv
   exact⟨q.2,rfl,h.2.2⟩
  ·rw[decide_eq_false e]at hv ⊢
   exact ih hv
theorem Zhn{H:Hp}{k:List Key}{kvs:List (List Key×V)}{xs:List (List Key×Addr×Value)}(r:ZcG H kvs xs):ZU kvs k=none→atKey xs k=none:=by
 induction r with
 | nil=>intro _;rfl
 | @cons p q ps qs h t ih =>
  intro hv
  unfold ZU at hv
  unfold atKey
  rw[List.find?_cons]at hv ⊢
  rw[← h.1]
  by_cases e:p.1=k
  ·rw[decide_eq_true e]at hv
   cases hv
  ·rw[decide_eq_false e]at hv ⊢
   exact ih hv
theorem Zdm{kvs:List (List Key×V)}{k k':List Key}{v:V}:ZU (kvs++[(k,v)]) k'=(ZU kvs k').or (if k=k' then some v else none):=by
 unfold ZU
 rw[List.find?_append]
 cases h:kvs.find? fun kv=>decide (kv.1=k') with
 | some x=>rfl
 | none =>
  by_cases e:k=k'
  ·simp[e]
  ·simp[e]
section
variable {X:Cx}
def Zen:R2:=fun x y H Q=>∃d kvs b ks v,x=.ref d∧y=.ref b∧H d=some (.dT kvs)∧H b=some (.tup (ks.map kV))∧ZU kvs ks=some v∧Q v H
theorem Znc(hu:X.A.units+64<cLine):IxR X Zen:=by
 intro value slice pins s σ H x y v u Q I rx ry h hs
 obtain⟨d,kvs,b,ks,z,rfl,rfl,hH,hb,hk,q⟩:=h
 cases rx
 cases ry
 obtain⟨_,hd,xs,rel,o,es,ep,ho,hex,hdat,hent,hnd⟩:=(show Z7 X.prog X.w H s.heap d (.dT kvs) from I.hok d _ hH)
 have hm:s.heap.DictOfH (tupleKind (ZN X.prog X.w)) d xs:=⟨o,es,ep,ho,hex,hdat,hent,Zci (R:=fun ks b=>(tupleKind (ZN X.prog X.w)).is s.heap ks b) (fun ks b e=>I.tkey e) rel,hnd⟩
 obtain⟨p,hp,rp⟩:=ZhP rel hk
 exact subscriptTail_builtinR (x:=p.2) hm.typeIs PySem.F.slot_dict_getitem.lookup (wpAny_getItem_heap (knd:=tupleKind (ZN X.prog X.w)) (by show X.A.units+1<cLine;omega) (I.tkey hb) hm hp ⟨rfl,z,H,I.tok _,rp,q⟩) hs
theorem ixD{k:Nat}(hr:ZaM k X.A):IxR X Zen:=Znc hr.units
def Zhg:ZkY:=fun o i v H Q=>∃d kvs b ks,o=.ref d∧i=.ref b∧H d=some (.dT kvs)∧H b=some (.tup (ks.map kV))∧ZU kvs ks=none∧kvs.length<sizeLine∧Q (upd H d (.dT (kvs++[(ks,v)])))
theorem Zl3(hu:X.A.units+64<cLine):Zlt X Zhg:=by
 intro pins s σ H o i v ov iv u Q I ro ri rv h
 obtain⟨d,kvs,b,ks,rfl,rfl,hH,hb,hk,hz,q⟩:=h
 cases ro
 cases ri
 obtain⟨_,hd,xs,rel,o,es,ep,ho,hex,hdat,hent,hnd⟩:=(show Z7 X.prog X.w H s.heap d (.dT kvs) from I.hok d _ hH)
 have hm:s.heap.DictOfH (tupleKind (ZN X.prog X.w)) d xs:=⟨o,es,ep,ho,hex,hdat,hent,Zci (R:=fun ks b=>(tupleKind (ZN X.prog X.w)).is s.heap ks b) (fun ks b e=>I.tkey e) rel,hnd⟩
 have hl:=Zcl rel
 have hno:=Zhn rel hk
 refine wpAny_setItem_heap (knd:=tupleKind (ZN X.prog X.w)) (k:=ks) (by show X.A.units+1<cLine;omega) (I.tkey hb) hm (fun h' hm' hs=>?_) (by omega)
 rw[storedH_new hno]at hm'
 obtain⟨o',es',ep',g1,g2,g3,g4,_,g5⟩:=hm'
 refine⟨_,?_,q⟩
 refine I.write (x:=d) (e:=d) (by rw[hH];exact True.intro) (.inl rfl) (fun c q hc z=>(hs.2 c hc).trans z) ⟨o',g1⟩ ?_
 refine⟨by rw[Qe,Qy];omega,hd,xs++[(ks,b,u)],?_,o',es',ep',g1,g2,g3,g4,g5⟩
 refine Zdw (fun c ys ec=>?_) (ZeQ rel ⟨rfl,hb,rv⟩)
 rw[Zj (Zj8 ec hH (fun z=>nomatch z))]
 exact ec
theorem ZnY{k:Nat}(hr:ZaM k X.A):Zlt X Zhg:=Zl3 hr.units
end
abbrev ZaA(h:Heap)(z TI TO:Addr)(f0:Value)(fl:Bool):Prop :=
 h.get? z=some { cls:=.type "zip",dict:=none,data:=.fields #[f0,.bool fl,.bool false,.ref TI,.ref TO],slots:=#[] }
section
variable {prog:Program} {w:World} {A:Around} {E:Value→Shared→Prop} {s:Shared}
theorem ZcY{a:Addr}{Q:Option Obj→Shared→Prop}(h:Q (s.heap.get? a) s):wpAny (model prog w) A (loadIfAlive a) Q E s:=fun _ _ _=>h
theorem Zgg{z TI TO:Addr}{f0:Value}{fl:Bool}{Q:Bool→Shared→Prop}(hf:f0=.none∨∃a:Addr,f0=rawInt a)(hz:ZaA s.heap z TI TO f0 fl)(h1:Q true s)
  (h2:∀h',ZaA h' z TI TO f0 true→Heap.SameBut z s.heap h'→Q false { s with heap:=h' }):wpAny (model prog w) A (Builtin.SmallTypes.ownedTupleIsFree (.ref z)) Q E s:=by
 unfold Builtin.SmallTypes.ownedTupleIsFree
 refine wpAny_bind (wpAny_field hz rfl (x:=f0) rfl ?_)
 rcases hf with rfl|⟨a,rfl⟩
 ·exact wpAny_pure h1
 ·show wpAny _ _ (loadIfAlive _ >>= _) _ _ _
  refine wpAny_bind (ZcY ?_)
  cases hg:s.heap.get? ((a:Int)).toNat with
  | none=>exact wpAny_pure h1
  | some o =>
   show wpAny _ _ (field (.ref z) 1 >>= _) _ _ _
   refine wpAny_bind (wpAny_field hz rfl (x:=.bool fl) rfl ?_)
   cases fl with
   | true=>exact wpAny_pure (h2 s.heap hz ⟨rfl,fun _ _=>rfl⟩)
   | false =>
    show wpAny _ _ (setField (.ref z) 1 (.bool true) >>= _) _ _ _
    exact wpAny_bind (wpAny_setField_rec hz (by simp) fun h' hz' hs'=>wpAny_pure (h2 h' hz' hs'))
theorem Zh6{z TI TO i1 i2:Addr}{S1 S2:Src}{k:Nat}{us1 us2:List Value}{a b:Value}{Q:Option Value→Shared→Prop}(D:ZfD z TI TO i1 i2 S1 S2)
  {f0:Value} {fl:Bool} (hf:f0=.none∨∃a:Addr,f0=rawInt a) (hz:ZaA s.heap z TI TO f0 fl) (hTI:IsPair s.heap TI (.ref i1) (.ref i2)) (hTO:IsPair s.heap TO a b)
  (h1:S1.at s.heap i1 k) (h2:S2.at s.heap i2 k) (r1:S1.raw s.heap us1) (r2:S2.raw s.heap us2) (m1:k<S1.many us1) (m2:k<S2.many us2)
  (hQ:∀h' tk x y,S1.fit us1 k x→S2.fit us2 k y→(∃f' fl',(f'=.none∨∃a:Addr,f'=rawInt a)∧ZaA h' z TI TO f' fl')→(∃a b,IsPair h' TO a b)→S1.at h' i1 (k+1)→S2.at h' i2 (k+1)→IsPair h' s.heap.objs.size x y→h'.objs.size=s.heap.objs.size+1 →
   (∀c o,c≠z→c≠TO→c≠i1→c≠i2→s.heap.get? c=some o→h'.get? c=some o)→Q (some (.ref s.heap.objs.size)) { s with heap:=h',toks:=tk }) :
  wpAny (model prog w) A (pyNext (.ref z)) Q E s:=by
 have hT:s.TypeIs (.ref z) "zip":=⟨_,hz,rfl⟩
 unfold pyNext
 refine wpAny_bind (wpAny_attempt (wpAny_callSpecial?_slot (name:=Str.ofString "__next__") hT F.slot_zip_next (wpAny_call_entry F.slot_zip_next hT F.entry_zip_next ?_ (F.args_zip_next_1 _))))
 show wpAny _ _ (field (.ref z) 2 >>= _) _ _ _
 refine wpAny_bind (wpAny_field hz rfl (x:=.bool false) rfl ?_)
 show wpAny _ _ (field (.ref z) 3 >>= _) _ _ _
 refine wpAny_bind (wpAny_field hz rfl (x:=.ref TI) rfl (wpAny_bind (wpAny_seqItems hTI rfl ?_)))
 show wpAny _ _ (Builtin.SmallTypes.ownedTupleIsFree (.ref z) >>= _) _ _ _
 refine wpAny_bind (Zgg hf hz ?_ fun h₁ hz₁ hs₁=>?_)
 rotate_left
 ·simp only[Bool.false_eq_true,if_false]
  have hTI₁:IsPair h₁ TI (.ref i1) (.ref i2):=hs₁.extBut _ _ D.TIz hTI
  refine wpAny_bind ?_
  rw[← Array.forIn_toList]
  simp only[List.forIn_cons,List.forIn_nil]
  refine wpAny_bind (wpAny_bind (wpAny_holding ?_))
  show wpAny _ _ (Builtin.SmallTypes.nextOf (.ref i1) >>= _) _ _ _
  refine wpAny_bind (ZaK (S:=S1) (us:=us1) (k:=k) (S1.at_keep (fun o e=>hs₁.extBut _ o D.i1z e) h1) (S1.raw_keep (fun c o n e=>hs₁.extBut c o n e) D.s1z r1) m1 fun h₂ tk₂ x fx h1₂ hs₂=>wpAny_pure ?_)
  have hs₂':Heap.SameBut i1 h₁ h₂:=hs₂
  refine wpAny_pure ?_
  refine wpAny_bind (wpAny_bind (wpAny_holding ?_))
  show wpAny _ _ (Builtin.SmallTypes.nextOf (.ref i2) >>= _) _ _ _
  refine wpAny_bind (ZaK (S:=S2) (us:=us2) (k:=k)
   (S2.at_keep (fun o e=>hs₂'.extBut _ o D.i12.symm (hs₁.extBut _ o D.i2z e)) h2)
   (S2.raw_keep (fun c o n e=>hs₂'.extBut c o n e) D.s2i1 (S2.raw_keep (fun c o n e=>hs₁.extBut c o n e) D.s2z r2)) m2 fun h₄ tk₄ y fy h2₄ hs₄=>wpAny_pure ?_)
  have hs₄':Heap.SameBut i2 h₂ h₄:=hs₄
  refine wpAny_pure (wpAny_pure ?_)
  show wpAny _ _ (newTuple [x,y] >>= _) _ _ _
  refine wpAny_bind (wpAny_newTuple ?_)
  refine wpAny_pure ⟨_,rfl,wpAny_pure ?_⟩
  have hsz:h₄.objs.size=s.heap.objs.size:=by rw[hs₄'.1,hs₂'.1,hs₁.1]
  have up:∀c o,c≠z→c≠i1→c≠i2→s.heap.get? c=some o→h₄.get? c=some o:=fun c o c1 c3 c4 e=>hs₄'.extBut _ _ c4 (hs₂'.extBut _ _ c3 (hs₁.extBut _ _ c1 e))
  have hz₄:ZaA h₄ z TI TO f0 true:=hs₄'.extBut _ _ D.i2z.symm (hs₂'.extBut _ _ D.i1z.symm hz₁)
  have hTO₄:IsPair h₄ TO a b:=up _ _ D.TOz D.TOi1 D.TOi2 hTO
  have h1₄:S1.at h₄ i1 (k+1):=S1.at_keep (fun o e=>hs₄'.extBut _ o D.i12 e) h1₂
  show Q (some (.ref h₄.objs.size)) _
  rw[hsz]
  refine hQ _ tk₄ x y fx fy ⟨f0,true,hf,Qa _ hz₄⟩ ⟨a,b,Qa _ hTO₄⟩ (S1.at_keep (fun o e=>Qa _ e) h1₄) (S2.at_keep (fun o e=>Qa _ e) h2₄) ?_ ?_ fun c o c1 c2 c3 c4 e=>Qa _ (up c o c1 c3 c4 e)
  ·rw[← hsz];exact Qm _ rfl
  ·rw[Q5,hsz]
 simp only[if_true]
 refine wpAny_bind (wpAny_rule (wpAny_bind (wpAny_field hz rfl (x:=.ref TO) rfl (wpAny_bind (wpAny_setField_rec hz (by simp) fun h₁ hz₁ hs₁=>?_)))))
 replace hz₁:ZaA h₁ z TI TO .ellipsis fl:=hz₁
 refine wpAny_bind ?_
 simp only[List.zipIdx_cons,List.zipIdx_nil,List.forIn_cons,List.forIn_nil]
 refine wpAny_bind (wpAny_bind (wpAny_onRaise ?_))
 show wpAny _ _ (Builtin.SmallTypes.nextOf (.ref i1) >>= _) _ _ _
 refine wpAny_bind (ZaK (S:=S1) (us:=us1) (k:=k) (S1.at_keep (fun o e=>hs₁.extBut _ o D.i1z e) h1) (S1.raw_keep (fun c o n e=>hs₁.extBut c o n e) D.s1z r1) m1 fun h₂ tk₂ x fx h1₂ hs₂=>wpAny_pure ?_)
 have hs₂':Heap.SameBut i1 h₁ h₂:=hs₂
 have hTO₂:IsPair h₂ TO a b:=hs₂'.extBut _ _ D.TOi1 (hs₁.extBut _ _ D.TOz hTO)
 refine wpAny_bind (wpAny_seqItems hTO₂ rfl (wpAny_bind (wpAny_updateSeq_pair hTO₂ fun h₃ hTO₃ hs₃=>wpAny_bind (wpAny_letGo (wpAny_pure ?_)))))
 replace hTO₃:IsPair h₃ TO x b:=hTO₃
 have hs₃':Heap.SameBut TO h₂ h₃:=hs₃
 refine wpAny_bind (wpAny_bind (wpAny_onRaise ?_))
 show wpAny _ _ (Builtin.SmallTypes.nextOf (.ref i2) >>= _) _ _ _
 refine wpAny_bind (ZaK (S:=S2) (us:=us2) (k:=k)
  (S2.at_keep (fun o e=>hs₃'.extBut _ o D.TOi2.symm (hs₂'.extBut _ o D.i12.symm (hs₁.extBut _ o D.i2z e))) h2)
  (S2.raw_keep (fun c o n e=>hs₃'.extBut c o n e) D.s2TO (S2.raw_keep (fun c o n e=>hs₂'.extBut c o n e) D.s2i1 (S2.raw_keep (fun c o n e=>hs₁.extBut c o n e) D.s2z r2))) m2 fun h₄ tk₄ y fy h2₄ hs₄=>wpAny_pure ?_)
 have hs₄':Heap.SameBut i2 h₃ h₄:=hs₄
 have hTO₄:IsPair h₄ TO x b:=hs₄'.extBut _ _ D.TOi2 hTO₃
 refine wpAny_bind (wpAny_seqItems hTO₄ rfl (wpAny_bind (wpAny_updateSeq_pair hTO₄ fun h₅ hTO₅ hs₅=>wpAny_bind (wpAny_letGo (wpAny_pure (wpAny_pure ?_))))))
 replace hTO₅:IsPair h₅ TO x y:=hTO₅
 have hs₅':Heap.SameBut TO h₄ h₅:=hs₅
 refine wpAny_bind (wpAny_seqItems hTO₅ rfl (wpAny_bind (wpAny_newTuple ?_)))
 have hsz:h₅.objs.size=s.heap.objs.size:=by rw[hs₅'.1,hs₄'.1,hs₃'.1,hs₂'.1,hs₁.1]
 have hz₅:ZaA h₅ z TI TO .ellipsis fl:=hs₅'.extBut _ _ D.TOz.symm (hs₄'.extBut _ _ D.i2z.symm (hs₃'.extBut _ _ D.TOz.symm (hs₂'.extBut _ _ D.i1z.symm hz₁)))
 have hk₅:∀c o,c≠z→c≠TO→c≠i1→c≠i2→s.heap.get? c=some o→h₅.get? c=some o:=fun c o c1 c2 c3 c4 e =>
  hs₅'.extBut _ _ c2 (hs₄'.extBut _ _ c4 (hs₃'.extBut _ _ c2 (hs₂'.extBut _ _ c3 (hs₁.extBut _ _ c1 e))))
 have h1₅:S1.at h₅ i1 (k+1):=S1.at_keep (fun o e=>hs₅'.extBut _ o D.TOi1.symm (hs₄'.extBut _ o D.i12 (hs₃'.extBut _ o D.TOi1.symm e))) h1₂
 have h2₅:S2.at h₅ i2 (k+1):=S2.at_keep (fun o e=>hs₅'.extBut _ o D.TOi2.symm e) h2₄
 have hzlt:z<h₅.objs.size:=Qk hz₅
 show wpAny _ _ (Builtin.SmallTypes.ownedTupleHandOut (.ref z) (.ref h₅.objs.size) >>= _) _ _ _
 refine wpAny_bind ?_
 unfold Builtin.SmallTypes.ownedTupleHandOut
 have hz₆:ZaA (h₅.push { cls:=.type "tuple",data:=.seq #[x,y] }) z TI TO .ellipsis fl:=Qa _ hz₅
 refine wpAny_bind (wpAny_setField_rec hz₆ (by simp) fun h₇ hz₇ hs₇=>?_)
 replace hz₇:ZaA h₇ z TI TO (rawInt h₅.objs.size) fl:=hz₇
 refine wpAny_setField_rec hz₇ (by simp) fun h₈ hz₈ hs₈=>?_
 replace hz₈:ZaA h₈ z TI TO (rawInt h₅.objs.size) false:=hz₈
 have up:∀c o,c≠z→h₅.get? c=some o→h₈.get? c=some o:=fun c o c1 e=>hs₈.extBut _ _ c1 (hs₇.extBut _ _ c1 (Qa _ e))
 have hT₈:IsPair h₈ h₅.objs.size x y:=hs₈.extBut _ _ (QY hzlt) (hs₇.extBut _ _ (QY hzlt) (Qm _ rfl))
 have hz8:h₈.objs.size=h₅.objs.size+1:=by rw[hs₈.1,hs₇.1,Q5]
 rw[hsz]at hz₈ hT₈ hz8
 refine wpAny_pure ⟨_,rfl,wpAny_pure ?_⟩
 show Q (some (.ref h₅.objs.size)) _
 rw[hsz]
 exact hQ h₈ tk₄ x y fx fy ⟨_,_,.inr ⟨_,rfl⟩,hz₈⟩ ⟨_,_,up _ _ D.TOz hTO₅⟩ (S1.at_keep (fun o e=>up _ o D.i1z e) h1₅) (S2.at_keep (fun o e=>up _ o D.i2z e) h2₅) hT₈ hz8 fun c o c1 c2 c3 c4 e=>up c o c1 (hk₅ c o c1 c2 c3 c4 e)
theorem Zh7{z TI TO i1 i2:Addr}{S1 S2:Src}{k:Nat}{us1 us2:List Value}{a b:Value}{Q:Option Value→Shared→Prop}(hh:A.handled=none)(D:ZfD z TI TO i1 i2 S1 S2)
  {f0:Value} {fl:Bool} (hf:f0=.none∨∃a:Addr,f0=rawInt a) (hz:ZaA s.heap z TI TO f0 fl) (hTI:IsPair s.heap TI (.ref i1) (.ref i2)) (hTO:IsPair s.heap TO a b)
  (h1:S1.at s.heap i1 k) (h2:S2.at s.heap i2 k) (r1:S1.raw s.heap us1) (r2:S2.raw s.heap us2) (hend:S1.many us1≤k∨S2.many us2≤k)
  (hQ:∀h' tk,(∀c o,c≠z→c≠TO→c≠i1→c≠i2→s.heap.get? c=some o→h'.get? c=some o)→Q none { s with heap:=h',toks:=tk }) :
  wpAny (model prog w) A (pyNext (.ref z)) Q E s:=by
 have hT:s.TypeIs (.ref z) "zip":=⟨_,hz,rfl⟩
 unfold pyNext
 have done:∀ (h':Heap) (tk:Nat) (e:Addr),(∀c o,c≠z→c≠TO→c≠i1→c≠i2→s.heap.get? c=some o→h'.get? c=some o)→(∃o,h'.get? e=some o∧o.cls=.type "StopIteration") →
   wpAny (model prog w) A (do if (← isInstance (.ref e) (.type "StopIteration")) then pure none else throw (.ref e):Sem (Option Value)) Q E { s with heap:=h',toks:=tk }:=fun h' tk e hk ⟨o,ho,hc⟩=>
  wpAny_bind (wpAny_isInstance (T := "StopIteration") (b:=true) ⟨o,ho,hc⟩ isSubtype_stop (wpAny_pure (hQ h' tk hk)))
 refine wpAny_bind (wpAny_attempt (wpAny_callSpecial?_slot (name:=Str.ofString "__next__") hT F.slot_zip_next (wpAny_call_entry F.slot_zip_next hT F.entry_zip_next ?_ (F.args_zip_next_1 _))))
 show wpAny _ _ (field (.ref z) 2 >>= _) _ _ _
 refine wpAny_bind (wpAny_field hz rfl (x:=.bool false) rfl ?_)
 show wpAny _ _ (field (.ref z) 3 >>= _) _ _ _
 refine wpAny_bind (wpAny_field hz rfl (x:=.ref TI) rfl (wpAny_bind (wpAny_seqItems hTI rfl ?_)))
 show wpAny _ _ (Builtin.SmallTypes.ownedTupleIsFree (.ref z) >>= _) _ _ _
 refine wpAny_bind (Zgg hf hz ?_ fun h₁ hz₁ hs₁=>?_)
 rotate_left
 ·simp only[Bool.false_eq_true,if_false]
  refine wpAny_bind ?_
  rw[← Array.forIn_toList]
  simp only[List.forIn_cons,List.forIn_nil]
  refine wpAny_bind (wpAny_bind (wpAny_holding ?_))
  show wpAny _ _ (Builtin.SmallTypes.nextOf (.ref i1) >>= _) _ _ _
  by_cases m1:k<S1.many us1
  ·have m2:S2.many us2≤k:=by rcases hend with z'|z';omega;exact z'
   refine wpAny_bind (ZaK (S:=S1) (us:=us1) (k:=k) (S1.at_keep (fun o e=>hs₁.extBut _ o D.i1z e) h1) (S1.raw_keep (fun c o n e=>hs₁.extBut c o n e) D.s1z r1) m1 fun h₂ tk₂ x fx h1₂ hs₂=>wpAny_pure ?_)
   have hs₂':Heap.SameBut i1 h₁ h₂:=hs₂
   refine wpAny_pure ?_
   refine wpAny_bind (wpAny_bind (wpAny_holding ?_))
   show wpAny _ _ (Builtin.SmallTypes.nextOf (.ref i2) >>= _) _ _ _
   exact wpAny_bind (Zb2 (S:=S2) (us:=us2) (k:=k) hh
    (S2.at_keep (fun o e=>hs₂'.extBut _ o D.i12.symm (hs₁.extBut _ o D.i2z e)) h2)
    (S2.raw_keep (fun c o n e=>hs₂'.extBut c o n e) D.s2i1 (S2.raw_keep (fun c o n e=>hs₁.extBut c o n e) D.s2z r2)) m2 fun h₄ e hs₄ he=>done h₄ _ e (fun c o c1 c2 c3 c4 x=>hs₄ _ _ c4 (hs₂'.extBut _ _ c3 (hs₁.extBut _ _ c1 x))) he)
  ·exact wpAny_bind (Zb2 (S:=S1) (us:=us1) (k:=k) hh (S1.at_keep (fun o e=>hs₁.extBut _ o D.i1z e) h1) (S1.raw_keep (fun c o n e=>hs₁.extBut c o n e) D.s1z r1) (by omega) fun h₂ e hs₂ he=>done h₂ _ e (fun c o c1 _ c3 _ x=>hs₂ _ _ c3 (hs₁.extBut _ _ c1 x)) he)
 simp only[if_true]
 refine wpAny_bind (wpAny_rule (wpAny_bind (wpAny_field hz rfl (x:=.ref TO) rfl (wpAny_bind (wpAny_setField_rec hz (by simp) fun h₁ hz₁ hs₁=>?_)))))
 replace hz₁:ZaA h₁ z TI TO .ellipsis fl:=hz₁
 refine wpAny_bind ?_
 simp only[List.zipIdx_cons,List.zipIdx_nil,List.forIn_cons,List.forIn_nil]
 refine wpAny_bind (wpAny_bind (wpAny_onRaise ?_))
 show wpAny _ _ (Builtin.SmallTypes.nextOf (.ref i1) >>= _) _ _ _
 by_cases m1:k<S1.many us1
 ·have m2:S2.many us2≤k:=by rcases hend with z'|z';omega;exact z'
  refine wpAny_bind (ZaK (S:=S1) (us:=us1) (k:=k) (S1.at_keep (fun o e=>hs₁.extBut _ o D.i1z e) h1) (S1.raw_keep (fun c o n e=>hs₁.extBut c o n e) D.s1z r1) m1 fun h₂ tk₂ x fx h1₂ hs₂=>wpAny_pure ?_)
  have hs₂':Heap.SameBut i1 h₁ h₂:=hs₂
  have hTO₂:IsPair h₂ TO a b:=hs₂'.extBut _ _ D.TOi1 (hs₁.extBut _ _ D.TOz hTO)
  refine wpAny_bind (wpAny_seqItems hTO₂ rfl (wpAny_bind (wpAny_updateSeq_pair hTO₂ fun h₃ hTO₃ hs₃=>wpAny_bind (wpAny_letGo (wpAny_pure ?_)))))
  have hs₃':Heap.SameBut TO h₂ h₃:=hs₃
  refine wpAny_bind (wpAny_bind (wpAny_onRaise ?_))
  show wpAny _ _ (Builtin.SmallTypes.nextOf (.ref i2) >>= _) _ _ _
  refine wpAny_bind (Zb2 (S:=S2) (us:=us2) (k:=k) hh
   (S2.at_keep (fun o e=>hs₃'.extBut _ o D.TOi2.symm (hs₂'.extBut _ o D.i12.symm (hs₁.extBut _ o D.i2z e))) h2)
   (S2.raw_keep (fun c o n e=>hs₃'.extBut c o n e) D.s2TO (S2.raw_keep (fun c o n e=>hs₂'.extBut c o n e) D.s2i1 (S2.raw_keep (fun c o n e=>hs₁.extBut c o n e) D.s2z r2))) m2 fun h₄ e hs₄ he=>?_)
  obtain⟨oe,hoe,hce⟩:=he
  have hz₄:ZaA h₄ z TI TO .ellipsis fl:=hs₄ _ _ D.i2z.symm (hs₃'.extBut _ _ D.TOz.symm (hs₂'.extBut _ _ D.i1z.symm hz₁))
  have hez:e≠z:=fun x=>by subst x;rw[hz₄]at hoe;cases hoe;simp at hce
  exact wpAny_setField_rec hz₄ (by simp) fun h₅ _ hs₅=>done h₅ _ e (fun c o c1 c2 c3 c4 x=>hs₅.extBut _ _ c1 (hs₄ _ _ c4 (hs₃'.extBut _ _ c2 (hs₂'.extBut _ _ c3 (hs₁.extBut _ _ c1 x))))) ⟨oe,hs₅.extBut _ _ hez hoe,hce⟩
 ·refine wpAny_bind (Zb2 (S:=S1) (us:=us1) (k:=k) hh (S1.at_keep (fun o e=>hs₁.extBut _ o D.i1z e) h1) (S1.raw_keep (fun c o n e=>hs₁.extBut c o n e) D.s1z r1) (by omega) fun h₂ e hs₂ he=>?_)
  obtain⟨oe,hoe,hce⟩:=he
  have hz₂:ZaA h₂ z TI TO .ellipsis fl:=hs₂ _ _ D.i1z.symm hz₁
  have hez:e≠z:=fun x=>by subst x;rw[hz₂]at hoe;cases hoe;simp at hce
  exact wpAny_setField_rec hz₂ (by simp) fun h₃ _ hs₃=>done h₃ _ e (fun c o c1 _ c3 _ x=>hs₃.extBut _ _ c1 (hs₂ _ _ c3 (hs₁.extBut _ _ c1 x))) ⟨oe,hs₃.extBut _ _ hez hoe,hce⟩
end
theorem Zio{prog:Program}{w:World}{A:Around}{E:Value→Shared→Prop}{s:Shared}{z TI TO:Addr}{f0:Value}{fl:Bool}{Q:Value→Shared→Prop}(hz:ZaA s.heap z TI TO f0 fl)(h:Q (.ref z) s):wpAny (model prog w) A (pyIter (.ref z)) Q E s:=by
 have hT:s.TypeIs (.ref z) "zip":=⟨_,hz,rfl⟩
 refine wpAny_pyIter_slot hT F.slot_zip_iter (wpAny_call_entry F.slot_zip_iter hT F.entry_zip_iter ?_ (F.args_zip_iter_1 _))
 show wpAny _ _ (ret (.ref z)) _ _ s
 exact wpAny_pure ⟨_,rfl, "zip",_,hT,F.slot_zip_next.lookup,h⟩
theorem Zh5{P:Program}{w:World}{K:PySem.W.Frag}{nm:Str}{tpos:Pos}{S1 S2:Src}{z TI TO i1 i2:Addr}
  (d1:TI≠z) (d2:TO≠z) (d3:i1≠z) (d4:i2≠z) (d5:TI≠TO) (d6:TI≠i1) (d7:TI≠i2) (d8:TO≠i1) (d9:TO≠i2) (d10:i1≠i2) :
  ZgR P w K (.Name nm tpos) (Itz K S1 S2) [z,TI,TO,i1,i2] z
   (fun i h=>(∃f0 fl,(f0=Value.none∨∃a:Addr,f0=rawInt a)∧ZaA h z TI TO f0 fl)∧IsPair h TI (.ref i1) (.ref i2)∧(∃a b,IsPair h TO a b)∧S1.at h i1 i∧S2.at h i2 i) where
 mem:=by simp
 obj:=fun i h st b hb=>by
  obtain⟨⟨f0,fl,hf0,hz⟩,hTI,⟨a,b',hTO⟩,h1,h2⟩:=st
  have nf:∀ {o:Obj} {vs:Array Value},o.data=.fields vs→∀v,o.data≠.cell v:=fun d v e=>by rw[d]at e;cases e
  simp only[List.mem_cons,List.not_mem_nil,or_false]at hb
  rcases hb with rfl|rfl|rfl|rfl|rfl
  ·exact⟨_,hz,nf rfl⟩
  ·exact⟨_,hTI,fun v e=>by cases e⟩
  ·exact⟨_,hTO,fun v e=>by cases e⟩
  ·obtain⟨o,vs,e,d⟩:=Src.at_obj h1;exact⟨o,e,nf d⟩
  ·obtain⟨o,vs,e,d⟩:=Src.at_obj h2;exact⟨o,e,nf d⟩
 keep:=fun i h h' st k=>by
  obtain⟨⟨f0,fl,hf0,hz⟩,hTI,⟨a,b',hTO⟩,h1,h2⟩:=st
  exact⟨⟨f0,fl,hf0,k z (by simp) _ hz⟩,k TI (by simp) _ hTI,⟨a,b',k TO (by simp) _ hTO⟩,Src.at_keep (fun o e=>k i1 (by simp) o e) h1,Src.at_keep (fun o e=>k i2 (by simp) o e) h2⟩
 item:=by
  intro X hP hw hK hc i pins s σ H E I hf st hg
  subst hP hw hK
  obtain⟨⟨f0,fl,hf0,hz⟩,hTI,⟨a,b',hTO⟩,h1,h2⟩:=st
  obtain⟨xs,ys,q1,q2,l1,l2⟩:=hg
  obtain⟨us1,r1,m1,f1⟩:=I.src q1
  obtain⟨us2,r2,m2,f2⟩:=I.src q2
  have hfz:=hf z (by simp)
  have D:ZfD z TI TO i1 i2 S1 S2:=⟨d1,d2,d3,d4,d5,d6,d7,d8,d9,d10,I.src_off hfz q1,I.src_off (hf TO (by simp)) q1,I.src_off (hf i1 (by simp)) q1,I.src_off (hf i2 (by simp)) q1,
   I.src_off hfz q2,I.src_off (hf TO (by simp)) q2,I.src_off (hf i1 (by simp)) q2,I.src_off (hf i2 (by simp)) q2⟩
  refine Zh6 D hf0 hz hTI hTO h1 h2 r1 r2 (by omega) (by omega) fun h' tk x y fx fy a1 a2 a3 a4 a5 a6 a7=>?_
  have rx:=f1 i x _ fx (Qc l1)
  have ry:=f2 i y _ fy (Qc l2)
  obtain⟨f1',fl',hf1,hz''⟩:=a1
  obtain⟨ta,tb,a2⟩:=a2
  refine⟨_,rfl,wpAny_pure ?_⟩
  have hs':Heap.SameBut z h' h':=⟨rfl,fun _ _=>rfl⟩
  have hTI':IsPair h' TI (.ref i1) (.ref i2):=a7 _ _ d1 d5 d6 d7 hTI
  have lt:∀ {b:Addr} {o:Obj},s.heap.get? b=some o→s.heap.objs.size≠b:=fun e=>QY (Qk e)
  have hzs:s.heap.objs.size≠z:=lt hz
  have I2:Inv X pins σ (upd H s.heap.objs.size (.tup [xs[i],ys[i]])) { s with heap:=h',toks:=tk }:=by
   refine I.zipped (fp:=[z,TI,TO,i1,i2]) hf rx ry (hs'.extBut _ _ hzs a5) (fun b hb=>?_) fun c o hc e=>?_
   ·simp only[List.mem_cons,List.not_mem_nil,or_false]at hb
    rcases hb with rfl|rfl|rfl|rfl|rfl
    ·exact⟨_,hz''⟩
    ·exact⟨_,hs'.extBut _ _ d1 hTI'⟩
    ·exact⟨_,hs'.extBut _ _ d2 a2⟩
    ·obtain⟨o,vs,e,_⟩:=Src.at_obj a3;exact⟨o,hs'.extBut _ _ d3 e⟩
    ·obtain⟨o,vs,e,_⟩:=Src.at_obj a4;exact⟨o,hs'.extBut _ _ d4 e⟩
   ·simp only[List.mem_cons,List.not_mem_nil,or_false,not_or]at hc
    exact hs'.extBut _ _ hc.1 (a7 c o hc.1 hc.2.2.1 hc.2.2.2.1 hc.2.2.2.2 e)
  refine⟨.ref s.heap.objs.size,_,I2,rfl,⟨s.heap.objs.size,I.fresh,rfl,fun xs' ys' w1 w2 x' y' e1 e2=>?_⟩,⟨⟨f1',fl',hf1,hz''⟩,hs'.extBut _ _ d1 hTI',⟨_,_,hs'.extBut _ _ d2 a2⟩,Src.at_keep (fun o e=>hs'.extBut _ o d3 e) a3,Src.at_keep (fun o e=>hs'.extBut _ o d4 e) a4⟩,fun b hb=>?_⟩
  ·have same:∀ {S:Src} {us vs:List V},S.its X.K H us→S.its X.K H vs→us=vs:=fun {S us vs} p q=>by
    cases S with
    | l a=>exact I.list_inj p q
    | t a=>exact I.tuple_inj p q
    | s z=>rw[show us=_ from p,show vs=_ from q]
   have e3:=same w1 q1
   have e4:=same w2 q2
   subst e3;subst e4
   rw[Qc l1]at e1
   rw[Qc l2]at e2
   cases e1;cases e2
   rfl
  ·rw[Zj (fun e=>by
    obtain⟨o,e1,_⟩:∃o,s.heap.get? b=some o∧True:=by
     simp only[List.mem_cons,List.not_mem_nil,or_false]at hb
     rcases hb with rfl|rfl|rfl|rfl|rfl
     ·exact⟨_,hz,trivial⟩
     ·exact⟨_,hTI,trivial⟩
     ·exact⟨_,hTO,trivial⟩
     ·obtain⟨o,vs,e,_⟩:=Src.at_obj h1;exact⟨o,e,trivial⟩
     ·obtain⟨o,vs,e,_⟩:=Src.at_obj h2;exact⟨o,e,trivial⟩
    exact lt e1 e.symm)]
   exact(hf b hb).1
 done:=by
  intro X hP hw hK hc i pins s σ H E I hf st hg
  subst hP hw hK
  obtain⟨⟨f0,fl,hf0,hz⟩,hTI,⟨a,b',hTO⟩,h1,h2⟩:=st
  obtain⟨xs,ys,q1,q2,l⟩:=hg
  obtain⟨us1,r1,m1,f1⟩:=I.src q1
  obtain⟨us2,r2,m2,f2⟩:=I.src q2
  have hfz:=hf z (by simp)
  have D:ZfD z TI TO i1 i2 S1 S2:=⟨d1,d2,d3,d4,d5,d6,d7,d8,d9,d10,I.src_off hfz q1,I.src_off (hf TO (by simp)) q1,I.src_off (hf i1 (by simp)) q1,I.src_off (hf i2 (by simp)) q1,
   I.src_off hfz q2,I.src_off (hf TO (by simp)) q2,I.src_off (hf i1 (by simp)) q2,I.src_off (hf i2 (by simp)) q2⟩
  refine Zh7 (I.ok.hd hc) D hf0 hz hTI hTO h1 h2 r1 r2 (by omega) fun h' tk hk=>⟨rfl,?_⟩
  have kf:∀c o,c ∉ [z,TI,TO,i1,i2]→s.heap.get? c=some o→h'.get? c=some o:=fun c o hc e=>by
   simp only[List.mem_cons,List.not_mem_nil,or_false,not_or]at hc
   exact hk c o hc.1 hc.2.2.1 hc.2.2.2.1 hc.2.2.2.2 e
  have nfp:∀b u,H b=some u→b ∉ [z,TI,TO,i1,i2]:=fun b u e hb=>by rw[(hf b hb).1]at e;cases e
  refine I.step (g':=s.gens) (d':=s.drawn) (ch:=[z,TI,TO,i1,i2]) (fun b hb=>⟨(hf b hb).2.2.2.1,(hf b hb).2.1,(hf b hb).2.2.2.2.1,(hf b hb).2.2.2.2.2⟩)
   (fun b ob _ _ hc e _=>kf b ob hc e) (fun b ob _ _ hc e _=>⟨ob.slots,kf b ob hc e⟩) (fun b ob _ e n=>n) (fun b ob hc e=>⟨ob,kf b ob hc e⟩)
   (fun b xs e=>e) (fun b ob u e=>e) (fun b ps e=>⟨#[],by rw[e];simp⟩) (fun m hm=>?_) (fun b ub e=>?_) I.bare
  ·obtain⟨ob,es,ep,ho,r⟩:=hm
   exact⟨ob,es,ep,kf _ ob (fun z=>(hf _ z).2.1 rfl) ho,r⟩
  ·refine(I.hok b ub e).stay (fun c w' hc q=>kf c w' ?_ q) (fun c q=>q) fun c xs q=>q
   rcases hc with z'|z'
   ·rw[z'];exact nfp b ub e
   ·exact nfp c _ z'
 self:=fun _ _ _ _ _ st h=>by
  obtain⟨⟨f0,fl,hf0,hz⟩,_⟩:=st
  exact Zio hz h
theorem Zlg{X:Cx}{a b:Expr}{ta:TA}{p pos:Pos}{nm:Str}{tpos:Pos}(hg:Gl X "zip")(hm:X.mg "zip" = none)(ha:PA X [a,b] ta)
  (hs:starEach [a,b] X.env=[(false,eval a X.env),(false,eval b X.env)]:=by rfl) (hs2:starEach [b] X.env=[(false,eval b X.env)]:=by rfl) :
  PI X (.Name nm tpos) (.Call (.Name "zip" p) [a,b] [] pos) (Zm8 X.K ta):=by
 intro pins s σ H R I h
 refine Call_ (Zdz I hg hm boot_zip (Qah (thn (ha pos pins s σ H _ I h) ?_) (by rw[hs,hs2]) (by rw[hs2];rfl)))
 rintro us s1 ⟨vs,H1,I1,r1,q1⟩
 obtain⟨S1,S2,xs,ys,e,y1,y2,q⟩:=q1
 subst e
 obtain⟨u1,u2,rfl,w1,w2⟩:=r1.two
 have vo:∀ {S:Src} {u:Value},ZK S.val u→∃tk,u=S.value tk:=fun {S u} r=>by
  cases S with
  | l a=>exact⟨0,r⟩
  | t a=>exact⟨0,r⟩
  | s z=>obtain⟨tk,e⟩:=r;exact⟨tk,e⟩
 obtain⟨t1,rfl⟩:=vo w1
 obtain⟨t2,rfl⟩:=vo w2
 obtain⟨us1,r1,m1,f1⟩:=I1.src y1
 obtain⟨us2,r2,m2,f2⟩:=I1.src y2
 refine ZiP r1 r2 fun h' hz hTI hTO a1 a2 a3 hk=>wpAny_pyIter_zip hz ?_
 have I2:Inv X pins σ H1 { s1 with heap:=h' }:=I1.kept (t':=s1.toks) hk
 have n:=s1.heap.objs.size
 refine⟨_,_,_,_,H1,rfl,I2,Zh5 (S1:=S1) (S2:=S2) (z:=s1.heap.objs.size+4) (TI:=s1.heap.objs.size+2) (TO:=s1.heap.objs.size+3) (i1:=s1.heap.objs.size) (i2:=s1.heap.objs.size+1)
  (Qv (Qag (by decide) _)) (Qv (Qag (by decide) _)) (Qv (Qav (by decide))) (Qv (Qag (by decide) _))
  (Qv (Qag (by decide) _)) (QY (Qav (by decide))) (QY (Qag (by decide) _)) (QY (Qav (by decide)))
  (QY (Qag (by decide) _)) (Qv (Qav (by decide))),⟨⟨_,_,.inl rfl,hz⟩,hTI,⟨_,_,hTO⟩,a1,a2⟩,fun b hb=>?_,q⟩
 have hb':s1.heap.objs.size≤b:=by
  simp only[List.mem_cons,List.not_mem_nil,or_false]at hb
  rcases hb with rfl|rfl|rfl|rfl|rfl
  ·exact Qaw _ 4
  ·exact Qaw _ 2
  ·exact Qaw _ 3
  ·exact Qd _
  ·exact Qaw _ 1
 exact I1.fpOk hb' (I1.hok.fresh hb')
theorem iZN{X:Cx}(K:PySem.W.Frag){a b:Expr}{ta:TA}{p pos:Pos}{nm:Str}{tpos:Pos}(hm:X.mg "zip" = none)(ha:PA X [a,b] ta)(hg:Gl X "zip":=by rfl)(hK:X.K=K:=by rfl)
  (hs:starEach [a,b] X.env=[(false,eval a X.env),(false,eval b X.env)]:=by rfl) (hs2:starEach [b] X.env=[(false,eval b X.env)]:=by rfl) :
  PI X (.Name nm tpos) (.Call (.Name "zip" p) [a,b] [] pos) (Zm8 K ta):=by subst hK;exact Zlg hg hm ha hs hs2
theorem Zet(elt t1 i1 t2 i2:Expr)(scope:Scope)(pos:Pos)(it acc:Value)(env:Env) :
  compTurn (.ListComp elt [⟨t1,i1,[],0⟩,⟨t2,i2,[],0⟩] scope pos) 0 it acc env=(do
   standAt i1.pos
   match ← pyNext it with
   | none=>pure (.done .next)
   | some v =>
    letOwnedTupleGo t1 it v
    assign t1 env v
    let x ← eval i2 env
    standAt i2.pos
    let x ← foldedSetIterable i2 env x
    let _ ← runOwn (.compStart (.ListComp elt [⟨t1,i1,[],0⟩,⟨t2,i2,[],0⟩] scope pos) 1 (← holding [x] (pyIter x)) acc env) env
    again (.compLoop (.ListComp elt [⟨t1,i1,[],0⟩,⟨t2,i2,[],0⟩] scope pos) 0 it acc env)):=by rfl
theorem Zeo(elt t1 i1 t2 i2:Expr)(scope:Scope)(pos:Pos)(it acc:Value)(env:Env) :
  compTurn (.ListComp elt [⟨t1,i1,[],0⟩,⟨t2,i2,[],0⟩] scope pos) 1 it acc env=(do
   standAt i2.pos
   match ← pyNext it with
   | none=>pure (.done .next)
   | some v =>
    letOwnedTupleGo t2 it v
    assign t2 env v
    (do let _ ← call (.builtin "list.append") [acc,← eval elt env])
    again (.compLoop (.ListComp elt [⟨t1,i1,[],0⟩,⟨t2,i2,[],0⟩] scope pos) 1 it acc env)):=by rfl
section
variable {prog:Program} {w:World} {A:Around} {R:Result→Shared→Prop} {s:Shared}
theorem ZfX{elt t1 i1 t2 i2:Expr}{scope:Scope}{pos:Pos}{it acc:Value}{env:Env}{E:Value→Shared→Prop}(I:Nat→Shared→Prop)
  (hE:∀e s',E e s'→False)
  (turn:∀n s,I n s→wpAny (model prog w) A (pyNext it) (fun r s₁=>match r with
   | none=>R (.ok .next) s₁
   | some v=>wpAny (model prog w) A (letOwnedTupleGo t2 it v) (fun _ s₀=>wpAny (model prog w) A (assign t2 env v) (fun _ s₂ =>
     wpAny (model prog w) A (eval elt env) (fun x s₄ =>
       wpAny (model prog w) A (call (.builtin "list.append") [acc,x]) (fun _ s₅=>∃m,m<n∧I m s₅) E s₄) E s₂) E s₀) E s₁) E s)
  (n:Nat) (h:I n s):codeAny (model prog w) A (.compLoop (.ListComp elt [⟨t1,i1,[],0⟩,⟨t2,i2,[],0⟩] scope pos) 1 it acc env) R s:=by
 have go:∀ {α:Type} {t:Sem α} {Q:α→Shared→Prop} {s:Shared},wpAny (model prog w) A t Q E s→wpAny (model prog w) A t Q (notedBy (model prog w) A env fun e s'=>R (.error e) s') s :=
  fun {α t Q s} q=>wpAny_mono q (fun _ _ z=>z) fun e s' z=>(hE e s' z).elim
 refine codeAny_loop rfl I (fun n s hI=>?_) n h
 show wpAny _ A ((compTurn (.ListComp elt [⟨t1,i1,[],0⟩,⟨t2,i2,[],0⟩] scope pos) 1 it acc env).onRaise (fun x=>do noteFrame x env;theTreesLotGoes x)) _ _ s
 refine wpAny_noted ?_
 rw[Zeo]
 refine wpAny_bind (wpAny_standAt (wpAny_bind (thn (go (turn n s hI)) fun r s₁ h₁=>?_)))
 cases r with
 | none=>exact wpAny_pure h₁
 | some v =>
  refine wpAny_bind (thn (go h₁) fun _ s₀ h₀=>wpAny_bind (thn (go h₀) fun _ s₂ h₂=>?_))
  exact wpAny_bind (wpAny_bind (thn (go h₂) fun x s₄ h₄=>wpAny_bind (thn (go h₄) fun _ s₅ h₅=>wpAny_pure (wpAny_pure ⟨rfl,h₅⟩))))
theorem Zfy{elt t1 i1 t2 i2:Expr}{scope:Scope}{pos:Pos}{it acc:Value}{env:Env}{E:Value→Shared→Prop}(I:Nat→Shared→Prop)
  (hE:∀e s',E e s'→False) (hs:∀x,foldedSetIterable i2 env x=pure x)
  (turn:∀n s,I n s→wpAny (model prog w) A (pyNext it) (fun r s₁=>match r with
   | none=>R (.ok .next) s₁
   | some v=>wpAny (model prog w) A (letOwnedTupleGo t1 it v) (fun _ s₀=>wpAny (model prog w) A (assign t1 env v) (fun _ s₂ =>
     wpAny (model prog w) A (eval i2 env) (fun x s₃=>wpAny (model prog w) A (pyIter x) (fun it2 s₄ =>
       ∀R2:Result→Shared→Prop,(∀s₅,(∃m,m<n∧I m s₅)→R2 (.ok .next) s₅)→codeAny (model prog w) A (.compStart (.ListComp elt [⟨t1,i1,[],0⟩,⟨t2,i2,[],0⟩] scope pos) 1 it2 acc env) R2 s₄) E s₃) E s₂) E s₀) E s₁) E s)
  (n:Nat) (h:I n s):codeAny (model prog w) A (.compLoop (.ListComp elt [⟨t1,i1,[],0⟩,⟨t2,i2,[],0⟩] scope pos) 0 it acc env) R s:=by
 have go:∀ {α:Type} {t:Sem α} {Q:α→Shared→Prop} {s:Shared},wpAny (model prog w) A t Q E s→wpAny (model prog w) A t Q (notedBy (model prog w) A env fun e s'=>R (.error e) s') s :=
  fun {α t Q s} q=>wpAny_mono q (fun _ _ z=>z) fun e s' z=>(hE e s' z).elim
 refine codeAny_loop rfl I (fun n s hI=>?_) n h
 show wpAny _ A ((compTurn (.ListComp elt [⟨t1,i1,[],0⟩,⟨t2,i2,[],0⟩] scope pos) 0 it acc env).onRaise (fun x=>do noteFrame x env;theTreesLotGoes x)) _ _ s
 refine wpAny_noted ?_
 rw[Zet]
 refine wpAny_bind (wpAny_standAt (wpAny_bind (thn (go (turn n s hI)) fun r s₁ h₁=>?_)))
 cases r with
 | none=>exact wpAny_pure h₁
 | some v =>
  refine wpAny_bind (thn (go h₁) fun _ s₀ h₀=>wpAny_bind (thn (go h₀) fun _ s₂ h₂=>wpAny_bind (thn (go h₂) fun x s₃ h₃=>?_)))
  refine wpAny_bind (wpAny_standAt (wpAny_bind (wpAny_of_eq (hs x) (wpAny_bind (wpAny_holding (thn (go h₃) fun it2 s₄ h₄=>?_))))))
  refine wpAny_bind (wpAny_runOwn (h:=none) ?_)
  exact h₄ _ fun s₅ h₅=>wpAny_pure ⟨rfl,h₅⟩
theorem Zfn{elt t1 i1 t2 i2:Expr}{scope:Scope}{pos:Pos}{it acc:Value}{env:Env}
  (h0:codeAny (model prog w) A (.compLoop (.ListComp elt [⟨t1,i1,[],0⟩,⟨t2,i2,[],0⟩] scope pos) 1 it acc env) R s)
  (h:wpAny (model prog w) A (pyIter it) (fun it' s'=>codeAny (model prog w) A (.compLoop (.ListComp elt [⟨t1,i1,[],0⟩,⟨t2,i2,[],0⟩] scope pos) 1 it' acc env) R s')
   (notedBy (model prog w) A env fun x s'=>R (.error x) s') s) :
  codeAny (model prog w) A (.compStart (.ListComp elt [⟨t1,i1,[],0⟩,⟨t2,i2,[],0⟩] scope pos) 1 it acc env) R s:=by
 refine codeAny_of_tree ?_
 show wpAny _ _ ((compStart (.ListComp elt [⟨t1,i1,[],0⟩,⟨t2,i2,[],0⟩] scope pos) 1 it acc env).onRaise (fun x=>do noteFrame x env;standAt theWindowsPlace)) _ _ s
 refine wpAny_notedAt ?_
 unfold compStart
 show wpAny _ _ (ask >>= _) _ _ s
 refine wpAny_bind (wpAny_askSetting (wpAny_ite ?_))
 split
 ·first
   | exact wpAny_bind (wpAny_pure (wpAny_pure (And.intro rfl h0)))
   | exact wpAny_pure (And.intro rfl h0)
 ·first
   | exact wpAny_bind (wpAny_rule (wpAny_bind (wpAny_standAt (wpAny_bind (wpAny_mono h (fun it' s' h'=>wpAny_pure (And.intro rfl h')) fun _ _ x=>x)))))
   | (refine wpAny_bind (wpAny_rule ?_);show wpAny _ _ (standAt i2.pos >>= _) _ _ s;exact wpAny_bind (wpAny_standAt (wpAny_bind (wpAny_mono h (fun it' s' h'=>wpAny_pure (And.intro rfl h')) fun _ _ x=>x))))
end
def Zfj(J:It)(D:Addr)(ys:List V)(σ:St)(H:Hp)(g:TG)(te:TE)(N:List V→St→Hp→Prop):Prop :=
 ∃W:Nat→Nat→List V→St→Hp→Prop,(∃m,W 0 m ys σ H) ∧
  ∀i m ys σ2 H2,W i m ys σ2 H2→(J.stop i H2∧N ys σ2 H2) ∨
   (J.go i H2∧∃N2:List V→St→Hp→Prop,(∀ys' σ' H',N2 ys' σ' H'→∃m',m'<m∧W (i+1) m' ys' σ' H')∧∀x H3,J.yld i H2 x H3→g x σ2 H3 fun σ4 H4 =>
    te σ4 H4 fun y H6=>H6 D=some (.lst ys)∧ys.length<sizeLine∧N2 (ys++[y]) σ4 (upd H6 D (.lst (ys++[y]))))
def Zhw(J:It)(D:Addr)(k:Nat)(σ:St)(H1:Hp)(g:TG)(wi2:TI)(g2:TG)(te:TE)(Q:VK):Prop :=
 ∃W:Nat→Nat→List V→St→Hp→Prop,(∃m,W 0 m [] (σ++List.replicate k none) (upd H1 D (.lst []))) ∧
  ∀i m ys σ2 H2,W i m ys σ2 H2→(J.stop i H2∧Q (.ref D) H2) ∨
   (J.go i H2∧∃N:List V→St→Hp→Prop,(∀ys' σ' H',N ys' σ' H'→∃m',m'<m∧W (i+1) m' ys' σ' H')∧∀x H3,J.yld i H2 x H3→g x σ2 H3 fun σ4 H4=>wi2 σ4 H4 fun J2 H5=>Zfj J2 D ys σ4 H5 g2 te N)
def ZjR(n:Nat)(wi:TI)(g:TG)(wi2:TI)(g2:TG)(te:TE):TE:=fun σ H Q=>wi σ H fun J H1=>∀D,H1 D=none→Zhw J D n σ H1 g wi2 g2 te Q
section
variable {X:Cx} {N N':List Str} {o c:Scope}
theorem ZiA{elt tg iter tg2 iter2:Expr}{pos pos':Pos}{wi wi2:TI}{g g2:TG}{te:TE}{use:Option (Value→Sem Unit)}{QQ:Value→Shared→Prop}(S:ZC N N' o c)(hN:X.N=N)(ho:X.env.scope=o)(hc:X.calm=true)
  (hi:PI X tg iter wi) (hg:∀C s H fp,PG (Zu X c N' C s H fp) tg g) (hi2:∀C s H fp,PI (Zu X c N' C s H fp) tg2 iter2 wi2) (hg2:∀C s H fp,PG (Zu X c N' C s H fp) tg2 g2) (he:∀C s H fp,PE (Zu X c N' C s H fp) elt te)
  (hs:∀x,foldedSetIterable iter X.env x=pure x) (hs2:∀C s H fp x,foldedSetIterable iter2 (Zu X c N' C s H fp).env x=pure x) {pins:List (Addr×Obj)} {s:Shared} {σ:St} {H:Hp} {Q:VK} (I:Inv X pins σ H s) (h:ZjR (N'.length-N.length) wi g wi2 g2 te σ H Q)
  (post:∀ (D C:Addr) (s5:Shared) (H5:Hp) (m:Str→Option Value),Inv X pins σ H5 s5→H5 C=none→s5.heap.Ns C m→C≠X.env.locals→X.s₀.heap.objs.size≤C→(∀x a,X.env.cells.lookup x=some a→a≠C)→(∀p∈X.pn++pins,p.1≠C) →
   Q (.ref D) H5→compPost (model X.prog X.w) X.A X.xe use QQ (.ref D) C (.ok .next) s5) :
  wpAny (model X.prog X.w) X.A (comprehension (.ListComp elt [⟨tg,iter,[],0⟩,⟨tg2,iter2,[],0⟩] c pos) c X.env pos' (newList []) false (eval iter X.env) use) QQ X.xe s:=by
 have hclos:closureFor c X.env=pure (ZV X.env.cells c.names []):=ZbF fun y hy hf=>by
  refine I.ok.has y.1 ?_
  show X.env.scope.names.lookup y.1=_∨X.env.scope.names.lookup y.1=_
  rw[ho];exact(S.free y hy hf).2
 refine wpAny_comprehension_free (use:=use) rfl hs hclos S.kind S.loc (thn (hi pins s σ H _ I h) fun v s1 h1=>thn h1 fun itv s2 h2=>?_)
 obtain⟨it,fp,tn,J,H2,e,I2,T,st2,f2,hR⟩:=h2
 subst e
 have hD:H2 s2.heap.objs.size=none:=I2.fresh
 have I3:Inv X pins σ (upd H2 s2.heap.objs.size (.lst [])) { s2 with heap:=s2.heap.push { cls:=.type "list",data:=.seq ([]:List Value).toArray } } :=
  I2.lnew (ys:=[]) (its:=[]) (t':=s2.toks) .nil (Ql _)
 have fpl:∀b∈fp,b<s2.heap.objs.size:=fun b hb=>by
  obtain⟨ob,e,_⟩:=T.obj 0 _ st2 b hb
  exact Qk e
 refine wpAny_newObj_type (wpAny_newFunctionEnv S.nocell (by intro y hy;simp at hy) (fun h₁ hns₁ hsb₁=>?_) S.kind)
 have e3:∃s3:Shared,s3={ s2 with heap:=s2.heap.push { cls:=.type "list",data:=.seq ([]:List Value).toArray } }:=⟨_,rfl⟩
 obtain⟨s3,hs3⟩:=e3
 have e3:s3.heap=s2.heap.push { cls:=.type "list",data:=.seq ([]:List Value).toArray }:=by rw[hs3]
 have sz3:s3.heap.objs.size=s2.heap.objs.size+1:=by rw[e3,Q5]
 have fpl3:∀b∈fp,b<s3.heap.objs.size:=fun b hb=>Qx (fpl b hb) (by rw[sz3];exact Qaz _)
 have f3:∀b∈fp,Zcg X pins (upd H2 s2.heap.objs.size (.lst [])) b:=fun b hb=>⟨by rw[Zj (Qv (fpl b hb))];exact(f2 b hb).1,(f2 b hb).2⟩
 have st3:tn 0 s3.heap:=T.keep 0 _ _ st2 fun b _ ob e=>by rw[e3];exact Qa _ e
 rw[← hs3]at I3
 show codeAny (model X.prog X.w) X.A (.compStart _ 0 (.ref it) (.ref s2.heap.objs.size) (compEnvC c (ZV X.env.cells c.names []) (s2.heap.push { cls:=.type "list",data:=.seq ([]:List Value).toArray }).objs.size X.env))
  (compPost (model X.prog X.w) X.A X.xe use QQ (.ref s2.heap.objs.size) (s2.heap.push { cls:=.type "list",data:=.seq ([]:List Value).toArray }).objs.size)
  { s2 with heap:=h₁,toks:=s2.toks+([]:List (Str×Value)).length }
 have hns:h₁.Ns s3.heap.objs.size (fun x=>([]:List (Str×Value)).reverse.lookup x):=by rw[e3];exact hns₁
 have hk1:∀b ob,s3.heap.get? b=some ob→h₁.get? b=some ob:=fun b ob e=>by
  rw[e3]at e
  exact hsb₁.extBut b ob (Qv (Qk e)) (Qa _ e)
 rw[← e3]
 have es4:({ s2 with heap:=h₁,toks:=s2.toks+([]:List (Str×Value)).length }:Shared)={ s3 with heap:=h₁,toks:=s2.toks }:=by rw[hs3];rfl
 rw[es4]
 obtain⟨W,⟨m0,w0⟩,turn⟩:=hR s2.heap.objs.size hD
 have I4:=Zd3 (tk:=s2.toks) S hN ho I3 f3 fpl3 hns hk1
 have st4:tn 0 h₁:=T.keep 0 _ _ st3 fun b _ ob e=>hk1 b ob e
 generalize hX:Zu X c N' s3.heap.objs.size s3 (upd H2 s2.heap.objs.size (.lst [])) fp=Y at I4
 have Yp:Y.prog=X.prog:=by rw[← hX];rfl
 have Yw:Y.w=X.w:=by rw[← hX];rfl
 have YK:Y.K=X.K:=by rw[← hX];rfl
 have Yc:Y.calm=true:=by rw[← hX];exact hc
 have YA:Y.A=X.A:=by rw[← hX];rfl
 have Yenv:Y.env=compEnvC c (ZV X.env.cells c.names []) s3.heap.objs.size X.env:=by rw[← hX];rfl
 have Yl:Y.env.locals=s3.heap.objs.size:=by rw[Yenv];rfl
 have Yxe:Y.xe=fun _ _=>False:=by rw[← hX];rfl
 have hg':=hg s3.heap.objs.size s3 (upd H2 s2.heap.objs.size (.lst [])) fp
 have hi2':=hi2 s3.heap.objs.size s3 (upd H2 s2.heap.objs.size (.lst [])) fp
 have hg2':=hg2 s3.heap.objs.size s3 (upd H2 s2.heap.objs.size (.lst [])) fp
 have hs2':=hs2 s3.heap.objs.size s3 (upd H2 s2.heap.objs.size (.lst [])) fp
 have he':=he s3.heap.objs.size s3 (upd H2 s2.heap.objs.size (.lst [])) fp
 rw[hX]at hg' hi2' hg2' hs2' he'
 have stat:∀ {H':Hp},(∀b∈fp,H' b=none)→∀b∈fp,Zcg Y [] H' b:=fun {H'} hn b hb=>by
  obtain⟨_,q1,q2,q3,q4,_⟩:=f3 b hb
  have z1:=I4.ok.exf b (by rw[← hX];exact hb)
  refine⟨hn b hb,z1.1,I4.ok.exfs b (by rw[← hX];exact hb),.inl (by rw[← hX];exact hb),z1.2,fun p hp=>?_⟩
  have hp':p∈([]:List (Addr×Obj)):=by
   have:Y.pn=[]:=by rw[← hX];rfl
   rw[this]at hp;exact hp
  cases hp'
 have fin:∀ (s5:Shared) (σ5:St) (H5:Hp),Inv Y [] σ5 H5 s5→Q (.ref s2.heap.objs.size) H5→compPost (model X.prog X.w) X.A X.xe use QQ (.ref s2.heap.objs.size) s3.heap.objs.size (.ok .next) s5:=fun s5 σ5 H5 I5 q=>by
  obtain⟨m,hn,_⟩:=id I5.loc
  rw[Yl]at hn
  have hCn:H5 s3.heap.objs.size=none:=by have:=I5.free;rw[Yl]at this;exact this
  have un:Un (frs X.stack) fp (upd H2 s2.heap.objs.size (.lst [])) H5 s3.heap s5.heap:=by
   have:=I5.base
   rw[← hX]at this
   exact this
  have os5:s5.os=s3.os:=by have:=I5.os;rw[← hX]at this;exact this
  have hok5:HOk X.prog X.w H5 s5.heap:=by
   have:=I5.hok
   rw[Yp,Yw]at this
   exact this
  refine post _ _ s5 H5 m (I3.call' (s':=s5) (ch:=fp) os5 un hok5 I5.bare fun b hb=>?_) hCn hn (QY I3.lt) I3.sz (fun x a e=>?_) (fun p hp=>?_) q
  ·obtain⟨_,q1,_,q3,q4,q5⟩:=f3 b hb
   exact⟨q3,q1,q4,q5⟩
  ·obtain⟨v,ob,e',_⟩:=I3.cell x a e
   exact Qv (Qk e')
  ·exact Qv (Qk (I3.pin p hp).1)
 have loop:codeAny (model X.prog X.w) X.A (.compLoop (.ListComp elt [⟨tg,iter,[],0⟩,⟨tg2,iter2,[],0⟩] c pos) 0 (.ref it) (.ref s2.heap.objs.size) (compEnvC c (ZV X.env.cells c.names []) s3.heap.objs.size X.env))
   (compPost (model X.prog X.w) X.A X.xe use QQ (.ref s2.heap.objs.size) s3.heap.objs.size) { s3 with heap:=h₁,toks:=s2.toks }:=by
  rw[← Yenv,← YA]
  refine Zfy (E:=fun _ _=>False) (fun n s'=>∃i ys σ' H',Inv Y [] σ' H' s'∧tn i s'.heap∧(∀b∈fp,H' b=none)∧W i n ys σ' H') (fun _ _ z=>z) hs2' ?_ m0
   ⟨0,[],_,_,I4,st4,fun b hb=>(f3 b hb).1,?_⟩
  ·rintro n s5 ⟨i,ys,σ5,H5,I5,st5,fr5,w5⟩
   rcases turn i n ys σ5 H5 w5 with⟨stop,qn⟩|⟨go,Nn,hNn,step⟩
   ·refine thn (T.done Y Yp Yw YK Yc i [] s5 σ5 H5 _ I5 (stat fr5) st5 stop) ?_
    rintro r s6 ⟨hr,I6⟩
    subst hr
    have fq:=fin s6 σ5 H5 I6 qn
    rw[← YA]at fq
    exact fq
   ·refine thn (T.item Y Yp Yw YK Yc i [] s5 σ5 H5 _ I5 (stat fr5) st5 go) ?_
    rintro r s6 ⟨u,hr,h6⟩
    subst hr
    refine thn h6 ?_
    rintro _ s7 ⟨x,H7,I7,r7,y7,st7,fr7⟩
    have I7':=I7.pinned (stat fr7) (T.obj _ _ st7)
    have back:∀ {σ9:St} {H9:Hp} {s9:Shared},Inv Y ([]++Za9 fp s7.heap) σ9 H9 s9→Inv Y [] σ9 H9 s9∧tn (i+1) s9.heap∧∀b∈fp,H9 b=none:=fun {σ9 H9 s9} I9=>by
     refine⟨I9.unpinned,T.keep _ _ _ st7 fun b hb ob e=>(I9.pin (b,ob) (Qf _ (Qf _ (Z5 hb e)))).1,fun b hb=>?_⟩
     obtain⟨ob,e,d⟩:=T.obj _ _ st7 b hb
     exact(I9.pin (b,ob) (Qf _ (Qf _ (Z5 hb e)))).2.1
    have P1:=hg' _ s7 σ5 H7 x u _ I7' r7 (step x H7 y7)
    rw[Yp,Yw,Yxe]at P1
    refine thn P1 ?_
    rintro _ s8 ⟨σ8,H8,I8,q8⟩
    have P2:=hi2' _ s8 σ8 H8 _ I8 q8
    rw[Yp,Yw,Yxe]at P2
    refine thn P2 fun v2 s9 h9=>thn h9 fun itv2 s10 h10=>?_
    obtain⟨it2,fp2,tn2,J2,H10,e10,I10,T2,st10,f10,W2,⟨m2,w2⟩,turn2⟩:=h10
    subst e10
    intro R2 hR2
    rw[Yp,Yw,YK]at T2
    have stat2:∀ {H':Hp},(∀b∈fp2,H' b=none)→∀b∈fp2,Zcg Y ([]++Za9 fp s7.heap) H' b:=fun hn b hb=>⟨hn b hb,(f10 b hb).2⟩
    have loop2:codeAny (model X.prog X.w) Y.A (.compLoop (.ListComp elt [⟨tg,iter,[],0⟩,⟨tg2,iter2,[],0⟩] c pos) 1 (.ref it2) (.ref s2.heap.objs.size) Y.env) R2 s10:=by
     refine ZfX (E:=fun _ _=>False) (fun n' s'=>∃i' ys' σ' H',Inv Y ([]++Za9 fp s7.heap) σ' H' s'∧tn2 i' s'.heap∧(∀b∈fp2,H' b=none)∧W2 i' n' ys' σ' H') (fun _ _ z=>z) ?_ m2
      ⟨0,ys,σ8,H10,I10,st10,fun b hb=>(f10 b hb).1,w2⟩
     rintro n' s11 ⟨i',ys',σ11,H11,I11,st11,fr11,w11⟩
     rcases turn2 i' n' ys' σ11 H11 w11 with⟨stop2,qn2⟩|⟨go2,Nn2,hNn2,step2⟩
     ·refine thn (T2.done Y Yp Yw YK Yc i' _ s11 σ11 H11 _ I11 (stat2 fr11) st11 stop2) ?_
      rintro r s12 ⟨hr,I12⟩
      subst hr
      obtain⟨b1,b2,b3⟩:=back I12
      obtain⟨m',hm',w12⟩:=hNn _ _ _ qn2
      exact hR2 s12 ⟨m',hm',i+1,ys',σ11,H11,b1,b2,b3,w12⟩
     ·refine thn (T2.item Y Yp Yw YK Yc i' _ s11 σ11 H11 _ I11 (stat2 fr11) st11 go2) ?_
      rintro r s12 ⟨u2,hr,h12⟩
      subst hr
      refine thn h12 ?_
      rintro _ s13 ⟨x2,H13,I13,r13,y13,st13,fr13⟩
      have I13':=I13.pinned (stat2 fr13) (T2.obj _ _ st13)
      have back2:∀ {σ9:St} {H9:Hp} {s9:Shared},Inv Y (([]++Za9 fp s7.heap)++Za9 fp2 s13.heap) σ9 H9 s9→Inv Y ([]++Za9 fp s7.heap) σ9 H9 s9∧tn2 (i'+1) s9.heap∧∀b∈fp2,H9 b=none:=fun {σ9 H9 s9} I9=>by
       refine⟨I9.unpinned,T2.keep _ _ _ st13 fun b hb ob e=>(I9.pin (b,ob) (Qf _ (Qf _ (Z5 hb e)))).1,fun b hb=>?_⟩
       obtain⟨ob,e,d⟩:=T2.obj _ _ st13 b hb
       exact(I9.pin (b,ob) (Qf _ (Qf _ (Z5 hb e)))).2.1
      have P5:=hg2' _ s13 σ11 H13 x2 u2 _ I13' r13 (step2 x2 H13 y13)
      rw[Yp,Yw,Yxe]at P5
      refine thn P5 ?_
      rintro _ s14 ⟨σ14,H14,I14,q14⟩
      have P3:=he' _ s14 σ14 H14 _ I14 q14
      rw[Yp,Yw,Yxe]at P3
      refine thn P3 ?_
      rintro y s15 ⟨vy,H15,I15,r15,hDl,hsz,q15⟩
      have P4:=Zbg (X:=Y) _ s15 σ14 H15 (.ref s2.heap.objs.size) [vy] (.ref s2.heap.objs.size) [y] (fun _ H'=>Nn2 (ys'++[vy]) σ14 H') I15 rfl (.cons r15 .nil) ⟨_,ys',vy,rfl,rfl,hDl,hsz,q15⟩
      rw[Yp,Yw,Yxe]at P4
      refine thn P4 ?_
      rintro _ s16 ⟨_,H16,I16,_,q16⟩
      obtain⟨b1,b2,b3⟩:=back2 I16
      obtain⟨m',hm',w16⟩:=hNn2 _ _ _ q16
      exact⟨m',hm',i'+1,ys'++[vy],σ14,H16,b1,b2,b3,w16⟩
    have lp2:=T2.self Y.A 0 s10 (fun it' s'=>codeAny (model X.prog X.w) Y.A (.compLoop (.ListComp elt [⟨tg,iter,[],0⟩,⟨tg2,iter2,[],0⟩] c pos) 1 it' (.ref s2.heap.objs.size) Y.env) R2 s') (fun _ _=>False) st10 loop2
    exact Zfn loop2 (wpAny_mono lp2 (fun _ _ z=>z) fun _ _ z=>z.elim)
  ·exact w0
 have lp:=T.self X.A 0 { s3 with heap:=h₁,toks:=s2.toks } (fun it' s'=>codeAny (model X.prog X.w) X.A (.compLoop (.ListComp elt [⟨tg,iter,[],0⟩,⟨tg2,iter2,[],0⟩] c pos) 0 it' (.ref s2.heap.objs.size) (compEnvC c (ZV X.env.cells c.names []) s3.heap.objs.size X.env))
   (compPost (model X.prog X.w) X.A X.xe use QQ (.ref s2.heap.objs.size) s3.heap.objs.size) s') (fun _ _=>False) st4 loop
 exact codeAny_compStart_list loop (wpAny_mono lp (fun _ _ z=>z) fun _ _ z=>z.elim)
theorem Zgn{elt tg iter tg2 iter2:Expr}{pos:Pos}{wi wi2:TI}{g g2:TG}{te:TE}(S:ZC N N' o c)(hN:X.N=N)(ho:X.env.scope=o)(hc:X.calm=true)
  (hi:PI X tg iter wi) (hg:∀C s H fp,PG (Zu X c N' C s H fp) tg g) (hi2:∀C s H fp,PI (Zu X c N' C s H fp) tg2 iter2 wi2) (hg2:∀C s H fp,PG (Zu X c N' C s H fp) tg2 g2) (he:∀C s H fp,PE (Zu X c N' C s H fp) elt te)
  (hs:∀x,foldedSetIterable iter X.env x=pure x:=by intro _;rfl) (hs2:∀C s H fp x,foldedSetIterable iter2 (Zu X c N' C s H fp).env x=pure x:=by intro _ _ _ _ _;rfl) :
  PE X (.ListComp elt [⟨tg,iter,[],0⟩,⟨tg2,iter2,[],0⟩] c pos) (ZjR (N'.length-N.length) wi g wi2 g2 te):=by
 intro pins s σ H Q I h
 rw[eval_ListComp]
 refine ZiA (use:=none) S hN ho hc hi hg hi2 hg2 he hs hs2 I h fun D C s5 H5 m I5 hCn hn n1 n2 n3 n4 q=>⟨m,hn,fun h' hsb=>?_⟩
 exact⟨.ref D,H5,I5.let hCn n1 n2 n3 n4 hsb,rfl,q⟩
end
theorem ZdH{lo:Int}{n k:Nat}{D:Addr}{σ:St}{H1:Hp}{g:TG}{wi2:TI}{g2:TG}{te:TE}{Q:VK}(Pv:Nat→List V→St→Hp→Prop)(h0:Pv 0 [] (σ++List.replicate k none) (upd H1 D (.lst [])))
  (hs:∀i ys σ H,i<n→Pv i ys σ H→g (.int (lo+i)) σ H fun σ4 H4=>wi2 σ4 H4 fun J2 H5=>Zfj J2 D ys σ4 H5 g2 te (Pv (i+1)))
  (hd:∀ys σ H,Pv n ys σ H→Q (.ref D) H):Zhw (Itr lo n) D k σ H1 g wi2 g2 te Q:=by
 refine⟨fun i m ys σ H=>m=n-i∧i≤n∧Pv i ys σ H,⟨n,by simp,Ql _,h0⟩,?_⟩
 rintro i m ys σ H ⟨rfl,hi,p⟩
 by_cases hlt:i<n
 ·refine .inr ⟨hlt,Pv (i+1),fun ys' σ' H' p'=>⟨n-(i+1),by omega,rfl,hlt,p'⟩,fun x H' y=>?_⟩
  obtain⟨rfl,rfl⟩:=y
  exact hs i ys σ _ hlt p
 ·have e:i=n:=by omega
  exact .inl ⟨Nat.le_of_not_lt hlt,hd ys σ H (e ▸ p)⟩
theorem ZdI{lo:Int}{n:Nat}{D:Addr}{ys:List V}{σ:St}{H:Hp}{g2:TG}{te:TE}{N:List V→St→Hp→Prop}(Pv:Nat→List V→St→Hp→Prop)(h0:Pv 0 ys σ H)
  (hs:∀i ys σ H,i<n→Pv i ys σ H→g2 (.int (lo+i)) σ H fun σ4 H4=>te σ4 H4 fun y H6=>H6 D=some (.lst ys)∧ys.length<sizeLine∧Pv (i+1) (ys++[y]) σ4 (upd H6 D (.lst (ys++[y]))))
  (hd:∀ys σ H,Pv n ys σ H→N ys σ H):Zfj (Itr lo n) D ys σ H g2 te N:=by
 refine⟨fun i m ys σ H=>m=n-i∧i≤n∧Pv i ys σ H,⟨n,by simp,Ql _,h0⟩,?_⟩
 rintro i m ys σ H ⟨rfl,hi,p⟩
 by_cases hlt:i<n
 ·refine .inr ⟨hlt,Pv (i+1),fun ys' σ' H' p'=>⟨n-(i+1),by omega,rfl,hlt,p'⟩,fun x H' y=>?_⟩
  obtain⟨rfl,rfl⟩:=y
  exact hs i ys σ _ hlt p
 ·have e:i=n:=by omega
  exact .inl ⟨Nat.le_of_not_lt hlt,hd ys σ H (e ▸ p)⟩
end L2
namespace Hf
open L2
abbrev PW:=List (Int×Nat)
def val(P:PW):Int:=(P.map fun p=>p.1*(p.2:Int)).sum
def ws(P:PW):List Int:=P.map (·.1)
def ds(P:PW):List Nat:=P.map (·.2)
def zs(z:Nat):List Int:=List.replicate z 0
def kr(w E:Nat)(D:List Nat):Nat:=(D.map fun d=>w ^ (E-d)).sum
inductive Hu (w:Nat):List Int→Nat→Int→Prop
 | stop {e:Int} {m:Nat}:Hu w [e] m 0
 | step {E L:List Int} {m:Nat} {C:Int}:1<L.length→E.Perm L→L.Pairwise (·≤·)→Hu w (L.drop m++[(L.take m).sum]) w C→Hu w E m (C+(L.take m).sum)
def Fit(w n m:Nat):Prop:=n=1∨∃t,n=m+t*(w-1)
structure Fits (w n m:Nat):Prop where
 w2:2≤w
 m2:2≤m
 mw:m≤w
 ok:Fit w n m
end Hf
namespace L2
open PySem PySem.Spec PyProof.Rows
section
variable {prog:Program} {w:World} {A:Around} {R:Result→Shared→Prop} {s:Shared}
theorem Zer{kx vx target iter:Expr}{ifs:List Expr}{scope:Scope}{pos:Pos}{it:Value}{D:Addr}{env:Env}{E:Value→Shared→Prop}(I:Nat→Shared→Prop)
  (hE:∀e s',E e s'→False)
  (turn:∀n s,I n s→wpAny (model prog w) A (pyNext it) (fun r s₁=>match r with
   | none=>R (.ok .next) s₁
   | some v=>wpAny (model prog w) A (letOwnedTupleGo target it v) (fun _ s₀=>wpAny (model prog w) A (assign target env v) (fun _ s₂ =>
     wpAny (model prog w) A (ZfB ifs env) (fun ok s₃ =>
      if ok=true then wpAny (model prog w) A (eval kx env) (fun kv s₄=>wpAny (model prog w) A (eval vx env) (fun vv s₅ =>
       wpAny (model prog w) A (dictSet D kv vv) (fun _ s₆=>∃m,m<n∧I m s₆) E s₅) E s₄) E s₃
      else ∃m,m<n∧I m s₃) E s₂) E s₀) E s₁) E s)
  (n:Nat) (h:I n s):codeAny (model prog w) A (.compLoop (.DictComp kx vx [⟨target,iter,ifs,0⟩] scope pos) 0 it (.ref D) env) R s:=by
 have go:∀ {α:Type} {t:Sem α} {Q:α→Shared→Prop} {s:Shared},wpAny (model prog w) A t Q E s→wpAny (model prog w) A t Q (notedBy (model prog w) A env fun e s'=>R (.error e) s') s :=
  fun {α t Q s} q=>wpAny_mono q (fun _ _ z=>z) fun e s' z=>(hE e s' z).elim
 refine codeAny_loop rfl I (fun n s hI=>?_) n h
 show wpAny _ A ((compTurn (.DictComp kx vx [⟨target,iter,ifs,0⟩] scope pos) 0 it (.ref D) env).onRaise (fun x=>do noteFrame x env;theTreesLotGoes x)) _ _ s
 refine wpAny_noted ?_
 rw[compTurn_dict]
 refine wpAny_bind (wpAny_standAt (wpAny_bind (thn (go (turn n s hI)) fun r s₁ h₁=>?_)))
 cases r with
 | none=>exact wpAny_pure h₁
 | some v =>
  refine wpAny_bind (thn (go h₁) fun _ s₀ h₀=>wpAny_bind (thn (go h₀) fun _ s₂ h₂=>wpAny_bind (thn (go h₂) fun ok s₃ h₃=>?_)))
  cases ok with
  | false=>exact wpAny_pure ⟨rfl,h₃⟩
  | true =>
   exact wpAny_bind (wpAny_bind (thn (go h₃) fun kv s₄ h₄=>wpAny_bind (wpAny_holding (thn (go h₄) fun vv s₅ h₅=>wpAny_bind (wpAny_standAt (wpAny_holding (thn (go h₅) fun _ s₆ h₆=>wpAny_pure ⟨rfl,h₆⟩)))))))
end
theorem Zlr{X:Cx}(hu:X.A.units+64<cLine){pins:List (Addr×Obj)}{s:Shared}{σ:St}{H:Hp}{d b:Addr}{kvs:List (List Key×V)}{ks:List Key}{v:V}{u:Value}{Q:Hp→Prop}(I:Inv X pins σ H s)(hH:H d=some (.dT kvs))(hb:H b=some (.tup (ks.map kV)))(hk:ZU kvs ks=none)(hz:kvs.length<sizeLine)(rv:ZK v u)
  (q:Q (upd H d (.dT (kvs++[(ks,v)])))):wpAny (model X.prog X.w) X.A (dictSet d (.ref b) u) (fun _ s'=>∃H',Inv X pins σ H' s'∧Q H') X.xe s:=by
 obtain⟨_,hd,xs,rel,o,es,ep,ho,hex,hdat,hent,hnd⟩:=(show Z7 X.prog X.w H s.heap d (.dT kvs) from I.hok d _ hH)
 have hm:s.heap.DictOfH (tupleKind (ZN X.prog X.w)) d xs:=⟨o,es,ep,ho,hex,hdat,hent,Zci (R:=fun ks b=>(tupleKind (ZN X.prog X.w)).is s.heap ks b) (fun ks b e=>I.tkey e) rel,hnd⟩
 have hl:=Zcl rel
 have hno:=Zhn rel hk
 refine wpAny_dictSet_heap (knd:=tupleKind (ZN X.prog X.w)) (k:=ks) (by show X.A.units<cLine;omega) (I.tkey hb) hm (fun h' hm' hs=>?_) (by omega)
 rw[storedH_new hno]at hm'
 obtain⟨o',es',ep',g1,g2,g3,g4,_,g5⟩:=hm'
 refine⟨_,?_,q⟩
 refine I.write (x:=d) (e:=d) (by rw[hH];exact True.intro) (.inl rfl) (fun c q hc z=>(hs.2 c hc).trans z) ⟨o',g1⟩ ?_
 refine⟨by rw[Qe,Qy];omega,hd,xs++[(ks,b,u)],?_,o',es',ep',g1,g2,g3,g4,g5⟩
 refine Zdw (fun c ys ec=>?_) (ZeQ rel ⟨rfl,hb,rv⟩)
 rw[Zj (Zj8 ec hH (fun z=>nomatch z))]
 exact ec
def Zhf(J:It)(D:Addr)(k:Nat)(σ:St)(H1:Hp)(g:TG)(tc:TT)(tk te:TE)(Q:VK):Prop :=
 ∃W:Nat→Nat→List (List Key×V)→St→Hp→Prop,(∃m,W 0 m [] (σ++List.replicate k none) (upd H1 D (.dT []))) ∧
  ∀i m ys σ2 H2,W i m ys σ2 H2→(J.stop i H2∧Q (.ref D) H2) ∨
   (J.go i H2∧∃N:List (List Key×V)→St→Hp→Prop,(∀ys' σ' H',N ys' σ' H'→∃m',m'<m∧W (i+1) m' ys' σ' H')∧∀x H3,J.yld i H2 x H3→g x σ2 H3 fun σ4 H4=>tc σ4 H4 fun b H5 =>
    if b=true then tk σ4 H5 fun kv H6=>te σ4 H6 fun y H7=>∃ (b:Addr) (ks:List Key),kv=.ref b∧H7 D=some (.dT ys)∧H7 b=some (.tup (ks.map kV))∧ZU ys ks=none∧ys.length<sizeLine∧N (ys++[(ks,y)]) σ4 (upd H7 D (.dT (ys++[(ks,y)]))) else N ys σ4 H5)
def ZgL(n:Nat)(wi:TI)(g:TG)(tc:TT)(tk te:TE):TE:=fun σ H Q=>wi σ H fun J H1=>∀D,H1 D=none→Zhf J D n σ H1 g tc tk te Q
section
variable {X:Cx} {N N':List Str} {o c:Scope}
theorem ZeI{kx vx tg iter:Expr}{ifs:List Expr}{pos pos':Pos}{wi:TI}{g:TG}{tc:TT}{tk te:TE}{use:Option (Value→Sem Unit)}{QQ:Value→Shared→Prop}(S:ZC N N' o c)(hN:X.N=N)(ho:X.env.scope=o)(hc:X.calm=true)
  (hi:PI X tg iter wi) (hg:∀C s H fp,PG (Zu X c N' C s H fp) tg g) (ht:∀C s H fp,PTs (Zu X c N' C s H fp) ifs tc) (hk:∀C s H fp,PE (Zu X c N' C s H fp) kx tk) (he:∀C s H fp,PE (Zu X c N' C s H fp) vx te) (hu:X.A.units+64<cLine)
  (hs:∀x,foldedSetIterable iter X.env x=pure x) {pins:List (Addr×Obj)} {s:Shared} {σ:St} {H:Hp} {Q:VK} (I:Inv X pins σ H s) (h:ZgL (N'.length-N.length) wi g tc tk te σ H Q)
  (post:∀ (D C:Addr) (s5:Shared) (H5:Hp) (m:Str→Option Value),Inv X pins σ H5 s5→H5 C=none→s5.heap.Ns C m→C≠X.env.locals→X.s₀.heap.objs.size≤C→(∀x a,X.env.cells.lookup x=some a→a≠C)→(∀p∈X.pn++pins,p.1≠C) →
   Q (.ref D) H5→compPost (model X.prog X.w) X.A X.xe use QQ (.ref D) C (.ok .next) s5) :
  wpAny (model X.prog X.w) X.A (comprehension (.DictComp kx vx [⟨tg,iter,ifs,0⟩] c pos) c X.env pos' newDict false (eval iter X.env) use) QQ X.xe s:=by
 have hclos:closureFor c X.env=pure (ZV X.env.cells c.names []):=ZbF fun y hy hf=>by
  refine I.ok.has y.1 ?_
  show X.env.scope.names.lookup y.1=_∨X.env.scope.names.lookup y.1=_
  rw[ho];exact(S.free y hy hf).2
 refine wpAny_comprehension_free (use:=use) rfl hs hclos S.kind S.loc (thn (hi pins s σ H _ I h) fun v s1 h1=>thn h1 fun itv s2 h2=>?_)
 obtain⟨it,fp,tn,J,H2,e,I2,T,st2,f2,hR⟩:=h2
 subst e
 have hD:H2 s2.heap.objs.size=none:=I2.fresh
 have I3:Inv X pins σ (upd H2 s2.heap.objs.size (.dT [])) { s2 with heap:=s2.heap.push { cls:=.type "dict",data:=.dict #[] } } :=
  I2.laid (t':=s2.toks) (fun _ _ q=>Qa _ q) (Qd _) ⟨Ql _,beq_eq_false_iff_ne.mpr fun z=>Q0 _ (z ▸ QaX (by decide) (show mainGlobals<s2.heap.objs.size from(I2.mod.glob.keeps I2.bk).lt)),[],.nil,_,#[],0,Qm _ rfl,⟨rfl,rfl,rfl⟩,rfl,rfl,List.nodup_nil⟩
 have fpl:∀b∈fp,b<s2.heap.objs.size:=fun b hb=>by
  obtain⟨ob,e,_⟩:=T.obj 0 _ st2 b hb
  exact Qk e
 refine wpAny_newObj_type (wpAny_newFunctionEnv S.nocell (by intro y hy;simp at hy) (fun h₁ hns₁ hsb₁=>?_) S.kind)
 have e3:∃s3:Shared,s3={ s2 with heap:=s2.heap.push { cls:=.type "dict",data:=.dict #[] } }:=⟨_,rfl⟩
 obtain⟨s3,hs3⟩:=e3
 have e3:s3.heap=s2.heap.push { cls:=.type "dict",data:=.dict #[] }:=by rw[hs3]
 have sz3:s3.heap.objs.size=s2.heap.objs.size+1:=by rw[e3,Q5]
 have fpl3:∀b∈fp,b<s3.heap.objs.size:=fun b hb=>Qx (fpl b hb) (by rw[sz3];exact Qaz _)
 have f3:∀b∈fp,Zcg X pins (upd H2 s2.heap.objs.size (.dT [])) b:=fun b hb=>⟨by rw[Zj (Qv (fpl b hb))];exact(f2 b hb).1,(f2 b hb).2⟩
 have st3:tn 0 s3.heap:=T.keep 0 _ _ st2 fun b _ ob e=>by rw[e3];exact Qa _ e
 rw[← hs3]at I3
 show codeAny (model X.prog X.w) X.A (.compStart _ 0 (.ref it) (.ref s2.heap.objs.size) (compEnvC c (ZV X.env.cells c.names []) (s2.heap.push { cls:=.type "dict",data:=.dict #[] }).objs.size X.env))
  (compPost (model X.prog X.w) X.A X.xe use QQ (.ref s2.heap.objs.size) (s2.heap.push { cls:=.type "dict",data:=.dict #[] }).objs.size)
  { s2 with heap:=h₁,toks:=s2.toks+([]:List (Str×Value)).length }
 have hns:h₁.Ns s3.heap.objs.size (fun x=>([]:List (Str×Value)).reverse.lookup x):=by rw[e3];exact hns₁
 have hk1:∀b ob,s3.heap.get? b=some ob→h₁.get? b=some ob:=fun b ob e=>by
  rw[e3]at e
  exact hsb₁.extBut b ob (Qv (Qk e)) (Qa _ e)
 rw[← e3]
 have es4:({ s2 with heap:=h₁,toks:=s2.toks+([]:List (Str×Value)).length }:Shared)={ s3 with heap:=h₁,toks:=s2.toks }:=by rw[hs3];rfl
 rw[es4]
 obtain⟨W,⟨m0,w0⟩,turn⟩:=hR s2.heap.objs.size hD
 have I4:=Zd3 (tk:=s2.toks) S hN ho I3 f3 fpl3 hns hk1
 have st4:tn 0 h₁:=T.keep 0 _ _ st3 fun b _ ob e=>hk1 b ob e
 generalize hX:Zu X c N' s3.heap.objs.size s3 (upd H2 s2.heap.objs.size (.dT [])) fp=Y at I4
 have Yp:Y.prog=X.prog:=by rw[← hX];rfl
 have Yw:Y.w=X.w:=by rw[← hX];rfl
 have YK:Y.K=X.K:=by rw[← hX];rfl
 have Yc:Y.calm=true:=by rw[← hX];exact hc
 have YA:Y.A=X.A:=by rw[← hX];rfl
 have Yenv:Y.env=compEnvC c (ZV X.env.cells c.names []) s3.heap.objs.size X.env:=by rw[← hX];rfl
 have Yl:Y.env.locals=s3.heap.objs.size:=by rw[Yenv];rfl
 have Yxe:Y.xe=fun _ _=>False:=by rw[← hX];rfl
 have hg':=hg s3.heap.objs.size s3 (upd H2 s2.heap.objs.size (.dT [])) fp
 have ht':=ht s3.heap.objs.size s3 (upd H2 s2.heap.objs.size (.dT [])) fp
 have hk':=hk s3.heap.objs.size s3 (upd H2 s2.heap.objs.size (.dT [])) fp
 have he':=he s3.heap.objs.size s3 (upd H2 s2.heap.objs.size (.dT [])) fp
 rw[hX]at hg' ht' hk' he'
 have stat:∀ {H':Hp},(∀b∈fp,H' b=none)→∀b∈fp,Zcg Y [] H' b:=fun {H'} hn b hb=>by
  obtain⟨_,q1,q2,q3,q4,_⟩:=f3 b hb
  have z1:=I4.ok.exf b (by rw[← hX];exact hb)
  refine⟨hn b hb,z1.1,I4.ok.exfs b (by rw[← hX];exact hb),.inl (by rw[← hX];exact hb),z1.2,fun p hp=>?_⟩
  have hp':p∈([]:List (Addr×Obj)):=by
   have:Y.pn=[]:=by rw[← hX];rfl
   rw[this]at hp;exact hp
  cases hp'
 have fin:∀ (s5:Shared) (σ5:St) (H5:Hp),Inv Y [] σ5 H5 s5→Q (.ref s2.heap.objs.size) H5→compPost (model X.prog X.w) X.A X.xe use QQ (.ref s2.heap.objs.size) s3.heap.objs.size (.ok .next) s5:=fun s5 σ5 H5 I5 q=>by
  obtain⟨m,hn,_⟩:=id I5.loc
  rw[Yl]at hn
  have hCn:H5 s3.heap.objs.size=none:=by have:=I5.free;rw[Yl]at this;exact this
  have un:Un (frs X.stack) fp (upd H2 s2.heap.objs.size (.dT [])) H5 s3.heap s5.heap:=by
   have:=I5.base
   rw[← hX]at this
   exact this
  have os5:s5.os=s3.os:=by have:=I5.os;rw[← hX]at this;exact this
  have hok5:HOk X.prog X.w H5 s5.heap:=by
   have:=I5.hok
   rw[Yp,Yw]at this
   exact this
  refine post _ _ s5 H5 m (I3.call' (s':=s5) (ch:=fp) os5 un hok5 I5.bare fun b hb=>?_) hCn hn (QY I3.lt) I3.sz (fun x a e=>?_) (fun p hp=>?_) q
  ·obtain⟨_,q1,_,q3,q4,q5⟩:=f3 b hb
   exact⟨q3,q1,q4,q5⟩
  ·obtain⟨v,ob,e',_⟩:=I3.cell x a e
   exact Qv (Qk e')
  ·exact Qv (Qk (I3.pin p hp).1)
 have loop:codeAny (model X.prog X.w) X.A (.compLoop (.DictComp kx vx [⟨tg,iter,ifs,0⟩] c pos) 0 (.ref it) (.ref s2.heap.objs.size) (compEnvC c (ZV X.env.cells c.names []) s3.heap.objs.size X.env))
   (compPost (model X.prog X.w) X.A X.xe use QQ (.ref s2.heap.objs.size) s3.heap.objs.size) { s3 with heap:=h₁,toks:=s2.toks }:=by
  rw[← Yenv,← YA]
  refine Zer (E:=fun _ _=>False) (fun n s'=>∃i ys σ' H',Inv Y [] σ' H' s'∧tn i s'.heap∧(∀b∈fp,H' b=none)∧W i n ys σ' H') (fun _ _ z=>z) ?_ m0
   ⟨0,[],_,_,I4,st4,fun b hb=>(f3 b hb).1,?_⟩
  ·rintro n s5 ⟨i,ys,σ5,H5,I5,st5,fr5,w5⟩
   rcases turn i n ys σ5 H5 w5 with⟨stop,qn⟩|⟨go,Nn,hNn,step⟩
   ·refine thn (T.done Y Yp Yw YK Yc i [] s5 σ5 H5 _ I5 (stat fr5) st5 stop) ?_
    rintro r s6 ⟨hr,I6⟩
    subst hr
    have fq:=fin s6 σ5 H5 I6 qn
    rw[← YA]at fq
    exact fq
   ·refine thn (T.item Y Yp Yw YK Yc i [] s5 σ5 H5 _ I5 (stat fr5) st5 go) ?_
    rintro r s6 ⟨u,hr,h6⟩
    subst hr
    refine thn h6 ?_
    rintro _ s7 ⟨x,H7,I7,r7,y7,st7,fr7⟩
    have I7':=I7.pinned (stat fr7) (T.obj _ _ st7)
    have back:∀ {σ9:St} {H9:Hp} {s9:Shared},Inv Y ([]++Za9 fp s7.heap) σ9 H9 s9→Inv Y [] σ9 H9 s9∧tn (i+1) s9.heap∧∀b∈fp,H9 b=none:=fun {σ9 H9 s9} I9=>by
     refine⟨I9.unpinned,T.keep _ _ _ st7 fun b hb ob e=>(I9.pin (b,ob) (Qf _ (Qf _ (Z5 hb e)))).1,fun b hb=>?_⟩
     obtain⟨ob,e,d⟩:=T.obj _ _ st7 b hb
     exact(I9.pin (b,ob) (Qf _ (Qf _ (Z5 hb e)))).2.1
    have P1:=hg' _ s7 σ5 H7 x u _ I7' r7 (step x H7 y7)
    rw[Yp,Yw,Yxe]at P1
    refine thn P1 ?_
    rintro _ s8 ⟨σ8,H8,I8,q8⟩
    have P2:=ht' _ s8 σ8 H8 _ I8 q8
    rw[Yp,Yw,Yxe]at P2
    refine thn P2 ?_
    rintro ok s9 ⟨H9,I9,q9⟩
    cases ok with
    | false =>
     rw[if_neg Qj]at q9
     rw[if_neg Qj]
     obtain⟨b1,b2,b3⟩:=back I9
     obtain⟨m',hm',w9⟩:=hNn _ _ _ q9
     exact⟨m',hm',i+1,ys,σ8,H9,b1,b2,b3,w9⟩
    | true =>
     rw[if_pos rfl]at q9
     rw[if_pos rfl]
     have P3:=hk' _ s9 σ8 H9 _ I9 q9
     rw[Yp,Yw,Yxe]at P3
     refine thn P3 ?_
     rintro kv s10 ⟨vk,H10,I10,r10,q10⟩
     have P4:=he' _ s10 σ8 H10 _ I10 q10
     rw[Yp,Yw,Yxe]at P4
     refine thn P4 ?_
     rintro y s11 ⟨vy,H11,I11,r11,b,ks,eb,hDl,hb,hno,hsz,q11⟩
     subst eb
     cases r10
     have P5:=Zlr (X:=Y) (by rw[YA];exact hu) I11 hDl hb hno hsz r11 q11
     rw[Yp,Yw,Yxe]at P5
     refine thn P5 ?_
     rintro _ s12 ⟨H12,I12,q12⟩
     obtain⟨b1,b2,b3⟩:=back I12
     obtain⟨m',hm',w12⟩:=hNn _ _ _ q12
     exact⟨m',hm',i+1,ys++[(ks,vy)],σ8,H12,b1,b2,b3,w12⟩
  ·exact w0
 have lp:=T.self X.A 0 { s3 with heap:=h₁,toks:=s2.toks } (fun it' s'=>codeAny (model X.prog X.w) X.A (.compLoop (.DictComp kx vx [⟨tg,iter,ifs,0⟩] c pos) 0 it' (.ref s2.heap.objs.size) (compEnvC c (ZV X.env.cells c.names []) s3.heap.objs.size X.env))
   (compPost (model X.prog X.w) X.A X.xe use QQ (.ref s2.heap.objs.size) s3.heap.objs.size) s') (fun _ _=>False) st4 loop
 exact codeAny_compStart_dict loop (wpAny_mono lp (fun _ _ z=>z) fun _ _ z=>z.elim)
theorem Zj5{kx vx tg iter:Expr}{ifs:List Expr}{pos:Pos}{wi:TI}{g:TG}{tc:TT}{tk te:TE}(S:ZC N N' o c)(hN:X.N=N)(ho:X.env.scope=o)(hc:X.calm=true)
  (hi:PI X tg iter wi) (hg:∀C s H fp,PG (Zu X c N' C s H fp) tg g) (ht:∀C s H fp,PTs (Zu X c N' C s H fp) ifs tc) (hk:∀C s H fp,PE (Zu X c N' C s H fp) kx tk) (he:∀C s H fp,PE (Zu X c N' C s H fp) vx te) (hu:X.A.units+64<cLine)
  (hs:∀x,foldedSetIterable iter X.env x=pure x:=by intro _;rfl) :
  PE X (.DictComp kx vx [⟨tg,iter,ifs,0⟩] c pos) (ZgL (N'.length-N.length) wi g tc tk te):=by
 intro pins s σ H Q I h
 show wpAny _ _ (comprehension (.DictComp kx vx [⟨tg,iter,ifs,0⟩] c pos) c X.env _ newDict false (eval iter X.env)) _ _ _
 refine ZeI (use:=none) S hN ho hc hi hg ht hk he hu hs I h fun D C s5 H5 m I5 hCn hn n1 n2 n3 n4 q=>⟨m,hn,fun h' hsb=>?_⟩
 exact⟨.ref D,H5,I5.let hCn n1 n2 n3 n4 hsb,rfl,q⟩
theorem Zgr{i:Nat}{x:Str}{kx vx tg iter:Expr}{ifs:List Expr}{pos pos' spos:Pos}{wi:TI}{g:TG}{tc:TT}{tk te:TE}(hnd:X.N.Nodup)(hx:X.N[i]? = some x)(hl:Loc X.env.scope x)(S:ZC N N' o c)(hN:X.N=N)(ho:X.env.scope=o)(hc:X.calm=true)
  (hi:PI X tg iter wi) (hg:∀C s H fp,PG (Zu X c N' C s H fp) tg g) (ht:∀C s H fp,PTs (Zu X c N' C s H fp) ifs tc) (hk:∀C s H fp,PE (Zu X c N' C s H fp) kx tk) (he:∀C s H fp,PE (Zu X c N' C s H fp) vx te) (hu:X.A.units+64<cLine)
  (hsw:swapsWith (.DictComp kx vx [⟨tg,iter,ifs,0⟩] c pos) (some (.Name x pos')) spos.line X.env=pure true)
  (hs:∀x,foldedSetIterable iter X.env x=pure x:=by intro _;rfl) (hf:X.fn x=true∨X.env.scope.names.lookup x=some .local:=by first|exact .inl rfl|exact .inr rfl|assumption) :
  PS X (.Assign [.Name x pos'] (.DictComp kx vx [⟨tg,iter,ifs,0⟩] c pos) spos) (ZkS (ZgL (N'.length-N.length) wi g tc tk te) (ZfF i)):=by
 intro pins s σ H D I h
 rw[exec_Assign_Name_used _ _ _ _ hsw]
 refine wpAny_bind (wpAny_standAt (wpAny_bind ?_))
 show wpAny _ X.A (do let _ ← comprehension (.DictComp kx vx [⟨tg,iter,ifs,0⟩] c pos) c X.env _ newDict false (eval iter X.env) (some (assign (.Name x pos') X.env))) _ _ s
 refine wpAny_bind (thn (ZeI (QQ:=fun _ s'=>SP X pins D .next s') (use:=some (assign (.Name x pos') X.env)) S hN ho hc hi hg ht hk he hu hs I h ?_) fun _ s' hq=>wpAny_pure (wpAny_pure hq))
 intro L C s5 H5 m I5 hCn hn n1 n2 n3 n4 q
 show wpAny _ X.A (assign (.Name x pos') X.env (.ref L)) _ _ _
 refine wpAny_assign_Name (Zdl (v:=.ref L) I5 hnd hx hl rfl (?_) hf)
 rintro s6 I6 ⟨a,hsb,ha⟩
 have nCa:C≠a:=by
  rcases ha with z|z
  ·rw[z];exact n1
  ·exact(n3 x a z).symm
 exact⟨m,hn.sameBut hsb nCa,fun h' hsb'=>⟨_,H5,I6.let hCn n1 n2 n3 n4 hsb',q⟩⟩
end
section
variable {κ:Type} [DecidableEq κ]
end
section
variable {P:Program} {w:World} {H:Hp} {h:Heap} {a:Addr}
end
section
variable {X:Cx} {pins:List (Addr×Obj)} {σ:St} {H:Hp} {s:Shared} {a:Addr} {y v:V} {u r:Value} {o:Option V} {A:Around} {E:Value→Shared→Prop}
theorem Inv.big(I:Inv X pins σ H s):sysModules<s.heap.objs.size:=by
 have h:mainGlobals<s.heap.objs.size:=(I.mod.glob.keeps I.bk).lt
 exact QaX (by decide) h
end
section
variable {X:Cx} {pins:List (Addr×Obj)} {σ:St} {H:Hp} {s:Shared} {a:Addr} {kvs:List (Key×V)} {k:Key} {u:Value} {A:Around} {E:Value→Shared→Prop}
end
section
variable {X:Cx} {o i e value:Expr} {pos pos' tpos:Pos} {td ty tv:TE}
end
section
variable {X:Cx} {pos:Pos}
end
structure M1 (X:Cx) (o:Expr) (m:Str) (apos:Pos) (e:Expr) (cpos:Pos):Prop where
 base:attributeBase o m X.env (eval o X.env)=eval o X.env
 few:((backTo cpos (starEach [e] X.env)).all (fun x=>!x.1)&&(backToKw cpos (keywordEach [] X.env)).all (fun x=>x.1.isSome)
  && decide (([e]:List Expr).length+([]:List Keyword).length+(if ([]:List Keyword).isEmpty then 0 else 1)<30))=true
 line:(apos.endLine == cpos.line)=true
 trees:backTo cpos (starEach [e] X.env)=[(false,eval e X.env)]
structure M2 (X:Cx) (o:Expr) (m:Str) (apos:Pos) (e f:Expr) (cpos:Pos):Prop where
 base:attributeBase o m X.env (eval o X.env)=eval o X.env
 few:((backTo cpos (starEach [e,f] X.env)).all (fun x=>!x.1)&&(backToKw cpos (keywordEach [] X.env)).all (fun x=>x.1.isSome)
  && decide (([e,f]:List Expr).length+([]:List Keyword).length+(if ([]:List Keyword).isEmpty then 0 else 1)<30))=true
 line:(apos.endLine == cpos.line)=true
 trees:backTo cpos (starEach [e,f] X.env)=[(false,eval e X.env),(false,eval f X.env)]
def IsD(H:Hp)(a:Addr):Prop:=(∃kvs,Rd H a (.dK kvs))∨∃kvs,Rd H a (.dT kvs)
section
variable {X:Cx} {pins:List (Addr×Obj)} {σ:St} {H:Hp} {s:Shared} {a:Addr} {y d:V} {u r:Value} {o:Option V} {A:Around} {E:Value→Shared→Prop}
end
section
variable {X:Cx} {o e f:Expr} {apos cpos:Pos} {td ty tx:TE}
end
section
variable {X:Cx} {pins:List (Addr×Obj)} {σ:St} {H:Hp} {s:Shared} {a:Addr} {kvs:List (Key×V)} {A:Around} {E:Value→Shared→Prop}
end
section
variable {X:Cx} {pins:List (Addr×Obj)} {σ:St} {H:Hp} {s:Shared} {a:Addr} {y:V} {u:Value} {A:Around} {E:Value→Shared→Prop}
end
section
variable {X:Cx}
end
section
variable {κ:Type} [DecidableEq κ]
end
structure Mf (P:Program) (w:World) (K:PySem.W.Frag) (mg:Str→Option Value) (base:Heap) (k:Nat) (C:Addr) (m:Str) (ps:List Str) (sp:Sp):Prop where
 ex:∃f fd,ZdQ P w K mg base CX0 k f fd ps sp∧Zm9 K C m f∧Zcn K fd ps []
structure Cf (P:Program) (w:World) (K:PySem.W.Frag) (mg:Str→Option Value) (base:Heap) (k:Nat) (C:Addr) (x:Str) (ps:List Str) (sp:Sp):Prop where
 ex:∃f fd,ZdQ P w K mg base CX0 k f fd ps sp∧Mk K C f∧Zcn K fd ps []∧mg x=some (.ref C)
structure TopM (K:PySem.W.Frag) (C:Addr) (m qual:Str) (st:Stmt) (ps:List Str):Prop where
 ex:∃f fd,Fun K m qual st f fd∧Zm9 K C m f∧Zcn K fd ps []
structure TopI (K:PySem.W.Frag) (mg:Str→Option Value) (C:Addr) (x qual:Str) (st:Stmt) (ps:List Str):Prop where
 ex:∃f fd,Fun K "__init__" qual st f fd∧Mk K C f∧Zcn K fd ps []∧mg x=some (.ref C)
section
variable {P:Program} {w:World} {K:PySem.W.Frag} {mg:Str→Option Value} {base:Heap}
end
section
variable {X:Cx} {k j:Nat} {C:Addr} {m x:Str} {ps:List Str} {sp:Sp} {o e:Expr} {es:List Expr} {ta:TE} {t:TA} {p apos pos:Pos} {pl:Sem Bool}
end
section
variable {X:Cx} {pins:List (Addr×Obj)} {σ:St} {H:Hp} {s:Shared} {d:Addr} {o:Obj} {u:HO}
theorem Inv.freeze(I:Inv X pins σ H s)(e:H d=some u)(mu:Mut (some u))(ho:s.heap.get? d=some o):Inv X pins σ (upd H d (.frz o u)) s:=by
 have h:=I.write (x:=d) (e:=d) (o:=.frz o u) (t':=s.toks) (h':=s.heap) (by rw[e];exact mu) (.inl rfl) (fun b v _ q=>q) ⟨o,ho⟩ ?_
 ·exact h
 ·refine⟨ho,(I.hok d u e).stay (fun b v _ q=>q) (fun b q=>?_) (fun b xs q=>?_)⟩
  ·rw[Zj (fun z=>by rw[z,e]at q;cases q;exact mu)];exact q
  ·rw[Zj (fun z=>by rw[z,e]at q;cases q;exact mu)];exact q
theorem Inv.nofrz(I:Inv X pins σ H s)(e:H d=some u)(mu:Mut (some u)):∀o' u',X.H₀ d≠some (.frz o' u'):=fun o' u' z=>by
 have:=I.base.frzs d o' u' z
 rw[e]at this
 cases this
 exact mu
theorem Inv.thaw(I:Inv X pins σ H s)(e:H d=some (.frz o u))(mu:Mut (some u))(n:∀o' u',X.H₀ d≠some (.frz o' u')):Inv X pins σ (upd H d u) s:=by
 have hne:∀b,H b=none→b≠d:=fun b z=>Zg (H:=H) e z |>.symm
 refine⟨I.ok,I.os,I.bare,⟨I.base.keep,I.base.slot,fun b v a1 a2 a3=>?_,I.base.there,fun b xs q=>?_,fun b o' u' q=>?_,fun b ps q=>?_⟩,I.loc,I.cell,?_,fun x c q=>?_,fun p hp=>?_,?_,I.len⟩
 ·have:=I.base.free b v a1 a2 a3
  rw[Zj (hne b this)];exact this
 ·have:=I.base.tups b xs q
  rw[Zj (fun z=>by rw[z,e]at this;cases this)];exact this
 ·have:=I.base.frzs b o' u' q
  rw[Zj (fun z=>by rw[z]at q;exact n o' u' q)];exact this
 ·obtain⟨more,this⟩:=I.base.tbls b ps q
  refine⟨more,?_⟩
  rw[Zj (fun z=>by rw[z,e]at this;cases this)];exact this
 ·rw[Zj (hne _ I.free)];exact I.free
 ·rw[Zj (hne _ (I.freeC x c q))];exact I.freeC x c q
 ·obtain⟨a1,a2,a3⟩:=I.pin p hp
  exact⟨a1,by rw[Zj (hne _ a2)];exact a2,a3⟩
 ·intro b v q
  have own:∀c a,H c=some (.own a)→(upd H d u) c=some (.own a):=fun c a q=>by rw[Zj (fun z=>by rw[z,e]at q;cases q)];exact q
  have tup:∀c xs,H c=some (.tup xs)→(upd H d u) c=some (.tup xs):=fun c xs q=>by rw[Zj (fun z=>by rw[z,e]at q;cases q)];exact q
  by_cases hb:b=d
  ·subst hb
   rw[Zb]at q
   cases q
   obtain⟨_,h2⟩:=(show Z7 X.prog X.w H s.heap b (.frz o u) from I.hok b _ e)
   exact h2.stay (fun c v _ q=>q) (fun c q=>own c b q) tup
  ·rw[Zj hb]at q
   exact(I.hok b v q).stay (fun c v _ q=>q) (fun c q=>own c b q) tup
end
def ZmT(t:TE):TE:=fun σ H Q=>∃d u,H d=some u∧Mut (some u)∧t σ H fun v H'=>∃o,H' d=some (.frz o u)∧Q v (upd H' d u)
theorem Zlj{X:Cx}{e:Expr}{t:TE}(h:PE X e t):PE X e (ZmT t):=by
 intro pins s σ H Q I q
 obtain⟨d,u,e1,mu,q⟩:=q
 have n:=I.nofrz e1 mu
 refine thn (h pins s σ H _ I q) ?_
 rintro v s1 ⟨x,H1,I1,r1,o,e2,q1⟩
 exact⟨x,_,I1.thaw e2 mu n,r1,q1⟩
end L2
namespace L2
open PySem PySem.Spec PyProof.Rows
end L2
namespace L2
open PySem PySem.Spec PyProof.Rows
section
variable {X:Cx} {N N':List Str} {o c:Scope}
end
section
variable {X:Cx}
end
theorem Zdo:typeLookup (.type "list") "keys" = pure none:=by rw[typeLookup_type,builtinLookup_eq_fast];kernel_rfl
theorem getAttr?_keys_list{prog:Program}{w:World}{A:Around}{E:Value→Shared→Prop}{s:Shared}{a:Addr}{o:Obj}{xs:Array Value}{k:Nat}{Q:Option Value→Shared→Prop}
  (hx:s.heap.get? a=some o) (hc:o.cls=.type "list") (hdat:o.data=.seq xs k) (hd:o.dict=none) (hA:A.handled=none)
  (h:∀h' tk e,Heap.NewExcOf s.heap h' e "AttributeError"→Q none { s with heap:=h',toks:=tk }) :
  wpAny (model prog w) A (getAttr? (.ref a) "keys") Q E s:=by
 obtain⟨c,dct,dat,sl⟩:=o
 simp only at hc hdat hd
 subst hc hdat hd
 obtain⟨hp,g,d,tk,os⟩:=s
 have hT:∀tk',(⟨hp,g,d,tk',os⟩:Shared).TypeIs (.ref a) "list":=fun _=>⟨_,hx,rfl⟩
 have f1:=sub_AttributeError
 have f3:=F.slot_list_getattribute.lookup
 have f4:=F.slot_list_getattribute.bind (.ref a)
 have f5:=am_list_getattr_none
 unfold getAttr? getAttrBy? getAttrBy
 repeat (any_goals (first|assumption|exact hT _|((with_reducible show wpAny _ _ (call (Value.builtin "list.__getattribute__") _ _) _ _ _);refine call_meets F.slot_list_getattribute (hT _) am_entry_list_getattribute (F.args_list_getattribute_2 _ _) (meets_getattribute_miss_list a xs k sl "keys" _ Zdo (by decide) (by size_fits)) ⟨hx,hA,fun h' tk' e hx'=>?_⟩)|wp_step))
 obtain⟨t',u',he⟩:=hx'.there
 show wpAny _ _ (getattributeRaised _ _ _ _ _ _ _) _ _ _
 unfold getattributeRaised
 repeat (any_goals (first|assumption|wp_step))
 exact h _ _ _ hx'.of
theorem ZaN:entryFor table "dict.update.loop" = some Builtin.«dict.update.loop»:=entryFor_of_tree (by kernel_rfl)
theorem ZW:plainId "dict.update.loop" = true:=by ac_rfl
section
variable {prog:Program} {w:World} {A:Around} {R:Result→Shared→Prop} {I:Addr} {fp wr:List Addr} {G:Array GenState→Array GenState→Prop} {n:Nat} {P:Nat→Value→Prop} {St:Nat→Shared→Prop} {K:Type} [DecidableEq K] {knd:KeyKind prog w K}
end
section
variable {prog:Program} {w:World} {A:Around} {E:Value→Shared→Prop} {s:Shared} {K:Type} [DecidableEq K] {knd:KeyKind prog w K}
end
section
variable {X:Cx} {k:Nat}
end
mutual
inductive DH (H:Hp):V→PyData→Prop where
 | non:DH H .non .none
 | bl (b:Bool):DH H (.bl b) (.bool b)
 | int (i:Int):DH H (.int i) (.int i)
 | str (s:Str):DH H (.str s) (.str s)
 | lst {a:Addr} {xs:List V} {ds:List PyData}:H a=some (.lst xs)→DHs H xs ds→DH H (.ref a) (.list ds)
 | tup {a:Addr} {xs:List V} {ds:List PyData}:H a=some (.tup xs)→DHs H xs ds→DH H (.ref a) (.tuple ds)
inductive DHs (H:Hp):List V→List PyData→Prop where
 | nil:DHs H [] []
 | cons {x:V} {d:PyData} {xs:List V} {ds:List PyData}:DH H x d→DHs H xs ds→DHs H (x::xs) (d::ds)
end
mutual
theorem DH.mono{H H':Hp}(s:Zn H H'):∀ {x:V} {d:PyData},DH H x d→DH H' x d
 | _,_,.non=>.non
 | _,_,.bl b=>.bl b
 | _,_,.int i=>.int i
 | _,_,.str z=>.str z
 | _,_,.lst h hs=>.lst (s _ _ h) (DHs.mono s hs)
 | _,_,.tup h hs=>.tup (s _ _ h) (DHs.mono s hs)
theorem DHs.mono{H H':Hp}(s:Zn H H'):∀ {xs:List V} {ds:List PyData},DHs H xs ds→DHs H' xs ds
 | _,_,.nil=>.nil
 | _,_,.cons h hs=>.cons (DH.mono s h) (DHs.mono s hs)
end
mutual
theorem DH.dv{K:PySem.W.Frag}{H:Hp}:∀ {x:V} {d:PyData},DH H x d→DV K H x d
 | _,_,.non=>.non
 | _,_,.bl b=>.bl b
 | _,_,.int i=>.int i
 | _,_,.str z=>.str z
 | _,_,.lst h hs=>.lst (SqL.of h) (DHs.dv hs)
 | _,_,.tup h hs=>.tup (SqT.of h) (DHs.dv hs)
theorem DHs.dv{K:PySem.W.Frag}{H:Hp}:∀ {xs:List V} {ds:List PyData},DHs H xs ds→DVs K H xs ds
 | _,_,.nil=>.nil
 | _,_,.cons h hs=>.cons (DH.dv h) (DHs.dv hs)
end
theorem DHs.length{H:Hp}:∀ {xs:List V} {ds:List PyData},DHs H xs ds→xs.length=ds.length
 | _,_,.nil=>rfl
 | _,_,.cons _ hs=>by rw[QE,QE,hs.length]
theorem DHs.get{H:Hp}:∀ {xs:List V} {ds:List PyData},DHs H xs ds→∀ {i:Nat} {x:V},xs[i]? = some x→∃d,ds[i]? = some d∧DH H x d
 | _,_,.nil,i,x,h=>by simp at h
 | _,_,.cons hd _,0,x,h=>by
  simp only[List.getElem?_cons_zero,Option.some.injEq]at h
  subst h
  exact⟨_,rfl,hd⟩
 | _,_,.cons _ hs,i+1,x,h=>by
  obtain⟨d,e,hd⟩:=hs.get (i:=i) (by simpa using h)
  exact⟨d,by simpa using e,hd⟩
theorem DHs.app{H:Hp}:∀ {xs ys:List V} {ds es:List PyData},DHs H xs ds→DHs H ys es→DHs H (xs++ys) (ds++es)
 | _,_,_,_,.nil,h=>h
 | _,_,_,_,.cons a b,h=>.cons a (b.app h)
theorem DHs.take{H:Hp}:∀ {xs:List V} {ds:List PyData},DHs H xs ds→∀i,DHs H (xs.take i) (ds.take i)
 | _,_,.nil,i=>by rw[List.take_nil,List.take_nil];exact .nil
 | _,_,.cons a b,0=>.nil
 | _,_,.cons a b,i+1=>.cons a (b.take i)
theorem DHs.drop{H:Hp}:∀ {xs:List V} {ds:List PyData},DHs H xs ds→∀i,DHs H (xs.drop i) (ds.drop i)
 | _,_,.nil,i=>by rw[List.drop_nil,List.drop_nil];exact .nil
 | _,_,.cons a b,0=>.cons a b
 | _,_,.cons a b,i+1=>b.drop i
def tyD:PyData→String
 | .none => "NoneType"
 | .bool _ => "bool"
 | .int _ => "int"
 | .str _ => "str"
 | .tuple _ => "tuple"
 | _ => "list"
def ZJ:PyData→Bool
 | .int _=>true
 | _=>false
def Zcc:PyData→Bool
 | .bool _=>true
 | _=>false
def Zfg:PyData→Bool
 | .list _=>true
 | _=>false
def ZcP:PyData→Bool
 | .tuple _=>true
 | _=>false
theorem DH.ty{K:PySem.W.Frag}{H:Hp}{x:V}{d:PyData}(h:DH H x d):Zdj K H x (.type (tyD d)):=by
 cases h with
 | non=>exact .non
 | bl b=>exact .bl b
 | int i=>exact .int i
 | str z=>exact .str z
 | lst h _=>exact .lst h
 | tup h _=>exact .tup h
section
open PySem.W
theorem DH.kL{H:Hp}{x:V}{d:PyData}(h:DH H x d)(K:Frag):kitOne K (.type (tyD d)) (.type "list")=some (Zfg d):=by cases h<;>(unfold kitOne kitCls;rfl)
theorem DH.kT{H:Hp}{x:V}{d:PyData}(h:DH H x d)(K:Frag):kitOne K (.type (tyD d)) (.type "tuple")=some (ZcP d):=by cases h<;>(unfold kitOne kitCls;rfl)
theorem DH.kI{H:Hp}{x:V}{d:PyData}(h:DH H x d)(K:Frag):kitOne K (.type (tyD d)) (.type "int")=some (ZJ d||Zcc d):=by cases h<;>(unfold kitOne kitCls;rfl)
theorem DH.kB{H:Hp}{x:V}{d:PyData}(h:DH H x d)(K:Frag):kitOne K (.type (tyD d)) (.type "bool")=some (Zcc d):=by cases h<;>(unfold kitOne kitCls;rfl)
end
theorem DH.lst_inv{H:Hp}{x:V}{d:PyData}(h:DH H x d)(e:Zfg d=true):∃a xs ds,x=.ref a∧d=.list ds∧H a=some (.lst xs)∧DHs H xs ds:=by
 cases h with
 | lst h hs=>exact⟨_,_,_,rfl,rfl,h,hs⟩
 | non=>cases e
 | bl b=>cases e
 | int i=>cases e
 | str z=>cases e
 | tup h hs=>cases e
theorem DH.tup_inv{H:Hp}{x:V}{d:PyData}(h:DH H x d)(e:ZcP d=true):∃a xs ds,x=.ref a∧d=.tuple ds∧H a=some (.tup xs)∧DHs H xs ds:=by
 cases h with
 | tup h hs=>exact⟨_,_,_,rfl,rfl,h,hs⟩
 | non=>cases e
 | bl b=>cases e
 | int i=>cases e
 | str z=>cases e
 | lst h hs=>cases e
theorem DH.int_inv{H:Hp}{x:V}{d:PyData}(h:DH H x d)(e:ZJ d=true):∃i,x=.int i∧d=.int i:=by
 cases h with
 | int i=>exact⟨_,rfl,rfl⟩
 | non=>cases e
 | bl b=>cases e
 | tup h hs=>cases e
 | str z=>cases e
 | lst h hs=>cases e
end L2
namespace L2
open PySem PySem.Spec PyProof.Rows
def off(p:Addr)(H:Hp):Hp:=fun b=>if b=p then none else H b
theorem ZbH{p b:Addr}{H:Hp}{o:HO}(h:H b=some o)(n:b≠p):off p H b=some o:=by unfold off;rw[if_neg n];exact h
theorem Zfk{p:Addr}{H:Hp}:Zn (off p H) H:=fun b o h=>by
 unfold off at h
 split at h
 ·cases h
 ·exact h
theorem Zbb{p:Addr}{H H':Hp}(B:∀b o,H b=some o→b≠p→H' b=some o):Zn (off p H) (off p H'):=fun b o h=>by
 unfold off at h ⊢
 split at h
 ·cases h
 ·rw[if_neg (by assumption)];exact B b o h (by assumption)
theorem Zj7{p:Addr}{H H':Hp}(s:Zn H H'):Zn (off p H) (off p H'):=Zbb fun b o h _=>s b o h
theorem DH.on{p:Addr}{H:Hp}{x:V}{d:PyData}(h:DH (off p H) x d):DH H x d:=h.mono Zfk
section
variable {prog:Program} {w:World} {A:Around} {R:Result→Shared→Prop} {I:Addr} {fp wr:List Addr} {G:Array GenState→Array GenState→Prop} {n:Nat} {P:Nat→Value→Prop} {St:Nat→Shared→Prop} {K:Type} [DecidableEq K] {knd:KeyKind prog w K}
end
end L2
namespace L2
open PySem PySem.Spec PyProof.Rows
section
variable {prog:Program} {w:World} {A:Around} {E:Value→Shared→Prop} {s:Shared} {l:Addr} {xs:Array (Int×Tok)}
end
section
variable {X:Cx}
end
section
variable {X:Cx}
end
def ZnL(t u:TS):TS:=fun D σ H=>∃M:St→Hp→Prop,t { D with nx:=M } σ H∧∀σ' H',M σ' H'→u D σ' H'
theorem Zle{X:Cx}{st:Stmt}{rest:List Stmt}{t u:TS}(h1:PS X st t)(h2:PSs X rest u):PSs X (st::rest) (ZnL t u):=by
 intro pins s σ H D I h
 obtain⟨M,h,hm⟩:=h
 refine wpAny_execs_cons (thn (h1 pins s σ H { D with nx:=M } I h) fun f s1 q=>?_)
 cases f with
 | next =>
  obtain⟨σ',H',I',q⟩:=q
  exact h2 pins s1 σ' H' D I' (hm σ' H' q)
 | ret v=>exact q
 | brk=>exact q
 | cont=>exact q
section
variable {prog:Program} {w:World} {A:Around} {E:Value→Shared→Prop} {s:Shared} {K:Type} [DecidableEq K] {knd:KeyKind prog w K}
end
section
variable {prog:Program} {w:World} {A:Around} {E:Value→Shared→Prop} {s:Shared} {K:Type} [DecidableEq K] {knd:HeapKind prog w K}
end
def apart:List Int→Bool
 | []=>true
 | x::r=>r.all (fun y=>x != y)&&apart r
structure CompScC (N N':List Str) (o c:Scope):Prop where
 kind:c.kind=.function
 okind:o.kind=.function
 cel:∀y∈c.names,y.2=.cell→c.names.lookup y.1=some .cell
 loc:∀y∈c.names,y.2=.local→c.names.lookup y.1=some .local
 free:∀y∈c.names,y.2=.free→c.names.lookup y.1=some .free∧(o.names.lookup y.1=some .cell∨o.names.lookup y.1=some .free)
 len:N.length≤N'.length
 same:∀i∈List.range N.length,∀x∈N'[i]?,c.names.lookup x=some .local∨c.names.lookup x=some .free∨c.names.lookup x=some .cell→c.names.lookup x=some .free∧N[i]? = some x
 nd:N'.Nodup
section
variable {X:Cx} {N N':List Str} {o c:Scope}
variable {x:Str} {pos:Pos} {C:Addr} {s:Shared} {H:Hp} {fp:List Addr}
end
section
variable {prog:Program} {w:World} {A:Around} {E:Value→Shared→Prop} {s:Shared}
end
section
variable {prog:Program} {w:World} {A:Around} {R:Result→Shared→Prop} {I:Addr} {fp wr:List Addr} {G:Array GenState→Array GenState→Prop} {n:Nat} {P:Nat→Value→Prop} {St:Nat→Shared→Prop}
variable {K:Type} [DecidableEq K] {knd:KeyKind prog w K}
theorem ZdW{h h':Heap}{ks:List K}{a:Addr}(x:(tupleKind knd).is h ks a)(k:∀o,h.get? a=some o→h'.get? a=some o):(tupleKind knd).is h' ks a:=by
 obtain⟨o,it,m,e,r⟩:=x
 exact⟨o,it,m,k _ e,r⟩
theorem ZgT{xs:List (List K×Addr×Value)}(nd:(xs.map (·.1)).Nodup){i:Nat}{x:List K×Addr×Value}(h:xs[i]? = some x):atKey (xs.take i) x.1=none:=by
 unfold atKey
 have:(xs.take i).find? (fun y=>decide (y.1=x.1))=none:=List.find?_eq_none.mpr fun y hy=>by
  obtain⟨j,hj,e⟩:=Q9.mp hy
  have hj':j<i∧j<xs.length:=by rw[Qu]at hj;omega
  rw[Qae]at e
  obtain⟨hi,e2⟩:=Qn.mp h
  have:=Qaj.mp nd j i (by rw[Qb];omega) (by rw[Qb];omega) hj'.1
  rw[List.getElem_map,List.getElem_map,e,e2]at this
  simpa using this
 rw[this];rfl
theorem ZgZ(W:WalksS prog w A.in1 I fp wr G n P St)(hu:A.in1.units<cLine)(D:Addr)(hDf:D ∉ fp)(xs:List (List K×Addr×Value))(hn:xs.length=n)(nd:(xs.map (·.1)).Nodup)(As:Nat→Addr)(hAs:∀j,j<n→As j≠D∧As j ∉ wr)(hKs:∀x∈xs,x.2.1≠D∧x.2.1 ∉ wr)
  (hval:∀i v,P i v→v=.ref (As i)) (hsz:n≤sizeLine) :
  ∀ (k i:Nat) (z:Int) (s:Shared),n-i=k→i≤n→St i s→s.heap.DictOfH (tupleKind knd) D (xs.take i) →
   (∀j (hj:j<n),IsTup s.heap (As j) #[.ref (xs[j]'(hn ▸ hj)).2.1,(xs[j]'(hn ▸ hj)).2.2])→(∀x∈xs,(tupleKind knd).is s.heap x.1 x.2.1) →
   (∀s',Moved (D::wr) G s s'→s'.heap.DictOfH (tupleKind knd) D xs→R (.ok (.ret .none)) s') →
   codeAny (model prog w) A (.builtin "dict.update.loop" ⟨[.ref D,.ref I,rawInt z,.none],[]⟩) R s:=by
 have hDw:D ∉ wr:=fun h=>hDf (W.sub _ h)
 have hsub:∀b∈wr,b∈D::wr:=fun b hb=>Qi _ hb
 intro k
 induction k with
 | zero =>
  intro i z s hk hi hst hS hT hK hR
  have hin:i=n:=by omega
  subst hin
  refine codeAny_builtin ZaN ?_
  rw[Around.under_plainId ZW _]
  show wpAny _ A.in1 (pyNext (.ref I) >>= _) _ _ s
  refine wpAny_bind (W.done s _ _ hst fun s' hm=>?_)
  show wpAny _ A.in1 (Builtin.Dict.addKeywords D [] >>= fun _=>ret Value.none) _ _ s'
  refine wpAny_bind (wpAny_pure (wpAny_pure (hR s' (hm.mono hsub) ?_)))
  rw[Qq (by omega)]at hS
  obtain⟨o,es,ep,ho,r1,r2,r3,r4,r5⟩:=hS
  exact⟨o,es,ep,hm.heap D _ hDw ho,r1,r2,r3,fun x hx=>ZdW (r4 x hx) fun o e=>hm.heap _ _ (hKs x hx).2 e,r5⟩
 | succ k ih =>
  intro i z s hk hi hst hS hT hK hR
  have hlt:i<n:=by omega
  refine codeAny_builtin ZaN ?_
  rw[Around.under_plainId ZW _]
  show wpAny _ A.in1 (pyNext (.ref I) >>= _) _ _ s
  refine wpAny_bind (W.item i s _ _ hlt hst fun v s' hP hst' hm=>?_)
  have ev:=hval i v hP
  subst ev
  have hix:xs[i]? = some (xs[i]'(hn ▸ hlt)):=Qc _
  have ht:=hT i hlt
  generalize xs[i]'(hn ▸ hlt)=x at hix ht
  have hxm:x∈xs:=QA hix
  have ht':IsTup s'.heap (As i) #[.ref x.2.1,x.2.2]:=by
   obtain⟨o,ho,r⟩:=ht
   exact⟨o,hm.heap _ _ (hAs i hlt).2 ho,r⟩
  have hK':∀x∈xs,(tupleKind knd).is s'.heap x.1 x.2.1:=fun x hx=>ZdW (hK x hx) fun o e=>hm.heap _ _ (hKs x hx).2 e
  have hS':s'.heap.DictOfH (tupleKind knd) D (xs.take i):=by
   obtain⟨o,es,ep,ho,r1,r2,r3,r4,r5⟩:=hS
   exact⟨o,es,ep,hm.heap D _ hDw ho,r1,r2,r3,fun x hx=>hK' x (Qac hx),r5⟩
  show wpAny _ A.in1 (holding [Value.ref (As i)] _ >>= _) _ _ s'
  refine wpAny_bind (wpAny_holding ?_)
  obtain⟨ot,hot,hct,nt,hdt⟩:=id ht'
  refine wpAny_bind ?_
  have hpair:wpAny (model prog w) A.in1 (Builtin.Dict.pairItems (Value.ref (As i))) (fun p s2=>p=[.ref x.2.1,x.2.2]∧s2=s') (fun e s'=>False) s':=by
   unfold Builtin.Dict.pairItems
   refine wpAny_bind (wpAny_typeOf (T := "tuple") ⟨ot,hot,hct⟩ ?_)
   rw[if_pos (by decide)]
   exact wpAny_bind (wpAny_seqItems hot hdt (wpAny_pure ⟨rfl,rfl⟩))
  refine wpAny_tryCatch (wpAny_mono hpair (fun p s2 h2=>?_) fun _ _ z=>z.elim)
  obtain⟨rfl,rfl⟩:=h2
  refine wpAny_holding (wpAny_dictSet_heap (knd:=tupleKind knd) (k:=x.1) hu (hK' x hxm) hS' (fun h' hd' hs=>?_) (by rw[Qu];omega))
  rw[storedH_new (ZgT nd hix)]at hd'
  have hd2:h'.DictOfH (tupleKind knd) D (xs.take (i+1)):=by
   rw[Qw,hix]
   exact hd'
  have kp:∀b o,b≠D→s2.heap.get? b=some o→h'.get? b=some o:=fun b o hb e=>by rw[hs.2 b hb];exact e
  refine wpAny_pure ⟨plainId_quiet ZW _,ih (i+1) (z+1) _ (by omega) hlt (W.frame _ s2 _ _ hst' (Qaw _ _) fun b hb o e=>kp b o (fun h:b=D=>hDf (by rw[← h];exact hb)) e) hd2 (fun j hj=>?_) (fun y hy=>ZdW (hK' y hy) fun o e=>kp _ _ (hKs y hy).1 e) fun s'' hm'' hS''=>?_⟩
  ·obtain⟨o,ho,r⟩:=hT j hj
   exact⟨o,kp _ _ (hAs j hj).1 (hm.heap _ _ (hAs j hj).2 ho),r⟩
  ·refine hR s'' (Moved.trans W.gtrans ((hm.mono hsub).then_heap (Qaw _ _) fun b o hb e=>?_) hm'') hS''
   exact kp b o (fun h:b=D=>hb (by rw[h];exact Qp)) e
end
section
variable {prog:Program} {w:World} {A:Around} {E:Value→Shared→Prop} {s:Shared} {K:Type} [DecidableEq K] {knd:KeyKind prog w K}
theorem ZdP{l:Addr}{items:Array Value}{xs:List (List K×Addr×Value)}{As:Nat→Addr}{Q:Value→Shared→Prop}(hh:A.handled=none)(hu:A.in1.in1.units<cLine)(hl:PlainL s.heap l items)(hn:xs.length=items.size)(hsz:items.size≤sizeLine)(nd:(xs.map (·.1)).Nodup)
  (hval:∀ (i:Nat) (v:Value),items[i]? = some v→v=.ref (As i)) (ht:∀j (hj:j<items.size),IsTup s.heap (As j) #[.ref (xs[j]'(hn ▸ hj)).2.1,(xs[j]'(hn ▸ hj)).2.2]) (hK:∀x∈xs,(tupleKind knd).is s.heap x.1 x.2.1)
  (h:∀h' tk,h'.DictOfH (tupleKind knd) s.heap.objs.size xs→(∀b o,s.heap.get? b=some o→h'.get? b=some o)→Q (.ref s.heap.objs.size) { s with heap:=h',toks:=tk }) :
  wpAny (model prog w) A (call (.type "dict") [.ref l]) Q E s:=by
 refine callType_codes (Q₁:=fun obj s₁=>obj=.ref s.heap.objs.size∧s₁={ s with heap:=s.heap.push { cls:=.type "dict",data:=.dict #[] } }) F.kt_called_dict (F.kt_typeCall_dict_1 _) F.entry_dict_init (kt_code_dict_new _ ⟨rfl,rfl⟩) ?_
 rintro obj s₁ ⟨rfl,rfl⟩
 have hnew:(s.heap.push { cls:=.type "dict",data:=.dict #[] }).DictOfH (tupleKind knd) s.heap.objs.size []:=Heap.DictOfH.new s.heap
 obtain⟨ol,nl,hol,hcl,hdl,hdat⟩:=hl
 have hll:l<s.heap.objs.size:=Qk hol
 have hol':(s.heap.push { cls:=.type "dict",data:=.dict #[] }).get? l=some ol:=Qa _ hol
 refine⟨hnew.typeIs,F.args_dict_init_2 _ _,?_⟩
 unfold Builtin.«dict.__init__»
 refine wpAny_bind ?_
 unfold Builtin.Dict.selfAndRest
 refine wpAny_bind (wpAny_notOrdered_dict hnew.typeIs ?_)
 show wpAny _ _ (pure (s.heap.objs.size,[Value.ref l])) _ _ _
 refine wpAny_pure ?_
 show wpAny _ _ (Builtin.Dict.updateFrom "dict.__init__" s.heap.objs.size (.ref l) [] .none) _ _ _
 unfold Builtin.Dict.updateFrom
 refine wpAny_bind (wpAny_typeOf (T := "list") ⟨ol,hol',hcl⟩ ?_)
 rw[if_pos (by decide)]
 refine wpAny_bind (getAttr?_keys_list hol' hcl hdat hdl (by simp[hh]) fun h1 tk e hx=>?_)
 rw[if_pos (by decide)]
 have kp:∀b o,(s.heap.push { cls:=.type "dict",data:=.dict #[] }).get? b=some o→h1.get? b=some o:=fun b o z=>hx.keeps b o z
 have hl1:h1.IsList l items:=⟨ol,kp _ _ hol',hcl,nl,hdat⟩
 refine wpAny_bind (wpAny_rule (wpAny_bind (wpAny_pyIter_list hl1 ?_)))
 have hDD:s.heap.objs.size<h1.objs.size:=by
  obtain⟨o,es,ep,ho,_⟩:=hnew
  exact Qk (kp _ _ ho)
 have hl1s:l<h1.objs.size:=QaX hll hDD
 have hneI:l≠h1.objs.size:=Qv hl1s
 have hDf:s.heap.objs.size ∉ [h1.objs.size,l]:=by
  simp only[List.mem_cons,List.not_mem_nil,or_false,not_or]
  exact⟨Qv hDD,QY hll⟩
 refine wpAny_pure ⟨plainId_quiet ZW _,?_⟩
 have hh3:A.in1.in1.handled=none:=by simp[hh]
 have k2:∀b o,s.heap.get? b=some o→(h1.push { cls:=.type "list_iterator",data:=.fields #[.ref l,.int 0 0] }).get? b=some o:=fun b o z=>Qa _ (kp b o (Qa _ z))
 have low:∀b,b<s.heap.objs.size→b≠s.heap.objs.size∧b ∉ [h1.objs.size]:=fun b hb=>⟨Qv hb,by
  simp only[List.mem_cons,List.not_mem_nil,or_false]
  exact Qv (QaX hb hDD)⟩
 refine ZgZ (A:=A.in1) (knd:=knd) ((Walks.list hh3 _ l hneI items).toS) hu s.heap.objs.size hDf xs hn nd As (fun j hj=>?_) (fun x hx=>?_) hval hsz (items.size-0) 0 0 _ (by omega) (Ql _)
  ⟨⟨_,Qm _ rfl,rfl,rfl⟩,(hl1.push _)⟩ ?hS0 (fun j hj=>?_) (fun x hx=>?_) ?hR
 ·obtain⟨o,ho,_⟩:=ht j hj
  exact low _ (Qk ho)
 ·obtain⟨o,_,_,ho,_⟩:=hK x hx
  exact low _ (Qk ho)
 case hS0 =>
  obtain⟨o,es,ep,ho,r1,r2,r3,r4,r5⟩:=hnew
  exact⟨o,es,ep,Qa _ (kp _ _ ho),r1,r2,r3,(fun x hx=>nomatch hx),r5⟩
 ·obtain⟨o,ho,r⟩:=ht j hj
  exact⟨o,k2 _ _ ho,r⟩
 ·exact ZdW (hK x hx) fun o e=>k2 _ _ e
 case hR =>
  intro s' hm hS'
  obtain⟨h',g',d',tk',os'⟩:=s'
  have eg:g'=s.gens:=hm.gens
  have ed:d'=s.drawn:=hm.drawn
  have eo:os'=s.os:=hm.os
  subst eg;subst ed;subst eo
  refine⟨rfl,h h' tk' hS' fun b o e=>?_⟩
  have hb:=Qk e
  exact hm.heap b o (by simp only[List.mem_cons,List.not_mem_nil,or_false,not_or];exact⟨Qv hb,Qv (QaX hb hDD)⟩) (k2 b o e)
end
def Zjn(K:PySem.W.Frag):List V→Hp→VK→Prop:=fun xs H Q=>∃ (a:Addr) (ts:List (Addr×Addr×List Key×V)),xs=[.ref a]∧SqL K H a (ts.map fun t=>V.ref t.1)∧(∀t∈ts,H t.1=some (.tup [.ref t.2.1,t.2.2.2])∧H t.2.1=some (.tup (t.2.2.1.map kV)))∧ts.length≤1000∧(ts.map (·.2.2.1)).Nodup ∧
 ∀D,H D=none→Q (.ref D) (upd H D (.dT (ts.map (·.2.2))))
theorem Zec{X:Cx}{pins:List (Addr×Obj)}{σ:St}{H:Hp}{s:Shared}(I:Inv X pins σ H s):∀ (ts:List (Addr×Addr×List Key×V)),(∀t∈ts,H t.1=some (.tup [.ref t.2.1,t.2.2.2])∧H t.2.1=some (.tup (t.2.2.1.map kV))) →
  ∃xs:List (List Key×Addr×Value),ZcG H (ts.map (·.2.2)) xs∧xs.map (·.1)=ts.map (·.2.2.1)∧∀ (j:Nat) (t:Addr×Addr×List Key×V) (x:List Key×Addr×Value),ts[j]? = some t→xs[j]? = some x→IsTup s.heap t.1 #[.ref x.2.1,x.2.2]
 | [],_=>⟨[],.nil,rfl,fun j t kv h _=>by simp at h⟩
 | t::ts,h=>by
  obtain⟨xs,r,em,hk⟩:=Zec I ts fun x hx=>h x (Qi _ hx)
  obtain⟨h1,h2⟩:=h t (by simp)
  obtain⟨its,rv,ht,_⟩:=I.tuple (SqT.of (K:=X.K) h1)
  obtain⟨u,rfl,ru⟩:∃u,its=[.ref t.2.1,u]∧ZK t.2.2.2 u:=by
   cases rv with
   | cons r1 r2 =>
    cases r2 with
    | cons r3 r4 =>
     cases r4
     cases r1
     exact⟨_,rfl,r3⟩
  refine⟨(t.2.2.1,t.2.1,u)::xs,.cons ⟨rfl,h2,ru⟩ r,by rw[QD,QD,em],fun j x kv e1 e2=>?_⟩
  cases j with
  | zero =>
   simp only[List.getElem?_cons_zero,Option.some.injEq]at e1 e2
   subst e1;subst e2
   exact ht
  | succ j=>exact hk j x kv (by simpa using e1) (by simpa using e2)
theorem Zg2{X:Cx}(hc:X.calm=true)(hu:X.A.units+64<cLine):Z3 X (.type "dict") (Zjn X.K):=by
 intro pins s σ H xs us Q I r h
 obtain⟨a,ts,rfl,hS,hT,hn,nd,q⟩:=h
 obtain⟨u,rfl,ru⟩:=Zbq r
 cases ru
 obtain⟨its,rv,pl,_⟩:=I.list hS
 obtain⟨ks,rk,em,hks⟩:=Zec I ts hT
 have h1:ks.length=ts.length:=by have:=congrArg List.length em;simpa using this
 have h2:its.length=ts.length:=by have:=rv.length;simpa using this.symm
 have hat:∀ (i:Nat) (v:Value),its.toArray[i]? = some v→v=.ref ((ts[i]?.map (·.1)).getD 0):=fun i v hv=>by
  have hv':its[i]? = some v:=by simpa using hv
  have hi:i<ts.length:=by rw[← h2];exact(Qn.mp hv').1
  have:=rv.get (i:=i) (x:=.ref ts[i].1) (by rw[Qr,Qc hi];rfl)
  obtain⟨u,hu,ru⟩:=this
  rw[hv']at hu
  cases hu
  cases ru
  rw[Qc hi];rfl
 refine ZdP (knd:=ZN X.prog X.w) (xs:=ks) (As:=fun i=>(ts[i]?.map (·.1)).getD 0) (I.ok.hd hc) (by show X.A.units+1+1<cLine;omega) pl (by rw[Qo];omega) (by rw[Qo,h2];exact Q7 (ZB hn)) (by rw[em];exact nd) hat (fun j hj=>?_) (Zci (R:=fun ks b=>(tupleKind (ZN X.prog X.w)).is s.heap ks b) (fun ks b e=>I.tkey e) rk) fun h' tk hd hk=>?_
 ·have hj':j<ts.length:=by rw[Qo]at hj;omega
  have:=hks j ts[j] (ks[j]'(by omega)) (Qc hj') (Qc _)
  rw[Qc hj']
  exact this
 ·obtain⟨o',es',ep',g1,g2,g3,g4,_,g5⟩:=hd
  have hf:=I.hok.fresh (Qd s.heap.objs.size)
  refine⟨.ref s.heap.objs.size,_,I.laid (a:=s.heap.objs.size) (o:=.dT (ts.map (·.2.2))) (t':=tk) hk (Qd _) ?_,rfl,q _ hf⟩
  refine⟨by rw[Qb];exact Q7 (ZB hn),beq_eq_false_iff_ne.mpr fun z=>Q0 _ (z ▸ I.big),ks,?_,o',es',ep',g1,g2,g3,g4,g5⟩
  refine Zdw (fun c ys ec=>?_) rk
  rw[Zj (Zg ec hf)]
  exact ec
theorem Zm5{X:Cx}(K:PySem.W.Frag){k:Nat}(hr:ZaM k X.A)(hc:X.calm=true:=by rfl)(h:X.K=K:=by rfl):Z3 X (.type "dict") (Zjn K):=by subst h;exact Zg2 hc hr.units
def gallop':Bool→Keyed→Array Keyed→Nat→Nat→Nat→StateT SortSt Sem (Option Nat):=sortPriv% PySem.Builtin.gallop
def Has(κ:PyProof.Rows.KeyKind)(p:Keyed):Prop:=∃a,κ.keyOf p.1=some a
def kyd(κ:PyProof.Rows.KeyKind)(p:Keyed):κ.α:=(κ.keyOf p.1).getD κ.dflt
theorem ZiS{κ:PyProof.Rows.KeyKind}{xs:Array Keyed}{i:Nat}{p:Keyed}(h:xs[i]? = some p):KK κ xs i=kyd κ p:=by unfold KK kyd;rw[h]
def ZkI(left:Bool)(key:Keyed)(arr:Array Keyed)(base i:Nat):StateT SortSt Sem (Option Bool) :=
 elem' arr (base+i) >>= fun x=>if left=true then lt' x key else lt' key x >>= fun r=>pure (r.map (!·))
def gB(κ:PyProof.Rows.KeyKind)(left:Bool)(key p:Keyed):Bool:=if left then κ.blt (kyd κ p) (kyd κ key) else !κ.blt (kyd κ key) (kyd κ p)
section
variable {prog:Program} {w:World} {A:Around} {E:Value→Shared→Prop} {s:Shared} {κ:PyProof.Rows.KeyKind} {k0:SortKind} {a₀:Array Keyed} {st:SortSt}
theorem w_ltp(hL:Zdd prog w A s k0 κ)(hK:kindOf st=k0){p q:Keyed}(hp:Has κ p)(hq:Has κ q){Q:Option Bool→SortSt→Prop}(h:Q (some (κ.blt (kyd κ p) (kyd κ q))) st):wpS (model prog w) A E s (lt' p q) Q st:=by
 obtain⟨a,ha⟩:=hp
 obtain⟨b,hb⟩:=hq
 rw[lt'_eq]
 refine wpS_bind (wpS_get (wpS_bind (wpS_lift (wpAny_attempt ?_))))
 rw[hK]
 unfold kyd at h
 rw[ha,hb]at h
 exact hL _ p.1 q.1 _ _ _ ha hb ⟨rfl,wpS_pure h⟩
theorem w_ask(hL:Zdd prog w A s k0 κ)(hK:kindOf st=k0){left:Bool}{key p:Keyed}{arr:Array Keyed}{base i:Nat}(hkey:Has κ key)(hp:arr[base+i]? = some p)(hq:Has κ p){Q:Option Bool→SortSt→Prop}(q:Q (some (gB κ left key p)) st) :
  wpS (model prog w) A E s (ZkI left key arr base i) Q st:=by
 unfold ZkI
 refine wpS_bind (w_elem hp ?_)
 cases left with
 | true=>rw[if_pos rfl];exact w_ltp hL hK hq hkey q
 | false=>rw[if_neg (by decide)];exact wpS_bind (w_ltp hL hK hkey hq (wpS_pure q))
theorem w_gallop(hL:Zdd prog w A s k0 κ)(hK:kindOf st=k0){left:Bool}{key:Keyed}{arr:Array Keyed}{base n hint:Nat}(hh:hint<n)(hkey:Has κ key){B:Nat→Bool}
  (hB:∀i,i<n→∃p,arr[base+i]? = some p∧Has κ p∧B i=gB κ left key p) (mono:∀i j,i≤j→j<n→B j=true→B i=true)
  {Q:Option Nat→SortSt→Prop} (q:∀h,h≤n→(∀i,i<h→B i=true)→(∀i,h≤i→i<n→B i=false)→Q (some h) st):wpS (model prog w) A E s (gallop' left key arr base n hint) Q st:=by
 have ask:∀ (i:Nat) (Q:Option Bool→SortSt→Prop),i<n→Q (some (B i)) st→wpS (model prog w) A E s (ZkI left key arr base i) Q st:=fun i Q hi h=>by
  obtain⟨p,a,b,c⟩:=hB i hi
  rw[c]at h
  exact w_ask hL hK hkey a b h
 have no:∀i j,i≤j→j<n→B i=false→B j=false:=fun i j h1 h2 h=>by
  cases hb:B j with
  | true=>rw[mono i j h1 h2 hb]at h;cases h
  | false=>rfl
 show wpS _ _ _ _ (ZkI left key arr base hint >>= _) _ _
 refine wpS_bind (ask hint _ hh ?_)
 cases hb:B hint with
 | true =>
  show wpS _ _ _ _ (forIn [:n] (none,0,1) _ >>= _) _ _
  refine wpS_bind (wpS_mono (wpS_forRange (fun i c st'=>∃l o,c=(none,l,o)∧st'=st∧l<o∧l<n-hint∧i+1≤o∧B (hint+l)=true) (Q:=fun c st'=>∃l o,c=(none,l,o)∧st'=st∧l<o∧l<n-hint∧B (hint+l)=true∧(n-hint≤o∨B (hint+o)=false)) ?_ ?_ ⟨0,1,rfl,rfl,by omega,by omega,by omega,hb⟩) ?_)
  ·rintro i c st' _ hi ⟨l,o,rfl,rfl,b1,b2,b3,b4⟩
   show wpS _ _ _ _ (if o≥n-hint then _ else _) _ _
   by_cases e:o≥n-hint
   ·rw[if_pos e]
    exact wpS_pure ⟨l,o,rfl,rfl,b1,b2,b4,.inl e⟩
   ·rw[if_neg e]
    refine wpS_bind (ask _ _ (show hint+o<n by omega) ?_)
    cases hb2:B (hint+o) with
    | true=>exact wpS_pure ⟨o,2*o+1,rfl,rfl,by omega,by omega,by omega,hb2⟩
    | false=>exact wpS_pure ⟨l,o,rfl,rfl,b1,b2,b4,.inr hb2⟩
  ·rintro c st' ⟨l,o,rfl,rfl,b1,b2,b3,b4⟩
   exact⟨l,o,rfl,rfl,b1,b2,b4,.inl (by omega)⟩
  ·rintro c s1 ⟨l,o,rfl,rfl,a1,a2,a3,a4⟩
   have c3:∀i,i<(hint+l+1)→B i=true:=fun i hi=>mono i (hint+l) (by omega) (by omega) a3
   have c4:∀i,(hint+min o (n-hint))≤i→i<n→B i=false:=fun i h1 h2=>a4.elim (fun a4=>by omega) fun a4=>no (hint+o) i (by omega) h2 a4
   show wpS _ _ _ _ (forIn [:n] (none,(hint+l+1),(hint+min o (n-hint))) _ >>= _) _ _
   refine wpS_bind (wpS_forRange (fun i c st'=>∃l h,c=(none,l,h)∧st'=s1∧l≤h∧h≤n∧h-l≤n-i∧(∀i,i<l→B i=true)∧(∀i,h≤i→i<n→B i=false)) ?_ ?_ ⟨_,_,rfl,rfl,by omega,by omega,by omega,c3,c4⟩)
   ·rintro i c st' _ hi ⟨l,h,rfl,rfl,b1,b2,b3,b4,b5⟩
    show wpS _ _ _ _ (if l≥h then _ else _) _ _
    by_cases e:l≥h
    ·rw[if_pos e]
     exact wpS_pure (wpS_pure (q h b2 (fun i hi=>b4 i (by omega)) b5))
    ·rw[if_neg e]
     refine wpS_bind (ask _ _ (show l+(h-l) / 2<n by omega) ?_)
     cases hb:B (l+(h-l) / 2) with
     | true=>exact wpS_pure ⟨l+(h-l) / 2+1,h,rfl,rfl,by omega,b2,by omega,fun i hi=>mono i (l+(h-l) / 2) (by omega) (by omega) hb,b5⟩
     | false=>exact wpS_pure ⟨l,l+(h-l) / 2,rfl,rfl,by omega,by omega,by omega,b4,fun i h1 h2=>no _ i h1 h2 hb⟩
   ·rintro c st' ⟨l,h,rfl,rfl,b1,b2,b3,b4,b5⟩
    exact wpS_pure (q h b2 (fun i hi=>b4 i (by omega)) b5)
 | false =>
  show wpS _ _ _ _ (forIn [:n] (none,0,1) _ >>= _) _ _
  refine wpS_bind (wpS_mono (wpS_forRange (fun i c st'=>∃l o,c=(none,l,o)∧st'=st∧l<o∧l<hint+1∧i+1≤o∧B (hint-l)=false) (Q:=fun c st'=>∃l o,c=(none,l,o)∧st'=st∧l<o∧l<hint+1∧B (hint-l)=false∧(hint+1≤o∨B (hint-o)=true)) ?_ ?_ ⟨0,1,rfl,rfl,by omega,by omega,by omega,hb⟩) ?_)
  ·rintro i c st' _ hi ⟨l,o,rfl,rfl,b1,b2,b3,b4⟩
   show wpS _ _ _ _ (if o≥hint+1 then _ else _) _ _
   by_cases e:o≥hint+1
   ·rw[if_pos e]
    exact wpS_pure ⟨l,o,rfl,rfl,b1,b2,b4,.inl e⟩
   ·rw[if_neg e]
    refine wpS_bind (ask _ _ (show hint-o<n by omega) ?_)
    cases hb2:B (hint-o) with
    | false=>exact wpS_pure ⟨o,2*o+1,rfl,rfl,by omega,by omega,by omega,hb2⟩
    | true=>exact wpS_pure ⟨l,o,rfl,rfl,b1,b2,b4,.inr hb2⟩
  ·rintro c st' ⟨l,o,rfl,rfl,b1,b2,b3,b4⟩
   exact⟨l,o,rfl,rfl,b1,b2,b4,.inl (by omega)⟩
  ·rintro c s1 ⟨l,o,rfl,rfl,a1,a2,a3,a4⟩
   have c3:∀i,i<(hint+1-min o (hint+1))→B i=true:=fun i hi=>a4.elim (fun a4=>by omega) fun a4=>mono i (hint-o) (by omega) (by omega) a4
   have c4:∀i,(hint-l)≤i→i<n→B i=false:=fun i h1 h2=>no (hint-l) i h1 h2 a3
   show wpS _ _ _ _ (forIn [:n] (none,(hint+1-min o (hint+1)),(hint-l)) _ >>= _) _ _
   refine wpS_bind (wpS_forRange (fun i c st'=>∃l h,c=(none,l,h)∧st'=s1∧l≤h∧h≤n∧h-l≤n-i∧(∀i,i<l→B i=true)∧(∀i,h≤i→i<n→B i=false)) ?_ ?_ ⟨_,_,rfl,rfl,by omega,by omega,by omega,c3,c4⟩)
   ·rintro i c st' _ hi ⟨l,h,rfl,rfl,b1,b2,b3,b4,b5⟩
    show wpS _ _ _ _ (if l≥h then _ else _) _ _
    by_cases e:l≥h
    ·rw[if_pos e]
     exact wpS_pure (wpS_pure (q h b2 (fun i hi=>b4 i (by omega)) b5))
    ·rw[if_neg e]
     refine wpS_bind (ask _ _ (show l+(h-l) / 2<n by omega) ?_)
     cases hb:B (l+(h-l) / 2) with
     | true=>exact wpS_pure ⟨l+(h-l) / 2+1,h,rfl,rfl,by omega,b2,by omega,fun i hi=>mono i (l+(h-l) / 2) (by omega) (by omega) hb,b5⟩
     | false=>exact wpS_pure ⟨l,l+(h-l) / 2,rfl,rfl,by omega,by omega,by omega,b4,fun i h1 h2=>no _ i h1 h2 hb⟩
   ·rintro c st' ⟨l,h,rfl,rfl,b1,b2,b3,b4,b5⟩
    exact wpS_pure (q h b2 (fun i hi=>b4 i (by omega)) b5)
end
section
variable {κ:PyProof.Rows.KeyKind}
def kS(κ:PyProof.Rows.KeyKind)(l:List Keyed):Prop:=l.Pairwise fun p q=>κ.kle (kyd κ p) (kyd κ q)
def kLe(κ:PyProof.Rows.KeyKind)(l m:List Keyed):Prop:=∀x∈l,∀y∈m,κ.kle (kyd κ x) (kyd κ y)
theorem ZbG{l m:List Keyed}(a:kS κ l)(b:kS κ m)(c:kLe κ l m):kS κ (l++m):=List.pairwise_append.mpr ⟨a,b,c⟩
theorem Zc7{l l' m:List Keyed}(a:kLe κ l m)(b:kLe κ l' m):kLe κ (l++l') m:=fun x hx y hy=>(Qt.mp hx).elim (fun h=>a x h y hy) fun h=>b x h y hy
theorem Zgo{l m m':List Keyed}(a:kLe κ l m)(b:kLe κ l m'):kLe κ l (m++m'):=fun x hx y hy=>(Qt.mp hy).elim (fun h=>a x hx y h) fun h=>b x hx y h
structure Mg (κ:PyProof.Rows.KeyKind) (all out l m:List Keyed):Prop where
 perm:(out++(l++m)).Perm all
 so:kS κ out
 sl:kS κ l
 sm:kS κ m
 ol:kLe κ out l
 om:kLe κ out m
theorem Mg.swap{all out l m:List Keyed}(M:Mg κ all out l m):Mg κ all out m l:=⟨(QaD _ List.perm_append_comm).trans M.perm,M.so,M.sm,M.sl,M.om,M.ol⟩
theorem Mg.put{all out x l m:List Keyed}(M:Mg κ all out (x++l) m)(h:kLe κ x m):Mg κ all (out++x) l m:=by
 have p:=QaJ.mp M.sl
 refine⟨?_,ZbG M.so p.1 fun a ha b hb=>M.ol a ha b (QO _ hb),p.2.1,M.sm,Zc7 (fun a ha b hb=>M.ol a ha b (Qf _ hb)) p.2.2,Zc7 M.om h⟩
 have:=M.perm
 simpa [List.append_assoc] using this
theorem Mg.fin{all out l m:List Keyed}(M:Mg κ all out l m)(h:kLe κ l m):(out++l++m).Perm all∧kS κ (out++l++m) :=
 ⟨by rw[QG];exact M.perm,ZbG (ZbG M.so M.sl M.ol) M.sm (Zc7 M.om h)⟩
structure Mh (κ:PyProof.Rows.KeyKind) (all l m out:List Keyed):Prop where
 perm:((l++m)++out).Perm all
 so:kS κ out
 sl:kS κ l
 sm:kS κ m
 lo:kLe κ l out
 mo:kLe κ m out
theorem Mh.swap{all out l m:List Keyed}(M:Mh κ all l m out):Mh κ all m l out:=⟨(QaY _ List.perm_append_comm).trans M.perm,M.so,M.sm,M.sl,M.mo,M.lo⟩
theorem Mh.put{all out x l m:List Keyed}(M:Mh κ all m (l++x) out)(h:kLe κ m x):Mh κ all m l (x++out):=by
 have p:=QaJ.mp M.sm
 refine⟨?_,ZbG p.2.1 M.so fun a ha b hb=>M.mo a (Qf _ ha) b hb,M.sl,p.1,Zgo h M.lo,Zgo p.2.2 fun a ha b hb=>M.mo a (QO _ ha) b hb⟩
 have:=M.perm
 simpa [List.append_assoc] using this
theorem Mh.fin{all out l m:List Keyed}(M:Mh κ all l m out)(h:kLe κ l m):(l++m++out).Perm all∧kS κ (l++m++out) :=
 ⟨M.perm,ZbG (ZbG M.sl M.sm h) M.so (Zc7 M.lo M.mo)⟩
theorem ZQ{a:Array Keyed}{i:Nat}(h:i<a.size):a[i]? = some a[i]:=QaM h
theorem ZO{a:Array Keyed}{i:Nat}(h:i<a.size):KK κ a i=kyd κ a[i]:=ZiS (ZQ h)
theorem ZbU{a:Array Keyed}{i:Nat}{y:Keyed}(h:y∈a.toList.drop i):∃j,i≤j∧j<a.size∧kyd κ y=KK κ a j:=by
 obtain⟨j,hj,e⟩:=Q9.mp h
 rw[QN,Qs]at hj
 refine⟨i+j,by omega,by omega,?_⟩
 rw[ZO (by omega),← e,QaG,QU]
theorem Zfz{a:Array Keyed}{i k:Nat}{y:Keyed}(h:y∈(a.toList.drop i).take k):∃j,i≤j∧j<i+k∧j<a.size∧kyd κ y=KK κ a j:=by
 obtain⟨j,hj,e⟩:=Q9.mp h
 rw[Qu,QN,Qs]at hj
 refine⟨i+j,by omega,by omega,by omega,?_⟩
 rw[ZO (by omega),← e,Qae,QaG,QU]
theorem Zbj(a:Array Keyed)(i j:Nat):(a.extract i j).toList=(a.toList.drop i).take (j-i):=by
 rw[Array.toList_extract,List.extract_eq_take_drop]
theorem ZdV(a:Array Keyed)(i:Nat):(a.extract i a.size).toList=a.toList.drop i:=by
 rw[Zbj,Qq (by rw[QN,Qs];exact Qd _)]
theorem Zfa(a:Array Keyed)(j:Nat):(a.extract 0 j).toList=a.toList.take j:=by rw[Zbj,List.drop_zero,Nat.sub_zero]
theorem Zd9{a:Array Keyed}(h:kS κ a.toList):SortedToK κ a a.size:=fun i j hij hj=>by
 rw[ZO (by omega),ZO hj]
 by_cases e:i=j
 ·subst e;exact KeyOrd.kle_refl _
 ·have:=Qaj.mp h i j (by rw[Qs];omega) (by rw[Qs];omega) (by omega)
  simpa using this
theorem drop_one{a:Array Keyed}{i:Nat}(h:i<a.size):a.toList.drop i=[a[i]]++a.toList.drop (i+1):=by
 rw[List.drop_eq_getElem_cons (by rw[Qs];exact h),QU];rfl
theorem ZfS{a:Array Keyed}{i:Nat}(h:i<a.size):a.toList.take (i+1)=a.toList.take i++[a[i]]:=by
 rw[List.take_succ_eq_append_getElem (by rw[Qs];exact h),QU]
theorem ZhU{a:Array Keyed}{i:Nat}(h:a.size≤i):a.toList.drop i=[]:=List.drop_eq_nil_of_le (by rw[Qs];exact h)
theorem ZbV{a:Array Keyed}{i:Nat}{y:Keyed}(h:y∈a.toList.take i):∃j,j<i∧j<a.size∧kyd κ y=KK κ a j:=by
 obtain⟨j,hj,e⟩:=Q9.mp h
 rw[Qu,Qs]at hj
 refine⟨j,by omega,by omega,?_⟩
 rw[ZO (by omega),← e,Qae,QU]
structure Zc6 (κ:PyProof.Rows.KeyKind) (a b:Array Keyed):Prop where
 ha:∀p∈a.toList,Has κ p
 hb:∀p∈b.toList,Has κ p
 sa:kS κ a.toList
 sb:kS κ b.toList
 a0:0<a.size
 b0:0<b.size
 fst:∀i,i<a.size→κ.kle (KK κ b 0) (KK κ a i)
 lst:∀i,i<b.size→κ.kle (KK κ b i) (KK κ a (a.size-1))
theorem Zc6.hasA{a b:Array Keyed}(L:Zc6 κ a b){i:Nat}(h:i<a.size):Has κ a[i]:=L.ha _ (by rw[← QU];exact QW _)
theorem Zc6.hasB{a b:Array Keyed}(L:Zc6 κ a b){i:Nat}(h:i<b.size):Has κ b[i]:=L.hb _ (by rw[← QU];exact QW _)
def ZcE(κ:PyProof.Rows.KeyKind)(a b r:Array Keyed):Prop:=r.toList.Perm (a.toList++b.toList)∧kS κ r.toList
def Lo(κ:PyProof.Rows.KeyKind)(a b out:Array Keyed)(ia ib:Nat):Prop:=Mg κ (a.toList++b.toList) out.toList (a.toList.drop ia) (b.toList.drop ib)
variable {a b out:Array Keyed} {ia ib:Nat}
theorem Lo.takeA(M:Lo κ a b out ia ib)(k:Nat)(h:∀i j,ia≤i→i<ia+k→i<a.size→ib≤j→j<b.size→κ.kle (KK κ a i) (KK κ b j)):Lo κ a b (out++a.extract ia (ia+k)) (ia+k) ib:=by
 unfold Lo at M ⊢
 rw[← QI k (a.toList.drop ia),List.drop_drop]at M
 have:=M.put fun x hx y hy=>by
  obtain⟨i,i1,i2,i3,e⟩:=Zfz (κ:=κ) hx
  obtain⟨j,j1,j2,f⟩:=ZbU (κ:=κ) hy
  rw[e,f]
  exact h i j i1 i2 i3 j1 j2
 rw[QJ,Zbj,show ia+k-ia=k by omega]
 exact this
theorem Lo.takeB(M:Lo κ a b out ia ib)(k:Nat)(h:∀i j,ib≤i→i<ib+k→i<b.size→ia≤j→j<a.size→κ.kle (KK κ b i) (KK κ a j)):Lo κ a b (out++b.extract ib (ib+k)) ia (ib+k):=by
 unfold Lo at M ⊢
 rw[← QI k (b.toList.drop ib),List.drop_drop]at M
 have:=(M.swap.put fun x hx y hy=>by
  obtain⟨i,i1,i2,i3,e⟩:=Zfz (κ:=κ) hx
  obtain⟨j,j1,j2,f⟩:=ZbU (κ:=κ) hy
  rw[e,f]
  exact h i j i1 i2 i3 j1 j2).swap
 rw[QJ,Zbj,show ib+k-ib=k by omega]
 exact this
theorem Lo.pushA(M:Lo κ a b out ia ib)(hi:ia<a.size)(h:∀j,ib≤j→j<b.size→κ.kle (KK κ a ia) (KK κ b j)):Lo κ a b (out.push a[ia]) (ia+1) ib:=by
 unfold Lo at M ⊢
 rw[drop_one hi]at M
 rw[Qak]
 exact M.put fun x hx y hy=>by
  obtain⟨j,j1,j2,f⟩:=ZbU (κ:=κ) hy
  rw[Qg.mp hx,f,← ZO hi]
  exact h j j1 j2
theorem Lo.pushB(M:Lo κ a b out ia ib)(hi:ib<b.size)(h:∀j,ia≤j→j<a.size→κ.kle (KK κ b ib) (KK κ a j)):Lo κ a b (out.push b[ib]) ia (ib+1):=by
 unfold Lo at M ⊢
 rw[drop_one hi]at M
 rw[Qak]
 exact(M.swap.put fun x hx y hy=>by
  obtain⟨j,j1,j2,f⟩:=ZbU (κ:=κ) hy
  rw[Qg.mp hx,f,← ZO hi]
  exact h j j1 j2).swap
theorem Lo.done(M:Lo κ a b out ia ib)(h:a.size≤ia∨b.size≤ib):ZcE κ a b (out++a.extract ia a.size++b.extract ib b.size):=by
 unfold Lo at M
 have e:(out++a.extract ia a.size++b.extract ib b.size).toList=out.toList++a.toList.drop ia++b.toList.drop ib:=by rw[QJ,QJ,ZdV,ZdV]
 unfold ZcE
 rw[e]
 refine M.fin fun x hx y hy=>?_
 rcases h with h|h
 ·rw[ZhU h]at hx;cases hx
 ·rw[ZhU h]at hy;cases hy
theorem Lo.last(M:Lo κ a b out ia ib)(L:Zc6 κ a b)(h:ia+1=a.size):ZcE κ a b (out++b.extract ib b.size++a.extract ia a.size):=by
 unfold Lo at M
 have e:(out++b.extract ib b.size++a.extract ia a.size).toList=out.toList++b.toList.drop ib++a.toList.drop ia:=by rw[QJ,QJ,ZdV,ZdV]
 unfold ZcE
 rw[e]
 refine M.swap.fin fun x hx y hy=>?_
 obtain⟨i,i1,i2,e1⟩:=ZbU (κ:=κ) hx
 obtain⟨j,j1,j2,e2⟩:=ZbU (κ:=κ) hy
 rw[e1,e2,show j=a.size-1 by omega]
 exact L.lst i i2
def Hi(κ:PyProof.Rows.KeyKind)(a b out:Array Keyed)(na nb:Nat):Prop:=Mh κ (a.toList++b.toList) (a.toList.take na) (b.toList.take nb) out.toList.reverse
variable {na nb:Nat}
theorem Zgh(a:Array Keyed){k n:Nat}(h:k≤n):a.toList.take n=a.toList.take k++(a.extract k n).toList:=by
 rw[Zbj,← List.drop_take]
 have:=QI k (List.take n a.toList)
 rw[List.take_take,Nat.min_eq_left h]at this
 exact this.symm
theorem Zf3{a:Array Keyed}{i k:Nat}{y:Keyed}(h:y∈(a.extract i k).toList):∃j,i≤j∧j<k∧j<a.size∧kyd κ y=KK κ a j:=by
 rw[Zbj]at h
 obtain⟨j,j1,j2,j3,e⟩:=Zfz (κ:=κ) h
 exact⟨j,j1,by omega,j3,e⟩
theorem Hi.takeB(M:Hi κ a b out na nb)(k:Nat)(hk:k≤nb)(h:∀i j,i<na→i<a.size→k≤j→j<nb→j<b.size→κ.kle (KK κ a i) (KK κ b j)):Hi κ a b (out++(b.extract k nb).reverse) na k:=by
 unfold Hi at M ⊢
 rw[Zgh b hk]at M
 have:=M.put fun x hx y hy=>by
  obtain⟨i,i1,i2,e⟩:=ZbV (κ:=κ) hx
  obtain⟨j,j1,j2,j3,f⟩:=Zf3 (κ:=κ) hy
  rw[e,f]
  exact h i j i1 i2 j1 j2 j3
 rw[QJ,QaK,Qas,List.reverse_reverse]
 exact this
theorem Hi.takeA(M:Hi κ a b out na nb)(k:Nat)(hk:k≤na)(h:∀i j,i<nb→i<b.size→k≤j→j<na→j<a.size→κ.kle (KK κ b i) (KK κ a j)):Hi κ a b (out++(a.extract k na).reverse) k nb:=by
 unfold Hi at M ⊢
 rw[Zgh a hk]at M
 have:=(M.swap.put fun x hx y hy=>by
  obtain⟨i,i1,i2,e⟩:=ZbV (κ:=κ) hx
  obtain⟨j,j1,j2,j3,f⟩:=Zf3 (κ:=κ) hy
  rw[e,f]
  exact h i j i1 i2 j1 j2 j3).swap
 rw[QJ,QaK,Qas,List.reverse_reverse]
 exact this
theorem Hi.pushB(M:Hi κ a b out na (nb+1))(hb:nb<b.size)(h:∀i,i<na→i<a.size→κ.kle (KK κ a i) (KK κ b nb)):Hi κ a b (out.push b[nb]) na nb:=by
 unfold Hi at M ⊢
 rw[ZfS hb]at M
 rw[Qak,Qas]
 exact M.put fun x hx y hy=>by
  obtain⟨i,i1,i2,e⟩:=ZbV (κ:=κ) hx
  rw[Qg.mp hy,e,← ZO hb]
  exact h i i1 i2
theorem Hi.pushA(M:Hi κ a b out (na+1) nb)(hb:na<a.size)(h:∀i,i<nb→i<b.size→κ.kle (KK κ b i) (KK κ a na)):Hi κ a b (out.push a[na]) na nb:=by
 unfold Hi at M ⊢
 rw[ZfS hb]at M
 rw[Qak,Qas]
 exact(M.swap.put fun x hx y hy=>by
  obtain⟨i,i1,i2,e⟩:=ZbV (κ:=κ) hx
  rw[Qg.mp hy,e,← ZO hb]
  exact h i i1 i2).swap
theorem Hi.done(M:Hi κ a b out na nb)(h:na=0∨nb=0):ZcE κ a b (a.extract 0 na++b.extract 0 nb++out.reverse):=by
 unfold Hi at M
 have e:(a.extract 0 na++b.extract 0 nb++out.reverse).toList=a.toList.take na++b.toList.take nb++out.toList.reverse:=by rw[QJ,QJ,Zfa,Zfa,QaK]
 unfold ZcE
 rw[e]
 refine M.fin fun x hx y hy=>?_
 rcases h with h|h
 ·rw[h]at hx;cases hx
 ·rw[h]at hy;cases hy
theorem Hi.first(M:Hi κ a b out na nb)(L:Zc6 κ a b)(h:nb=1):ZcE κ a b (b.extract 0 nb++a.extract 0 na++out.reverse):=by
 unfold Hi at M
 have e:(b.extract 0 nb++a.extract 0 na++out.reverse).toList=b.toList.take nb++a.toList.take na++out.toList.reverse:=by rw[QJ,QJ,Zfa,Zfa,QaK]
 unfold ZcE
 rw[e]
 refine M.swap.fin fun x hx y hy=>?_
 obtain⟨i,i1,i2,e1⟩:=ZbV (κ:=κ) hx
 obtain⟨j,j1,j2,e2⟩:=ZbV (κ:=κ) hy
 rw[e1,e2,show i=0 by omega]
 exact L.fst j j2
end
def mergeLo':Array Keyed→Array Keyed→StateT SortSt Sem (Array Keyed):=sortPriv% PySem.Builtin.mergeLo
def mergeHi':Array Keyed→Array Keyed→StateT SortSt Sem (Array Keyed):=sortPriv% PySem.Builtin.mergeHi
def Sm(st st':SortSt):Prop:=kindOf st'=kindOf st∧arrOf st'=arrOf st∧pendingOf st'=pendingOf st∧failedOf st'=failedOf st
theorem Sm.rfl{st:SortSt}:Sm st st:=⟨Eq.refl _,Eq.refl _,Eq.refl _,Eq.refl _⟩
theorem Sm.trans{a b c:SortSt}(h:Sm a b)(h':Sm b c):Sm a c:=⟨h'.1.trans h.1,h'.2.1.trans h.2.1,h'.2.2.1.trans h.2.2.1,h'.2.2.2.trans h.2.2.2⟩
section
variable {prog:Program} {w:World} {A:Around} {E:Value→Shared→Prop} {s:Shared} {κ:PyProof.Rows.KeyKind} {k0:SortKind} {st:SortSt} {α β γ:Type}
theorem w_jp{c:Prop}[Decidable c]{x:β}{y:γ}{X Y:β→γ→StateT SortSt Sem α}{Q:α→SortSt→Prop}(P:β→γ→Prop)(H:∀o i,P o i→wpS (model prog w) A E s (Y o i) Q st)
  (hX:(∀o i,P o i→wpS (model prog w) A E s (Y o i) Q st)→c→wpS (model prog w) A E s (X x y) Q st) (hY:¬ c→P x y):∀o,x=o→∀i,y=i→wpS (model prog w) A E s (if c then X o i else Y o i) Q st:=by
 rintro _ rfl _ rfl
 by_cases h:c
 ·rw[if_pos h];exact hX H h
 ·rw[if_neg h];exact H x y (hY h)
theorem w_jp1{X Y:Nat→StateT SortSt Sem α}{Q:α→SortSt→Prop}(e:∀g,X g=Y (g-1))(H:∀g,wpS (model prog w) A E s (Y g) Q st):∀g,wpS (model prog w) A E s (if g>1 then X g else Y g) Q st:=by
 intro g
 by_cases h:g>1
 ·rw[if_pos h,e];exact H _
 ·rw[if_neg h];exact H g
theorem w_mg{m:StateT SortSt Sem PUnit}{g:Nat}(hm:m=modify fun s=>SortSt.mk' (kindOf s) (arrOf s) (pendingOf s) g (failedOf s)){Q:PUnit→SortSt→Prop}(q:∀st',Sm st st'→Q ⟨⟩ st'):wpS (model prog w) A E s m Q st:=by
 rw[hm]
 exact wpS_modify (q _ ⟨rfl,rfl,rfl,rfl⟩)
theorem w_bq{x y:Nat}{X Y:StateT SortSt Sem α}{Q:α→SortSt→Prop}(hX:x=y→wpS (model prog w) A E s X Q st)(hY:x≠y→wpS (model prog w) A E s Y Q st):wpS (model prog w) A E s (if (x == y)=true then X else Y) Q st:=by
 by_cases h:x=y
 ·rw[if_pos (by rw[h];exact beq_self_eq_true _)];exact hX h
 ·rw[if_neg (by intro z;exact h (eq_of_beq z))];exact hY h
theorem w_if{c:Prop}[Decidable c]{X Y:StateT SortSt Sem α}{Q:α→SortSt→Prop}(hX:c→wpS (model prog w) A E s X Q st)(hY:¬ c→wpS (model prog w) A E s Y Q st):wpS (model prog w) A E s (if c then X else Y) Q st:=by
 by_cases h:c
 ·rw[if_pos h];exact hX h
 ·rw[if_neg h];exact hY h
def Zjz(κ:PyProof.Rows.KeyKind)(a b:Array Keyed)(t:Nat)(out:Array Keyed)(ia ib:Nat):Prop:=Lo κ a b out ia ib∧ia+1<a.size∧ib<b.size∧t≤ia+ib
theorem w_lo(hL:Zdd prog w A s k0 κ)(hK:kindOf st=k0){a b:Array Keyed}(L:Zc6 κ a b){Q:Array Keyed→SortSt→Prop}(q:∀r st',ZcE κ a b r→Sm st st'→Q r st'):wpS (model prog w) A E s (mergeLo' a b) Q st:=by
 have sA:=Zd9 L.sa
 have sB:=Zd9 L.sb
 show wpS _ _ _ _ (liftM (rule _) >>= _) _ _
 refine wpS_bind (wpS_lift (wpAny_rule ⟨rfl,?_⟩))
 refine wpS_bind (w_elem (ZQ L.b0) ?_)
 have M0:Lo κ a b #[b[0]'L.b0] 0 1:=by
  have h0:Lo κ a b #[] 0 0:=⟨by simp,List.Pairwise.nil,by simpa using L.sa,by simpa using L.sb,(fun x hx=>by cases hx),(fun x hx=>by cases hx)⟩
  exact h0.pushB L.b0 fun j _ hj=>L.fst j hj
 refine w_bq (fun h=>wpS_pure (q _ _ (M0.done (.inr (by omega))) Sm.rfl)) fun hb=>?_
 refine w_bq (fun h=>wpS_pure (q _ _ (M0.last L h) Sm.rfl)) fun ha=>?_
 have a0:=L.a0
 have b0:=L.b0
 refine wpS_bind (wpS_get ?_)
 refine wpS_bind (wpS_mono (wpS_forRange (fun i c st'=>∃out ia ib g,c=(none,out,ia,ib,g)∧Sm st st'∧Zjz κ a b (i+1) out ia ib) (Q:=fun c st'=>∃r z,c=(some r,z)∧ZcE κ a b r∧Sm st st') ?_ ?_ ⟨_,0,1,_,rfl,Sm.rfl,M0,by omega,by omega,by omega⟩) ?_)
 ·rintro t c st1 _ ht ⟨out,ia,ib,g,rfl,S1,I1⟩
  dsimp only
  show wpS _ _ _ _ (forIn [:a.size+b.size] (none,out,ia,ib,0,0) _ >>= _) _ _
  refine wpS_bind (wpS_mono (wpS_forRange (fun i c st'=>∃out ia ib x y,c=(none,out,ia,ib,x,y)∧Sm st st'∧Zjz κ a b (t+1+i) out ia ib)
   (Q:=fun c st'=>Sm st st'∧∃out ia ib x y,(∃r,c=(some r,out,ia,ib,x,y)∧ZcE κ a b r)∨(c=(none,out,ia,ib,x,y)∧Zjz κ a b (t+2) out ia ib)) ?_ ?_ ⟨out,ia,ib,0,0,rfl,S1,I1⟩) ?_)
  ·rintro i c st2 _ hi ⟨out,ia,ib,x,y,rfl,S2,M,h1,h2,h3⟩
   dsimp only
   refine wpS_bind (w_elem (ZQ h2) (wpS_bind (w_elem (ZQ (show ia<a.size by omega)) (wpS_bind (w_ltp hL (S2.1.trans hK) (L.hasB h2) (L.hasA (by omega)) ?_)))))
   rw[← ZO,← ZO]
   cases hb:κ.blt (KK κ b ib) (KK κ a ia) with
   | true =>
    have M':=M.pushB h2 fun j j1 j2=>KeyOrd.kle_trans (KeyOrd.kle_of_klt hb) (sA ia j j1 j2)
    refine wpS_bind (w_elem (ZQ h2) ?_)
    refine w_bq (fun h=>wpS_pure ⟨S2,_,_,_,_,_,.inl ⟨_,rfl,M'.done (.inr (by omega))⟩⟩) fun hne=>?_
    refine w_if (fun _=>wpS_pure ⟨S2,_,_,_,_,_,.inr ⟨rfl,M',by omega,by omega,by omega⟩⟩) fun _=>wpS_pure ⟨_,_,_,_,_,rfl,S2,M',by omega,by omega,by omega⟩
   | false =>
    have M':=M.pushA (by omega) fun j j1 j2=>KeyOrd.kle_trans (show κ.kle (KK κ a ia) (KK κ b ib) from hb) (sB ib j j1 j2)
    refine wpS_bind (w_elem (ZQ (show ia<a.size by omega)) ?_)
    refine w_bq (fun h=>wpS_pure ⟨S2,_,_,_,_,_,.inl ⟨_,rfl,M'.last L h⟩⟩) fun hne=>?_
    refine w_if (fun _=>wpS_pure ⟨S2,_,_,_,_,_,.inr ⟨rfl,M',by omega,by omega,by omega⟩⟩) fun _=>wpS_pure ⟨_,_,_,_,_,rfl,S2,M',by omega,by omega,by omega⟩
  ·rintro c st2 ⟨out,ia,ib,x,y,rfl,S2,M,h1,h2,h3⟩
   exact⟨S2,_,_,_,_,_,.inr ⟨rfl,M,h1,h2,by omega⟩⟩
  ·rintro c st2 ⟨S2,out,ia,ib,x,y,⟨r,rfl,hr⟩|⟨rfl,I2⟩⟩
   ·exact wpS_pure ⟨r,_,rfl,hr,S2⟩
   dsimp only
   refine wpS_bind (wpS_lift (wpAny_rule ⟨rfl,?_⟩))
   show wpS _ _ _ _ (forIn [:a.size+b.size] (none,out,ia,ib,g+1,x,y) _ >>= _) _ _
   refine wpS_bind (wpS_mono (wpS_forRange (fun i c st'=>∃out ia ib g x y,c=(none,out,ia,ib,g,x,y)∧Sm st st'∧Zjz κ a b (t+2) out ia ib)
    (Q:=fun c st'=>Sm st st'∧∃out ia ib g x y,(∃r,c=(some r,out,ia,ib,g,x,y)∧ZcE κ a b r)∨(c=(none,out,ia,ib,g,x,y)∧Zjz κ a b (t+2) out ia ib)) ?_ ?_ ⟨out,ia,ib,g+1,x,y,rfl,S2,I2⟩) ?_)
   ·rintro i c st3 _ hi ⟨out,ia,ib,g,x,y,rfl,S3,M,h1,h2,h3⟩
    dsimp only
    revert g
    refine w_jp1 (fun _=>rfl) ?_
    rintro g
    refine wpS_bind (w_mg (g:=g) rfl fun st4 S4=>?_)
    have S4':=S3.trans S4
    refine wpS_bind (w_elem (ZQ h2) (wpS_bind ?_))
    refine w_gallop hL (S4'.1.trans hK) (B:=fun i=>!κ.blt (KK κ b ib) (KK κ a (ia+i))) (by omega) (L.hasB h2) (fun i hi=>⟨a[ia+i]'(by omega),ZQ (by omega),L.hasA (by omega),by rw[ZO h2,ZO (show ia+i<a.size by omega)];rfl⟩) (fun i j hij hj hB=>?_) fun k hk k1 k2=>?_
    ·have z:κ.kle (KK κ a (ia+j)) (KK κ b ib):=by simpa [KeyOrd.kle] using hB
     have:=KeyOrd.kle_trans (sA (ia+i) (ia+j) (by omega) (by omega)) z
     simpa [KeyOrd.kle] using this
    have k1':∀i,ia≤i→i<ia+k→κ.kle (KK κ a i) (KK κ b ib):=fun i i1 i2=>by
     have:=k1 (i-ia) (by omega)
     rw[show ia+(i-ia)=i by omega]at this
     simpa [KeyOrd.kle] using this
    have k2':∀i,ia+k≤i→i<a.size→κ.kle (KK κ b ib) (KK κ a i):=fun i i1 i2=>by
     have:=k2 (i-ia) (by omega) (by omega)
     rw[show ia+(i-ia)=i by omega]at this
     exact KeyOrd.kle_of_klt (show κ.blt _ _=true by simpa using this)
    generalize ho:out=o
    generalize hi:ia=i
    revert i hi
    revert o ho
    refine w_jp (fun out' ia'=>Lo κ a b out' ia' ib∧ia'+1<a.size∧ia≤ia'∧∀i,ia'≤i→i<a.size→κ.kle (KK κ b ib) (KK κ a i)) ?_ ?_ ?_
    ·rintro out' ia' ⟨M1,g1,g0,g2⟩
     show wpS _ _ _ _ (_ >>= _) _ _
     refine wpS_bind (w_elem (ZQ h2) ?_)
     have M2:=M1.pushB h2 g2
     refine w_bq (fun h=>wpS_pure ⟨S4',_,_,_,_,_,_,.inl ⟨_,rfl,M2.done (.inr (by omega))⟩⟩) fun hne=>?_
     refine wpS_bind (w_elem (ZQ (show ia'<a.size by omega)) (wpS_bind ?_))
     refine w_gallop hL (S4'.1.trans hK) (B:=fun i=>κ.blt (KK κ b (ib+1+i)) (KK κ a ia')) (by omega) (L.hasA (by omega)) (fun i hi=>⟨b[ib+1+i]'(by omega),ZQ (by omega),L.hasB (by omega),by rw[ZO (show ia'<a.size by omega),ZO (show ib+1+i<b.size by omega)];rfl⟩) (fun i j hij hj hB=>KeyOrd.klt_of_kle_of_klt (sB _ _ (by omega) (by omega)) hB) fun m hm m1 m2=>?_
     have m2':∀i,ib+1+m≤i→i<b.size→κ.kle (KK κ a ia') (KK κ b i):=fun i i1 i2=>by
      have:=m2 (i-(ib+1)) (by omega) (by omega)
      rw[show ib+1+(i-(ib+1))=i by omega]at this
      exact this
     have e1:ib<ib+1:=Nat.lt_succ_self _
     have e2:ib+1≤b.size:=h2
     generalize ho:out'.push b[ib]=o
     generalize hi:ib+1=i
     revert i hi
     revert o ho
     refine w_jp (fun o2 ib2=>Lo κ a b o2 ia' ib2∧ib2<b.size∧ib+1≤ib2∧∀i,ib2≤i→i<b.size→κ.kle (KK κ a ia') (KK κ b i)) ?_ ?_ ?_
     ·rintro o2 ib2 ⟨M3,n1,n0,n2⟩
      refine wpS_bind (w_elem (ZQ (show ia'<a.size by omega)) ?_)
      have M4:=M3.pushA (by omega) n2
      refine w_bq (fun h=>wpS_pure ⟨S4',_,_,_,_,_,_,.inl ⟨_,rfl,M4.last L h⟩⟩) fun hne2=>?_
      exact w_if (fun _=>wpS_pure ⟨S4',_,_,_,_,_,_,.inr ⟨rfl,M4,by omega,by omega,by omega⟩⟩) fun _=>wpS_pure ⟨_,_,_,_,_,_,rfl,S4',M4,by omega,by omega,by omega⟩
     ·intro H hm0
      have M3:=M2.takeB m fun i j l1 l2 l3 j1 j2=>by
       have:=m1 (i-(ib+1)) (by omega)
       rw[show ib+1+(i-(ib+1))=i by omega]at this
       exact KeyOrd.kle_trans (KeyOrd.kle_of_klt this) (sA ia' j j1 j2)
      refine w_bq (fun h=>wpS_pure ⟨S4',_,_,_,_,_,_,.inl ⟨_,rfl,M3.done (.inr (by omega))⟩⟩) fun hne2=>?_
      exact H _ _ ⟨M3,by omega,by omega,fun i j1 j2=>m2' i j1 j2⟩
     ·exact fun hm0=>⟨M2,by omega,Qd _,fun i l1 l2=>m2' i (by omega) l2⟩
    ·intro H hk0
     have M1:=M.takeA k fun i j i1 i2 i3 j1 j2=>KeyOrd.kle_trans (k1' i i1 i2) (sB ib j j1 j2)
     refine w_bq (fun h=>wpS_pure ⟨S4',_,_,_,_,_,_,.inl ⟨_,rfl,M1.last L h⟩⟩) fun hne=>?_
     refine w_bq (fun h=>wpS_pure ⟨S4',_,_,_,_,_,_,.inl ⟨_,rfl,M1.done (.inl (by omega))⟩⟩) fun hne2=>?_
     exact H _ _ ⟨M1,by omega,by omega,fun i j1 j2=>k2' i j1 j2⟩
    ·exact fun hk0=>⟨M,h1,Qd _,fun i i1 i2=>k2' i (by omega) i2⟩
   ·rintro c st3 ⟨out,ia,ib,g,x,y,rfl,S3,I3⟩
    exact⟨S3,_,_,_,_,_,_,.inr ⟨rfl,I3⟩⟩
   ·rintro c st3 ⟨S3,out,ia,ib,g,x,y,⟨r,rfl,hr⟩|⟨rfl,I3⟩⟩
    ·exact wpS_pure ⟨r,_,rfl,hr,S3⟩
    ·dsimp only
     exact wpS_bind (w_mg (g:=g+1) rfl fun st4 S4=>wpS_pure ⟨_,_,_,_,rfl,S3.trans S4,I3⟩)
 ·rintro c st1 ⟨out,ia,ib,g,rfl,S1,M,h1,h2,h3⟩
  omega
 ·rintro c st1 ⟨r,z,rfl,hr,S1⟩
  exact wpS_pure (q r _ hr S1)
end
section
variable {prog:Program} {w:World} {A:Around} {E:Value→Shared→Prop} {s:Shared} {κ:PyProof.Rows.KeyKind} {k0:SortKind} {st:SortSt} {α β γ:Type} {a b out:Array Keyed} {na nb:Nat}
theorem Hi.putA(M:Hi κ a b out na nb)(h0:0<na)(ha:na-1<a.size)(h:∀i,i<nb→i<b.size→κ.kle (KK κ b i) (KK κ a (na-1))):Hi κ a b (out.push a[na-1]) (na-1) nb:=by
 obtain⟨n,rfl⟩:∃n,na=n+1:=⟨na-1,by omega⟩
 exact M.pushA ha h
theorem Hi.putB(M:Hi κ a b out na nb)(h0:0<nb)(hb:nb-1<b.size)(h:∀i,i<na→i<a.size→κ.kle (KK κ a i) (KK κ b (nb-1))):Hi κ a b (out.push b[nb-1]) na (nb-1):=by
 obtain⟨n,rfl⟩:∃n,nb=n+1:=⟨nb-1,by omega⟩
 exact M.pushB hb h
def Zjp(κ:PyProof.Rows.KeyKind)(a b:Array Keyed)(t:Nat)(out:Array Keyed)(na nb:Nat):Prop:=Hi κ a b out na nb∧0<na∧1<nb∧na≤a.size∧nb≤b.size∧na+nb+t≤a.size+b.size
theorem w_hi(hL:Zdd prog w A s k0 κ)(hK:kindOf st=k0)(L:Zc6 κ a b){Q:Array Keyed→SortSt→Prop}(q:∀r st',ZcE κ a b r→Sm st st'→Q r st'):wpS (model prog w) A E s (mergeHi' a b) Q st:=by
 have sA:=Zd9 L.sa
 have sB:=Zd9 L.sb
 have a0:=L.a0
 have b0:=L.b0
 show wpS _ _ _ _ (liftM (rule _) >>= _) _ _
 refine wpS_bind (wpS_lift (wpAny_rule ⟨rfl,?_⟩))
 refine wpS_bind (w_elem (ZQ (show a.size-1<a.size by omega)) ?_)
 have M0:Hi κ a b #[a[a.size-1]] (a.size-1) b.size:=by
  have h0:Hi κ a b #[] a.size b.size:=⟨by simp[List.take_of_length_le],List.Pairwise.nil,by simpa [List.take_of_length_le] using L.sa,by simpa [List.take_of_length_le] using L.sb,(fun x _ y hy=>by cases hy),(fun x _ y hy=>by cases hy)⟩
  exact h0.putA a0 (by omega) fun i _ hi=>L.lst i hi
 refine w_bq (fun h=>wpS_pure (q _ _ (M0.done (.inl h)) Sm.rfl)) fun ha=>?_
 refine w_bq (fun h=>wpS_pure (q _ _ (M0.first L h) Sm.rfl)) fun hb=>?_
 refine wpS_bind (wpS_get ?_)
 refine wpS_bind (wpS_mono (wpS_forRange (fun i c st'=>∃na nb out g,c=(none,na,nb,out,g)∧Sm st st'∧Zjp κ a b (i+1) out na nb) (Q:=fun c st'=>∃r z,c=(some r,z)∧ZcE κ a b r∧Sm st st') ?_ ?_ ⟨_,_,_,_,rfl,Sm.rfl,M0,by omega,by omega,by omega,by omega,by omega⟩) ?_)
 ·rintro t c st1 _ ht ⟨na,nb,out,g,rfl,S1,I1⟩
  dsimp only
  refine wpS_bind (wpS_mono (wpS_forRange (fun i c st'=>∃na nb out x y,c=(none,na,nb,out,x,y)∧Sm st st'∧Zjp κ a b (t+1+i) out na nb)
   (Q:=fun c st'=>Sm st st'∧∃na nb out x y,(∃r,c=(some r,na,nb,out,x,y)∧ZcE κ a b r)∨(c=(none,na,nb,out,x,y)∧Zjp κ a b (t+2) out na nb)) ?_ ?_ ⟨na,nb,out,0,0,rfl,S1,I1⟩) ?_)
  ·rintro i c st2 _ hi ⟨na,nb,out,x,y,rfl,S2,M,h1,h2,h3,h4,h5⟩
   dsimp only
   refine wpS_bind (w_elem (ZQ (show nb-1<b.size by omega)) (wpS_bind (w_elem (ZQ (show na-1<a.size by omega)) (wpS_bind (w_ltp hL (S2.1.trans hK) (L.hasB (by omega)) (L.hasA (by omega)) ?_)))))
   rw[← ZO,← ZO]
   cases hb:κ.blt (KK κ b (nb-1)) (KK κ a (na-1)) with
   | true =>
    have M':=M.putA h1 (by omega) fun i j1 j2=>KeyOrd.kle_trans (sB i (nb-1) (by omega) (by omega)) (KeyOrd.kle_of_klt hb)
    refine wpS_bind (w_elem (ZQ (show na-1<a.size by omega)) ?_)
    refine w_bq (fun h=>wpS_pure ⟨S2,_,_,_,_,_,.inl ⟨_,rfl,M'.done (.inl h)⟩⟩) fun hne=>?_
    exact w_if (fun _=>wpS_pure ⟨S2,_,_,_,_,_,.inr ⟨rfl,M',by omega,by omega,by omega,by omega,by omega⟩⟩) fun _=>wpS_pure ⟨_,_,_,_,_,rfl,S2,M',by omega,by omega,by omega,by omega,by omega⟩
   | false =>
    have M':=M.putB (by omega) (by omega) fun i j1 j2=>KeyOrd.kle_trans (sA i (na-1) (by omega) (by omega)) (show κ.kle (KK κ a (na-1)) (KK κ b (nb-1)) from hb)
    refine wpS_bind (w_elem (ZQ (show nb-1<b.size by omega)) ?_)
    refine w_bq (fun h=>wpS_pure ⟨S2,_,_,_,_,_,.inl ⟨_,rfl,M'.first L h⟩⟩) fun hne=>?_
    exact w_if (fun _=>wpS_pure ⟨S2,_,_,_,_,_,.inr ⟨rfl,M',by omega,by omega,by omega,by omega,by omega⟩⟩) fun _=>wpS_pure ⟨_,_,_,_,_,rfl,S2,M',by omega,by omega,by omega,by omega,by omega⟩
  ·rintro c st2 ⟨na,nb,out,x,y,rfl,S2,M,h1,h2,h3,h4,h5⟩
   exact⟨S2,_,_,_,_,_,.inr ⟨rfl,M,h1,h2,h3,h4,by omega⟩⟩
  ·rintro c st2 ⟨S2,na,nb,out,x,y,⟨r,rfl,hr⟩|⟨rfl,I2⟩⟩
   ·exact wpS_pure ⟨r,_,rfl,hr,S2⟩
   dsimp only
   refine wpS_bind (wpS_lift (wpAny_rule ⟨rfl,?_⟩))
   refine wpS_bind (wpS_mono (wpS_forRange (fun i c st'=>∃na nb out g x y,c=(none,na,nb,out,g,x,y)∧Sm st st'∧Zjp κ a b (t+2) out na nb)
    (Q:=fun c st'=>Sm st st'∧∃na nb out g x y,(∃r,c=(some r,na,nb,out,g,x,y)∧ZcE κ a b r)∨(c=(none,na,nb,out,g,x,y)∧Zjp κ a b (t+2) out na nb)) ?_ ?_ ⟨na,nb,out,g+1,x,y,rfl,S2,I2⟩) ?_)
   ·rintro i c st3 _ hi ⟨na,nb,out,g,x,y,rfl,S3,M,h1,h2,h3,h4,h5⟩
    dsimp only
    revert g
    refine w_jp1 (fun _=>rfl) ?_
    rintro g
    refine wpS_bind (w_mg (g:=g) rfl fun st4 S4=>?_)
    have S4':=S3.trans S4
    have hb1:nb-1<b.size:=by omega
    refine wpS_bind (w_elem (ZQ hb1) (wpS_bind ?_))
    refine w_gallop hL (S4'.1.trans hK) (B:=fun i=>!κ.blt (KK κ b (nb-1)) (KK κ a (0+i))) (by omega) (L.hasB hb1) (fun i hi=>⟨a[0+i]'(by omega),ZQ (by omega),L.hasA (by omega),by rw[ZO hb1,ZO (show 0+i<a.size by omega)];rfl⟩) (fun i j hij hj hB=>?_) fun f hf k1 k2=>?_
    ·have z:κ.kle (KK κ a (0+j)) (KK κ b (nb-1)):=by simpa [KeyOrd.kle] using hB
     have:=KeyOrd.kle_trans (sA (0+i) (0+j) (by omega) (by omega)) z
     simpa [KeyOrd.kle] using this
    have k1':∀i,i<f→κ.kle (KK κ a i) (KK κ b (nb-1)):=fun i i1=>by
     have:=k1 i i1
     rw[Nat.zero_add]at this
     simpa [KeyOrd.kle] using this
    have k2':∀i,f≤i→i<na→κ.klt (KK κ b (nb-1)) (KK κ a i):=fun i i1 i2=>by
     have:=k2 i i1 i2
     rw[Nat.zero_add]at this
     exact(show κ.blt _ _=true by simpa using this)
    dsimp only
    generalize hk:na-f=k
    generalize ho:na=o
    generalize hi:out=i
    revert i hi
    revert o ho
    refine w_jp (fun na' out'=>Hi κ a b out' na' nb∧0<na'∧na'≤na∧∀i,i<na'→κ.kle (KK κ a i) (KK κ b (nb-1))) ?_ ?_ ?_
    ·rintro na' out' ⟨M1,g1,g0,g2⟩
     refine wpS_bind (w_elem (ZQ hb1) ?_)
     have M2:=M1.putB (by omega) hb1 fun i i1 _=>g2 i i1
     refine w_bq (fun h=>wpS_pure ⟨S4',_,_,_,_,_,_,.inl ⟨_,rfl,M2.first L h⟩⟩) fun hne=>?_
     have ha1:na'-1<a.size:=by omega
     refine wpS_bind (w_elem (ZQ ha1) (wpS_bind ?_))
     refine w_gallop hL (S4'.1.trans hK) (B:=fun i=>κ.blt (KK κ b (0+i)) (KK κ a (na'-1))) (by omega) (L.hasA ha1) (fun i hi=>⟨b[0+i]'(by omega),ZQ (by omega),L.hasB (by omega),by rw[ZO ha1,ZO (show 0+i<b.size by omega)];rfl⟩) (fun i j hij hj hB=>KeyOrd.klt_of_kle_of_klt (sB _ _ (by omega) (by omega)) hB) fun m hm m1 m2=>?_
     have m1':∀i,i<m→κ.kle (KK κ b i) (KK κ a (na'-1)):=fun i i1=>by
      have:=m1 i i1
      rw[Nat.zero_add]at this
      exact KeyOrd.kle_of_klt this
     have m2':∀i,m≤i→i<nb-1→κ.kle (KK κ a (na'-1)) (KK κ b i):=fun i i1 i2=>by
      have:=m2 i i1 i2
      rw[Nat.zero_add]at this
      exact this
     dsimp only
     generalize hk2:nb-1-m=k2
     generalize hi:out'.push b[nb-1]=i
     generalize ho:nb-1=o
     revert i hi
     revert o ho
     refine w_jp (fun nb2 o2=>Hi κ a b o2 na' nb2∧1<nb2∧nb2≤nb-1∧∀i,i<nb2→κ.kle (KK κ b i) (KK κ a (na'-1))) ?_ ?_ ?_
     ·rintro nb2 o2 ⟨M3,n1,n0,n2⟩
      refine wpS_bind (w_elem (ZQ ha1) ?_)
      have M4:=M3.putA g1 ha1 fun i i1 _=>n2 i i1
      refine w_bq (fun h=>wpS_pure ⟨S4',_,_,_,_,_,_,.inl ⟨_,rfl,M4.done (.inl h)⟩⟩) fun hne2=>?_
      exact w_if (fun _=>wpS_pure ⟨S4',_,_,_,_,_,_,.inr ⟨rfl,M4,by omega,by omega,by omega,by omega,by omega⟩⟩) fun _=>wpS_pure ⟨_,_,_,_,_,_,rfl,S4',M4,by omega,by omega,by omega,by omega,by omega⟩
     ·intro H hm0
      have M3:=M2.takeB m hm fun i j i1 i2 j1 j2 j3=>KeyOrd.kle_trans (sA i (na'-1) (by omega) (by omega)) (m2' j j1 j2)
      refine w_bq (fun h=>wpS_pure ⟨S4',_,_,_,_,_,_,.inl ⟨_,rfl,M3.first L h⟩⟩) fun hne2=>?_
      refine w_bq (fun h=>wpS_pure ⟨S4',_,_,_,_,_,_,.inl ⟨_,rfl,M3.done (.inr h)⟩⟩) fun hne3=>?_
      exact H _ _ ⟨M3,by omega,hm,m1'⟩
     ·exact fun hm0=>⟨M2,by omega,Qd _,fun i l1=>m1' i (by omega)⟩
    ·intro H hk0
     have M1:=M.takeA f hf fun i j i1 i2 j1 j2 j3=>KeyOrd.kle_trans (sB i (nb-1) (by omega) (by omega)) (KeyOrd.kle_of_klt (k2' j j1 j2))
     refine w_bq (fun h=>wpS_pure ⟨S4',_,_,_,_,_,_,.inl ⟨_,rfl,M1.done (.inl h)⟩⟩) fun hne=>?_
     exact H _ _ ⟨M1,by omega,hf,k1'⟩
    ·exact fun hk0=>⟨M,h1,Qd _,fun i i1=>k1' i (by omega)⟩
   ·rintro c st3 ⟨na,nb,out,g,x,y,rfl,S3,I3⟩
    exact⟨S3,_,_,_,_,_,_,.inr ⟨rfl,I3⟩⟩
   ·rintro c st3 ⟨S3,na,nb,out,g,x,y,⟨r,rfl,hr⟩|⟨rfl,I3⟩⟩
    ·exact wpS_pure ⟨r,_,rfl,hr,S3⟩
    ·dsimp only
     exact wpS_bind (w_mg (g:=g+1) rfl fun st4 S4=>wpS_pure ⟨_,_,_,_,rfl,S3.trans S4,I3⟩)
 ·rintro c st1 ⟨na,nb,out,g,rfl,S1,M,h1,h2,h3,h4,h5⟩
  omega
 ·rintro c st1 ⟨r,z,rfl,hr,S1⟩
  exact wpS_pure (q r _ hr S1)
end
def ZdC:Nat→List (List Keyed)→List (Nat×Nat)
 | _,[]=>[]
 | o,r::rs=>(o,r.length)::ZdC (o+r.length) rs
theorem Zdb:∀ (o:Nat) (l m:List (List Keyed)),ZdC o (l++m)=ZdC o l++ZdC (o+l.flatten.length) m
 | o,[],m=>by simp[ZdC]
 | o,r::l,m=>by simp[ZdC,Zdb (o+r.length) l m,Nat.add_assoc]
theorem Zeh:∀ (o:Nat) (l:List (List Keyed)),(ZdC o l).length=l.length
 | _,[]=>rfl
 | o,r::l=>by simp[ZdC,Zeh (o+r.length) l]
def ZbM(p:Nat×Nat×Nat):Nat×Nat:=(p.1,p.2.1)
section
variable {prog:Program} {w:World} {A:Around} {E:Value→Shared→Prop} {s:Shared} {κ:PyProof.Rows.KeyKind} {k0:SortKind} {st:SortSt} {a₀:Array Keyed}
structure Rn (κ:PyProof.Rows.KeyKind) (k0:SortKind) (a₀:Array Keyed) (st:SortSt) (rs:List (List Keyed)) (rest:List Keyed):Prop where
 kind:kindOf st=k0
 failed:failedOf st=none
 arr:(arrOf st).toList=rs.flatten++rest
 perm:(arrOf st).Perm a₀
 srt:∀r∈rs,kS κ r
 ne:∀r∈rs,r≠[]
 pend:(pendingOf st).toList.map ZbM=ZdC 0 rs
theorem ZfL{sa:Nat}{R:List Keyed}:∀ (r S L:List Keyed) (n:Nat) (xs:Array Keyed),xs.toList=L++S++R→L.length=sa+n→S.length=r.length→((r.zipIdx n).foldl (fun a x=>a.setIfInBounds (sa+x.2) x.1) xs).toList=L++r++R
 | [],S,L,n,xs,h,_,h2=>by
  have:S=[]:=QV h2
  subst this
  simpa using h
 | p::r,[],L,n,xs,h,_,h2=>by cases h2
 | p::r,q::S,L,n,xs,h,h1,h2=>by
  rw[List.zipIdx_cons,List.foldl_cons]
  have e:(xs.setIfInBounds (sa+n) p).toList=(L++[p])++S++R:=by
   rw[Array.toList_setIfInBounds,h,← h1]
   simp
  have:=ZfL (sa:=sa) (R:=R) r S (L++[p]) (n+1) _ e (by simp;omega) (by simpa using h2)
  simpa using this
theorem Ze2{xs:Array Keyed}{L x R:List Keyed}(h:xs.toList=L++x++R){i:Nat}(hi:i<x.length):xs[L.length+i]? = some x[i]:=by
 rw[← QP,h,QG,QZ (by omega),Nat.add_sub_cancel_left,Qai hi,Qc hi]
theorem ZkW{left:Bool}{key p q:Keyed}(h:κ.kle (kyd κ p) (kyd κ q))(hq:gB κ left key q=true):gB κ left key p=true:=by
 unfold gB at *
 cases left with
 | true=>exact KeyOrd.klt_of_kle_of_klt h (show κ.klt _ _ from hq)
 | false =>
  have z:κ.kle (kyd κ q) (kyd κ key):=by simpa [KeyOrd.kle] using hq
  simpa [KeyOrd.kle] using KeyOrd.kle_trans h z
theorem w_galL(hL:Zdd prog w A s k0 κ)(hK:kindOf st=k0){left:Bool}{key:Keyed}{xs:Array Keyed}{L x R:List Keyed}{base n hint:Nat}(e:xs.toList=L++x++R)(hb:base=L.length)(hn:n=x.length)(hh:hint<n)(hkey:Has κ key)(hx:∀p∈x,Has κ p)(sx:kS κ x)
  {Q:Option Nat→SortSt→Prop} (q:∀h,h≤n→(∀p∈x.take h,gB κ left key p=true)→(∀p∈x.drop h,gB κ left key p=false)→Q (some h) st):wpS (model prog w) A E s (gallop' left key xs base n hint) Q st:=by
 subst hb hn
 refine w_gallop hL hK (B:=fun i=>if h:i<x.length then gB κ left key x[i] else false) hh hkey (fun i hi=>⟨x[i],Ze2 e hi,hx _ (QW hi),by rw[dif_pos hi]⟩) (fun i j hij hj hB=>?_) fun h hh k1 k2=>q h hh (fun p hp=>?_) fun p hp=>?_
 ·rw[dif_pos hj]at hB
  rw[dif_pos (by omega)]
  by_cases eq:i=j
  ·subst eq;exact hB
  ·exact ZkW (Qaj.mp sx i j (by omega) hj (by omega)) hB
 ·obtain⟨i,hi,rfl⟩:=Q9.mp hp
  rw[Qu]at hi
  have:=k1 i (by omega)
  rw[dif_pos (by omega)]at this
  rw[Qae]
  exact this
 ·obtain⟨i,hi,rfl⟩:=Q9.mp hp
  rw[QN]at hi
  have:=k2 (h+i) (by omega) (by omega)
  rw[dif_pos (by omega)]at this
  rw[QaG]
  exact this
theorem Zns(a:List Keyed)(k:Nat)(b c:List Keyed):a++b++c=a++b.take k++b.drop k++c:=by rw[QG a (b.take k),QI]
theorem ZnH(a:List Keyed)(k:Nat)(b c:List Keyed):a++b++c=a++b.take k++(b.drop k++c):=by rw[← QG,← Zns]
theorem Znn(k f:Nat)(b c:List Keyed):b.take k++(b.drop k++c.take f)++c.drop f=b++c:=by rw[← QG,QI,QG,QI]
theorem ZnS(a:List Keyed)(k f:Nat)(b c d:List Keyed):a++b++(c++d)=(a++b.take k)++(b.drop k++c.take f)++(c.drop f++d):=by
 have:=Znn k f b c
 simp only[List.append_assoc]at this ⊢
 rw[← QG b,← this]
 simp only[List.append_assoc]
theorem Zhp{xs:Array Keyed}{L v R:List Keyed}{i j:Nat}(h:xs.toList=L++v++R)(hi:i=L.length)(hj:j=L.length+v.length):(xs.extract i j).toList=v:=by
 subst hi hj
 rw[Zbj,h,QG,List.drop_left,Nat.add_sub_cancel_left,List.take_left]
theorem ZfC{x y:List Keyed}(h:kS κ x)(s:y.Sublist x):kS κ y:=List.Pairwise.sublist s h
theorem ZkE{key p:Keyed}(h:gB κ false key p=true):κ.kle (kyd κ p) (kyd κ key):=by unfold gB at h;simpa [KeyOrd.kle] using h
theorem gB_f'{key p:Keyed}(h:gB κ false key p=false):κ.kle (kyd κ key) (kyd κ p):=by unfold gB at h;exact KeyOrd.kle_of_klt (show κ.blt _ _=true by simpa using h)
theorem Zm3{key p:Keyed}(h:gB κ true key p=true):κ.kle (kyd κ p) (kyd κ key):=KeyOrd.kle_of_klt (show κ.blt _ _=true from h)
theorem gB_t'{key p:Keyed}(h:gB κ true key p=false):κ.kle (kyd κ key) (kyd κ p):=h
theorem Zj1{p:Keyed}{x:List Keyed}(h:kS κ (p::x)):∀q∈p::x,κ.kle (kyd κ p) (kyd κ q):=fun q hq=>(QM.mp hq).elim (fun e=>by rw[e];exact KeyOrd.kle_refl _) fun hq=>(List.pairwise_cons.mp h).1 q hq
theorem ZlI{p:Keyed}{x:List Keyed}(h:kS κ (x++[p])):∀q∈x++[p],κ.kle (kyd κ q) (kyd κ p):=fun q hq=>(Qt.mp hq).elim (fun hq=>(QaJ.mp h).2.2 q hq p (Qg.mpr rfl)) fun e=>by rw[Qg.mp e];exact KeyOrd.kle_refl _
theorem Rn.has{rs:List (List Keyed)}{rest:List Keyed}(R:Rn κ k0 a₀ st rs rest)(hk:PyProof.Rows.KeysOf κ a₀){p:Keyed}(h:p∈(arrOf st).toList):Has κ p:=hk p ((Array.perm_iff_toList_perm.mp R.perm).mem_iff.mp h)
theorem Rn.up{l:List (List Keyed)}{x y:List Keyed}{m:List (List Keyed)}{rest:List Keyed}(R:Rn κ k0 a₀ st (l++x::y::m) rest){st':SortSt}{z:List Keyed}(hk:kindOf st'=k0)(hf:failedOf st'=none)(ha:(arrOf st').toList=l.flatten++z++(m.flatten++rest))(hz:z.Perm (x++y))(sz:kS κ z)
  (hp:(pendingOf st').toList.map ZbM=ZdC 0 (l++z::m)):Rn κ k0 a₀ st' (l++z::m) rest:=by
 refine⟨hk,hf,by rw[ha];simp,?_,?_,?_,hp⟩
 ·refine Array.Perm.trans ?_ R.perm
  rw[Array.perm_iff_toList_perm,ha,R.arr]
  have:(l.flatten++z++(m.flatten++rest)).Perm (l.flatten++(x++y)++(m.flatten++rest)):=QaY _ (QaD _ hz)
  simpa [List.append_assoc] using this
 ·intro r hr
  rcases Qt.mp hr with h|h
  ·exact R.srt r (QO _ h)
  ·rcases QM.mp h with rfl|h
   ·exact sz
   ·exact R.srt r (Qf _ (Qi _ (Qi _ h)))
 ·intro r hr
  rcases Qt.mp hr with h|h
  ·exact R.ne r (QO _ h)
  ·rcases QM.mp h with rfl|h
   ·intro e
    rw[e]at hz
    have e2:=hz.nil_eq
    exact R.ne x (Qf _ (Qp ..)) (List.append_eq_nil_iff.mp e2.symm).1
   ·exact R.ne r (Qf _ (Qi _ (Qi _ h)))
theorem w_at(hL:Zdd prog w A s k0 κ)(hk:PyProof.Rows.KeysOf κ a₀){l:List (List Keyed)}{x y:List Keyed}{m:List (List Keyed)}{rest:List Keyed}(R:Rn κ k0 a₀ st (l++x::y::m) rest){Q:Bool→SortSt→Prop}
  (q:∀st' z,Rn κ k0 a₀ st' (l++z::m) rest→z.length=x.length+y.length→Q true st'):wpS (model prog w) A E s (mergeAt' l.length) Q st:=by
 have hx:x≠[]:=R.ne x (Qf _ (Qp ..))
 have hy:y≠[]:=R.ne y (Qf _ (Qi _ (Qp ..)))
 have sx:kS κ x:=R.srt x (Qf _ (Qp ..))
 have sy:kS κ y:=R.srt y (Qf _ (Qi _ (Qp ..)))
 have arr:(arrOf st).toList=l.flatten++x++(y++(m.flatten++rest)):=by rw[R.arr];simp
 have arr2:(arrOf st).toList=(l.flatten++x)++y++(m.flatten++rest):=by rw[R.arr];simp
 have hasx:∀p∈x,Has κ p:=fun p hp=>R.has hk (by rw[arr];exact QO _ (Qf _ hp))
 have hasy:∀p∈y,Has κ p:=fun p hp=>R.has hk (by rw[arr2];exact QO _ (Qf _ hp))
 have K1:∀P g,kindOf (SortSt.mk' (kindOf st) (arrOf st) P g (failedOf st))=k0:=fun _ _=>R.kind
 have hp:=R.pend
 rw[Zdb]at hp
 obtain⟨Pl,P2,eP,h1,h2⟩:=List.map_eq_append_iff.mp hp
 obtain⟨p1,P3,rfl,h3,h4⟩:=List.map_eq_cons_iff.mp h2
 obtain⟨p2,Pm,rfl,h5,h6⟩:=List.map_eq_cons_iff.mp h4
 have lP:Pl.length=l.length:=by have:=congrArg List.length h1;rw[Qb,Zeh]at this;exact this
 obtain⟨sa,na,pw⟩:=p1
 obtain⟨sb,nb,pw2⟩:=p2
 have esa:sa=l.flatten.length:=by have:=congrArg Prod.fst h3;simpa [ZbM] using this
 have ena:na=x.length:=by have:=congrArg Prod.snd h3;simpa [ZbM] using this
 have esb:sb=l.flatten.length+x.length:=by have:=congrArg Prod.fst h5;simpa [ZbM] using this
 have enb:nb=y.length:=by have:=congrArg Prod.snd h5;simpa [ZbM] using this
 have g1:(pendingOf st)[l.length]? = some (sa,na,pw):=by rw[← QP,eP,← lP];simp
 have g2:(pendingOf st)[l.length+1]? = some (sb,nb,pw2):=by
  rw[← QP,eP,← lP,QZ (by omega),show Pl.length+1-Pl.length=1 by omega];rfl
 have npend:∀z:List Keyed,z.length=x.length+y.length→(((pendingOf st).setIfInBounds l.length (sa,na+nb,pw)).eraseIdxIfInBounds (l.length+1)).toList.map ZbM=ZdC 0 (l++z::m):=fun z hz=>by
  have e:(((pendingOf st).setIfInBounds l.length (sa,na+nb,pw)).eraseIdxIfInBounds (l.length+1)).toList=Pl++(sa,na+nb,pw)::Pm:=by
   rw[Array.toList_eraseIdxIfInBounds,Array.toList_setIfInBounds,eP,← lP]
   simp[List.eraseIdx_append_of_length_le]
  rw[e,Zdb,Qh,h1,QD,h6]
  simp only[ZdC,ZbM,hz,esa,ena,enb,Nat.zero_add,Nat.add_assoc]
 obtain⟨y0,yt,rfl⟩:∃y0 yt,y=y0::yt:=by cases y with|nil=>exact absurd rfl hy|cons a b=>exact⟨a,b,rfl⟩
 obtain⟨xt,xl,rfl⟩:∃xt xl,x=xt++[xl]:=⟨x.dropLast,x.getLast hx,(QaA hx).symm⟩
 show wpS _ _ _ _ (get >>= _) _ _
 refine wpS_bind (wpS_get ?_)
 simp only[g1,g2]
 refine wpS_bind ?_
 show wpS _ _ _ _ (modify fun _=>SortSt.mk' (kindOf st) (arrOf st) (((pendingOf st).setIfInBounds l.length (sa,na+nb,pw)).eraseIdxIfInBounds (l.length+1)) (gallopOf st) (failedOf st)) _ _
 refine wpS_modify ?_
 refine wpS_bind (w_elem (p:=y0) ?_ ?_)
 ·have:=Ze2 arr2 (i:=0) (by simp)
  rw[esb]
  simpa using this
 refine wpS_bind ?_
 refine w_galL hL (K1 _ _) (left:=false) (hint:=0) (L:=l.flatten) (x:=xt++[xl]) (R:=y0::yt++(m.flatten++rest)) (by rw[arr]) esa ena (by rw[ena];simp) (hasy y0 (Qp ..)) hasx sx fun k hk1 k1 k2=>?_
 dsimp only
 refine w_bq (fun h=>wpS_pure ?_) fun hk2=>?_
 ·refine q _ ((xt++[xl])++(y0::yt)) (R.up R.kind R.failed (by show (arrOf st).toList=_;rw[arr];simp) (List.Perm.refl _) (ZbG sx sy fun p hp r hr=>?_) (npend _ (Qe ..))) (Qe ..)
  exact KeyOrd.kle_trans (ZkE (k1 p (by rw[Qq (by omega)];exact hp))) (Zj1 sy r hr)
 refine wpS_bind (w_elem (p:=xl) ?_ ?_)
 ·have:=Ze2 arr (i:=xt.length) (by simp)
  simp only[List.getElem_concat_length]at this
  rw[← this]
  congr 1
  simp at ena
  omega
 refine wpS_bind ?_
 refine w_galL hL (K1 _ _) (left:=true) (hint:=nb-1) (L:=l.flatten++(xt++[xl])) (x:=y0::yt) (R:=m.flatten++rest) (by rw[arr2]) (by rw[esb];simp) enb (by rw[enb];simp) (hasx xl (Qf _ (Qg.mpr rfl))) hasy sy fun f hf f1 f2=>?_
 dsimp only
 refine w_bq (fun h=>wpS_pure ?_) fun hf2=>?_
 ·refine q _ ((xt++[xl])++(y0::yt)) (R.up R.kind R.failed (by show (arrOf st).toList=_;rw[arr];simp) (List.Perm.refl _) (ZbG sx sy fun p hp r hr=>?_) (npend _ (Qe ..))) (Qe ..)
  subst h
  exact KeyOrd.kle_trans (ZlI sx p hp) (gB_t' (f2 r hr))
 have hk3:k≤xt.length:=by simp at ena;omega
 have hf3:f≤(y0::yt).length:=by omega
 have eX:((arrOf st).extract (sa+k) sb).toList=(xt++[xl]).drop k:=Zhp (L:=l.flatten++(xt++[xl]).take k) (R:=y0::yt++(m.flatten++rest)) (by rw[arr];exact Zns _ k _ _) (by rw[esa,Qe,Qu];simp;omega) (by rw[esb];simp;omega)
 have eY:((arrOf st).extract sb (sb+f)).toList=(y0::yt).take f:=Zhp (L:=l.flatten++(xt++[xl])) (R:=(y0::yt).drop f++(m.flatten++rest)) (by rw[arr2];exact ZnH _ f _ _) (by rw[esb];simp) (by rw[esb,Qu];simp at hf3 ⊢;omega)
 have memX:∀i,i<((arrOf st).extract (sa+k) sb).size→∃p∈(xt++[xl]).drop k,KK κ ((arrOf st).extract (sa+k) sb) i=kyd κ p:=fun i hi=>⟨_,by rw[← eX];exact QaQ hi,ZO hi⟩
 have memY:∀i,i<((arrOf st).extract sb (sb+f)).size→∃p∈(y0::yt).take f,KK κ ((arrOf st).extract sb (sb+f)) i=kyd κ p:=fun i hi=>⟨_,by rw[← eY];exact QaQ hi,ZO hi⟩
 have LP:Zc6 κ ((arrOf st).extract (sa+k) sb) ((arrOf st).extract sb (sb+f)):=by
  have szX:((arrOf st).extract (sa+k) sb).size=(xt++[xl]).length-k:=by rw[← Qs,eX,QN]
  have szY:((arrOf st).extract sb (sb+f)).size=f:=by rw[← Qs,eY,Qu];omega
  refine⟨by rw[eX];exact fun p hp=>hasx p (Qad hp),by rw[eY];exact fun p hp=>hasy p (Qac hp),by rw[eX];exact ZfC sx (List.drop_sublist _ _),by rw[eY];exact ZfC sy (List.take_sublist _ _),by rw[szX];simp;omega,by rw[szY];omega,fun i hi=>?_,fun i hi=>?_⟩
  ·obtain⟨p,hp,e⟩:=memX i hi
   rw[e,ZiS (show ((arrOf st).extract sb (sb+f))[0]? = some y0 by rw[← QP,eY,List.getElem?_take_of_lt (by omega)];rfl)]
   exact gB_f' (k2 p hp)
  ·obtain⟨p,hp,e⟩:=memY i hi
   rw[e,szX,ZiS (show ((arrOf st).extract (sa+k) sb)[(xt++[xl]).length-k-1]? = some xl by rw[← QP,eX,List.drop_append_of_le_length hk3,QZ (by rw[QN,Qe];simp;omega),QN,Qe,show xt.length+[xl].length-k-1-(xt.length-k)=0 by simp;omega];rfl)]
   exact Zm3 (f1 p hp)
 refine w_if (fun h=>wpS_bind (w_lo hL (K1 _ _) LP fun r st2 hr S2=>?_)) fun h=>wpS_bind (w_hi hL (K1 _ _) LP fun r st2 hr S2=>?_)
 all_goals
  refine wpS_bind (wpS_modify ?_)
  refine wpS_bind (wpS_get ?_)
  have eF:failedOf st2=none:=S2.2.2.2.trans R.failed
  show wpS _ _ _ _ (pure (failedOf st2).isNone) _ _
  rw[eF]
  obtain⟨hr1,hr2⟩:=hr
  rw[eX,eY]at hr1
  have lr:r.toList.length=((xt++[xl]).drop k++(y0::yt).take f).length:=hr1.length_eq
  have pz:((xt++[xl]).take k++r.toList++(y0::yt).drop f).Perm ((xt++[xl])++(y0::yt)):=by
   have p1:=QaY ((y0::yt).drop f) (QaD ((xt++[xl]).take k) hr1)
   rw[Znn]at p1
   exact p1
  refine wpS_pure (q _ ((xt++[xl]).take k++r.toList++(y0::yt).drop f) (R.up (S2.1.trans R.kind) eF ?_ pz ?_ ?_) (by rw[pz.length_eq,Qe]))
  ·have pb:=ZfL (sa:=sa+k) (R:=(y0::yt).drop f++(m.flatten++rest)) r.toList ((xt++[xl]).drop k++(y0::yt).take f) (l.flatten++(xt++[xl]).take k) 0 (arrOf st2) (by
    rw[S2.2.1]
    show (arrOf st).toList=_
    rw[arr]
    exact ZnS _ k f _ _ _) (by rw[esa,Qe,Qu];simp;omega) lr.symm
   refine Eq.trans pb ?_
   simp
  ·refine ZbG (ZbG (ZfC sx (List.take_sublist _ _)) hr2 fun p hp z hz=>?_) (ZfC sy (List.drop_sublist _ _)) (Zc7 (fun p hp z hz=>?_) fun p hp z hz=>?_)
   ·rcases Qt.mp (hr1.mem_iff.mp hz) with hz|hz
    ·exact KeyOrd.kle_trans (ZkE (k1 p hp)) (gB_f' (k2 z hz))
    ·exact KeyOrd.kle_trans (ZkE (k1 p hp)) (Zj1 sy z (Qac hz))
   ·exact KeyOrd.kle_trans (ZkE (k1 p hp)) (Zj1 sy z (Qad hz))
   ·rcases Qt.mp (hr1.mem_iff.mp hp) with hp|hp
    ·exact KeyOrd.kle_trans (ZlI sx p (Qad hp)) (gB_t' (f2 z hz))
    ·exact KeyOrd.kle_trans (Zm3 (f1 p hp)) (gB_t' (f2 z hz))
  ·show (pendingOf st2).toList.map ZbM=_
   rw[S2.2.2.1]
   exact npend _ (by rw[pz.length_eq,Qe])
end
section
variable {prog:Program} {w:World} {A:Around} {E:Value→Shared→Prop} {s:Shared} {κ:PyProof.Rows.KeyKind} {k0:SortKind} {st st0:SortSt} {a₀:Array Keyed} {α:Type} {lo:Nat}
theorem w_jp0{c:Prop}[Decidable c]{X J:StateT SortSt Sem α}{Q:α→SortSt→Prop}(P:SortSt→Prop)(H:∀st',P st'→wpS (model prog w) A E s J Q st')(hX:(∀st',P st'→wpS (model prog w) A E s J Q st')→c→wpS (model prog w) A E s X Q st)(hY:¬ c→P st):wpS (model prog w) A E s (if c then X else J) Q st:=by
 by_cases h:c
 ·rw[if_pos h];exact hX H h
 ·rw[if_neg h];exact H st (hY h)
structure Ph (k0:SortKind) (a₀:Array Keyed) (lo:Nat) (st0 st:SortSt):Prop where
 kind:kindOf st=k0
 failed:failedOf st=none
 pend:pendingOf st=pendingOf st0
 perm:(arrOf st).Perm a₀
 pre:∀k,k<lo→(arrOf st)[k]? = (arrOf st0)[k]?
def SgK(κ:PyProof.Rows.KeyKind)(xs:Array Keyed)(lo n:Nat):Prop:=∀i j,lo≤i→i≤j→j<lo+n→κ.kle (KK κ xs i) (KK κ xs j)
def NiK(κ:PyProof.Rows.KeyKind)(xs:Array Keyed)(lo n:Nat):Prop:=∀i j,lo≤i→i≤j→j<lo+n→κ.kle (KK κ xs j) (KK κ xs i)
theorem Ph.size(B:Ph k0 a₀ lo st0 st):(arrOf st).size=a₀.size:=B.perm.size_eq
theorem Ph.rev(B:Ph k0 a₀ lo st0 st){i j:Nat}(hi:lo≤i)(hj:j≤a₀.size):Ph k0 a₀ lo st0 (setArr st (mirror (arrOf st) i j ((j-i) / 2))) :=
 ⟨B.kind,B.failed,B.pend,(mirror_perm _ _ _ _).trans B.perm,fun k hk=>by
  show (mirror (arrOf st) i j ((j-i) / 2))[k]? = _
  rw[getElem?_mirror_all (by rw[B.size];exact hj),if_neg (by omega)]
  exact B.pre k hk⟩
theorem Ph.dn(B:Ph k0 a₀ lo st0 st){src d:Nat}(hs:src<a₀.size)(hd:d≤src)(hi:lo≤src-d):Ph k0 a₀ lo st0 (setArr st (bubble (arrOf st) src d)) :=
 ⟨B.kind,B.failed,B.pend,(bubble_perm _ _ _).trans B.perm,fun k hk=>by
  show (bubble (arrOf st) src d)[k]? = _
  rw[getElem?_bubble (by rw[B.size];exact hs) d hd,if_neg (by omega),if_neg (by omega)]
  exact B.pre k hk⟩
theorem w_ltA(hL:Zdd prog w A s k0 κ)(hk:PyProof.Rows.KeysOf κ a₀)(B:Ph k0 a₀ lo st0 st){i j:Nat}(hi:i<a₀.size)(hj:j<a₀.size){Q:Option Bool→SortSt→Prop}(q:Q (some (κ.blt (KK κ (arrOf st) i) (KK κ (arrOf st) j))) st):wpS (model prog w) A E s (ltAt' i j) Q st:=by
 have hi':i<(arrOf st).size:=by rw[B.size];exact hi
 have hj':j<(arrOf st).size:=by rw[B.size];exact hj
 have has:∀n (h:n<(arrOf st).size),Has κ (arrOf st)[n]:=fun n h=>hk _ ((Array.perm_iff_toList_perm.mp B.perm).mem_iff.mp (QaQ h))
 rw[ltAt'_eq]
 refine wpS_bind (wpS_get ?_)
 refine wpS_bind (w_elem (ZQ hi') (wpS_bind (w_elem (ZQ hj') ?_)))
 refine w_ltp hL B.kind (has i hi') (has j hj') ?_
 rw[← ZO hi',← ZO hj']
 exact q
theorem SgK.succ{xs:Array Keyed}{i:Nat}(h0:1≤i)(S:SgK κ xs lo i)(h:κ.kle (KK κ xs (lo+i-1)) (KK κ xs (lo+i))):SgK κ xs lo (i+1):=by
 intro a b ha hab hb
 by_cases e:b<lo+i
 ·exact S a b ha hab e
 ·have eb:b=lo+i:=by omega
  subst eb
  by_cases ea:a=lo+i
  ·subst ea;exact KeyOrd.kle_refl _
  ·exact KeyOrd.kle_trans (S a (lo+i-1) ha (by omega) (by omega)) h
theorem NiK.succ{xs:Array Keyed}{i:Nat}(h0:1≤i)(S:NiK κ xs lo i)(h:κ.kle (KK κ xs (lo+i)) (KK κ xs (lo+i-1))):NiK κ xs lo (i+1):=by
 intro a b ha hab hb
 by_cases e:b<lo+i
 ·exact S a b ha hab e
 ·have eb:b=lo+i:=by omega
  subst eb
  by_cases ea:a=lo+i
  ·subst ea;exact KeyOrd.kle_refl _
  ·exact KeyOrd.kle_trans h (S a (lo+i-1) ha (by omega) (by omega))
theorem w_countA(hL:Zdd prog w A s k0 κ)(hk:PyProof.Rows.KeysOf κ a₀){nrem:Nat}(hn:lo+nrem≤a₀.size)(h1:1≤nrem)(B:Ph k0 a₀ lo st0 st){Q:Option Nat→SortSt→Prop}
  (q:∀ (m:Nat) (st':SortSt),Ph k0 a₀ lo st0 st'→1≤m→m≤nrem→SgK κ (arrOf st') lo m→Q (some m) st'):wpS (model prog w) A E s (countRun' lo nrem) Q st:=by
 show wpS _ _ _ _ (forIn [1:nrem] (none,1) _ >>= _) _ _
 refine wpS_bind (wpS_mono (wpS_forRange (fun i c st'=>st'=st∧c=(none,i)∧SgK κ (arrOf st) lo i)
  (Q:=fun c st'=>st'=st∧∃n,c=(none,n)∧1≤n∧n≤nrem∧SgK κ (arrOf st) lo n∧(n=nrem∨κ.klt (KK κ (arrOf st) (lo+n)) (KK κ (arrOf st) (lo+n-1)))) ?_ ?_ ⟨rfl,rfl,fun i j a b c=>by obtain rfl:i=j:=(by omega);exact KeyOrd.kle_refl _⟩) ?_)
 ·rintro i c st' hi hi2 ⟨rfl,rfl,S⟩
  dsimp only
  refine wpS_bind (w_ltA hL hk B (by omega) (by omega) ?_)
  cases hb:κ.blt (KK κ (arrOf st') (lo+i)) (KK κ (arrOf st') (lo+i-1)) with
  | true=>exact wpS_pure ⟨rfl,i,rfl,by omega,by omega,S,.inr hb⟩
  | false=>exact wpS_pure ⟨rfl,rfl,S.succ (by omega) hb⟩
 ·rintro c st' ⟨rfl,rfl,S⟩
  rw[show max 1 nrem=nrem by omega]at S ⊢
  exact⟨rfl,nrem,rfl,by omega,by omega,S,.inl rfl⟩
 rintro c st' ⟨rfl,n,rfl,n1,n2,S,hor⟩
 dsimp only
 refine w_bq (fun _=>wpS_pure (q n _ B n1 n2 S)) fun hne=>?_
 have hlt:=hor.resolve_left hne
 refine w_jp0 (fun st1=>Ph k0 a₀ lo st0 st1∧NiK κ (arrOf st1) lo (n+1)) ?_ ?_ ?_
 ·rintro st1 ⟨B1,N1⟩
  refine wpS_bind (wpS_lift (wpAny_rule ⟨rfl,?_⟩))
  refine wpS_bind (wpS_mono (wpS_forRange (fun i c st2=>∃neq,c=(none,i,neq)∧Ph k0 a₀ lo st0 st2∧NiK κ (arrOf st2) lo i∧neq+1≤i∧(∀k,lo+i-(neq+1)≤k→k<lo+i→KK κ (arrOf st2) k=KK κ (arrOf st2) (lo+i-1)))
   (Q:=fun c st2=>∃i neq,c=(none,i,neq)∧Ph k0 a₀ lo st0 st2∧n+1≤i∧i≤nrem∧NiK κ (arrOf st2) lo i∧neq+1≤i∧(∀k,lo+i-(neq+1)≤k→k<lo+i→KK κ (arrOf st2) k=KK κ (arrOf st2) (lo+i-1))) ?_ ?_ ⟨0,rfl,B1,N1,by omega,fun k k1 k2=>by rw[show k=lo+(n+1)-1 by omega]⟩) ?_)
  ·rintro i c st2 hi hi2 ⟨neq,rfl,B2,N2,q2,e2⟩
   dsimp only
   refine wpS_bind (w_ltA hL hk B2 (by omega) (by omega) ?_)
   cases hb:κ.blt (KK κ (arrOf st2) (lo+i)) (KK κ (arrOf st2) (lo+i-1)) with
   | true =>
    show wpS _ _ _ _ (if neq>0 then _ else _) _ _
    refine w_jp0 (fun st3=>Ph k0 a₀ lo st0 st3∧NiK κ (arrOf st3) lo (i+1)) ?_ (fun H h0=>?_) fun _=>⟨B2,N2.succ (by omega) (KeyOrd.kle_of_klt hb)⟩
    ·rintro st3 ⟨B3,N3⟩
     exact wpS_pure ⟨0,rfl,B3,N3,by omega,fun k k1 k2=>by rw[show k=lo+(i+1)-1 by omega]⟩
    refine wpS_bind (w_rev (H _ ⟨B2.rev (by omega) (by omega),?_⟩))
    have e:=KK_mirror_equal (κ:=κ) (xs:=arrOf st2) (i:=lo+i-(neq+1)) (j:=lo+i) (by rw[B2.size];omega) e2
    intro x y hx hxy hy
    show κ.kle (KK κ (mirror _ _ _ _) y) (KK κ (mirror _ _ _ _) x)
    rw[e x,e y]
    exact N2.succ (by omega) (KeyOrd.kle_of_klt hb) x y hx hxy hy
   | false =>
    refine wpS_bind (w_ltA hL hk B2 (by omega) (by omega) ?_)
    cases hb2:κ.blt (KK κ (arrOf st2) (lo+i-1)) (KK κ (arrOf st2) (lo+i)) with
    | true=>exact wpS_pure ⟨i,neq,rfl,B2,by omega,by omega,N2,q2,e2⟩
    | false =>
     have ee:=κ.total _ _ hb hb2
     refine wpS_pure ⟨neq+1,rfl,B2,N2.succ (by omega) hb2,by omega,fun k k1 k2=>?_⟩
     rw[show lo+(i+1)-1=lo+i by omega,ee]
     by_cases hki:k=lo+i
     ·rw[hki,ee]
     ·exact e2 k (by omega) (by omega)
  ·rintro c st2 ⟨neq,rfl,B2,N2,q2,e2⟩
   rw[show max (n+1) nrem=nrem by omega]at *
   exact⟨nrem,neq,rfl,B2,by omega,by omega,N2,q2,e2⟩
  rintro c st2 ⟨i,neq,rfl,B2,i1,i2,N2,q2,e2⟩
  dsimp only
  refine w_jp0 (fun st3=>Ph k0 a₀ lo st0 st3∧NiK κ (arrOf st3) lo i) (fun st3 h3=>?_) (fun H h0=>?_) fun _=>⟨B2,N2⟩
  ·obtain⟨B3,N3⟩:=h3
   refine wpS_bind (w_rev ?_)
   have B4:=B3.rev (i:=lo) (j:=lo+i) (Qd _) (by omega)
   have e:=KK_mirror (κ:=κ) (xs:=arrOf st3) (i:=lo) (j:=lo+i) (by rw[B3.size];omega)
   have S4:SgK κ (mirror (arrOf st3) lo (lo+i) ((lo+i-lo) / 2)) lo i:=fun x y hx hxy hy=>by
    rw[e x,e y,if_pos ⟨by omega,by omega⟩,if_pos ⟨by omega,by omega⟩]
    exact N3 _ _ (by omega) (by omega) (by omega)
   refine wpS_bind (wpS_mono (wpS_forRange (fun j c st5=>st5=(setArr st3 (mirror (arrOf st3) lo (lo+i) ((lo+i-lo) / 2)))∧c=(none,j)∧SgK κ (mirror (arrOf st3) lo (lo+i) ((lo+i-lo) / 2)) lo j)
    (Q:=fun c st5=>st5=(setArr st3 (mirror (arrOf st3) lo (lo+i) ((lo+i-lo) / 2)))∧∃n,c=(none,n)∧1≤n∧n≤nrem∧SgK κ (mirror (arrOf st3) lo (lo+i) ((lo+i-lo) / 2)) lo n) ?_ ?_ ⟨rfl,rfl,S4⟩) ?_)
   ·rintro j c st5 hj hj2 ⟨rfl,rfl,S5⟩
    dsimp only
    refine wpS_bind (w_ltA hL hk B4 (by omega) (by omega) ?_)
    cases hb:κ.blt (KK κ (mirror (arrOf st3) lo (lo+i) ((lo+i-lo) / 2)) (lo+j)) (KK κ (mirror (arrOf st3) lo (lo+i) ((lo+i-lo) / 2)) (lo+j-1)) with
    | true=>exact wpS_pure ⟨rfl,j,rfl,by omega,by omega,S5⟩
    | false=>exact wpS_pure ⟨rfl,rfl,S5.succ (by omega) hb⟩
   ·rintro c st5 ⟨rfl,rfl,S5⟩
    rw[show max i nrem=nrem by omega]at S5 ⊢
    exact⟨rfl,nrem,rfl,by omega,by omega,S5⟩
   ·rintro c st5 ⟨rfl,m,rfl,m1,m2,S5⟩
    exact wpS_pure (q m _ B4 m1 m2 S5)
  ·refine wpS_bind (w_rev (H _ ⟨B2.rev (by omega) (by omega),?_⟩))
   have e:=KK_mirror_equal (κ:=κ) (xs:=arrOf st2) (i:=lo+i-(neq+1)) (j:=lo+i) (by rw[B2.size];omega) e2
   intro x y hx hxy hy
   show κ.kle (KK κ (mirror _ _ _ _) y) (KK κ (mirror _ _ _ _) x)
   rw[e x,e y]
   exact N2 x y hx hxy hy
 ·intro H h0
  refine wpS_bind (w_ltA hL hk B (by omega) (by omega) ?_)
  cases hb:κ.blt (KK κ (arrOf st') lo) (KK κ (arrOf st') (lo+n-1)) with
  | true=>exact wpS_pure (q n _ B n1 n2 S)
  | false =>
   have hf:∀k,lo≤k→k<lo+n→KK κ (arrOf st') k=KK κ (arrOf st') (lo+n-1):=fun k k1 k2 =>
    KeyOrd.kle_antisymm (S k (lo+n-1) k1 (by omega) (by omega)) (KeyOrd.kle_trans (show κ.kle (KK κ (arrOf st') (lo+n-1)) (KK κ (arrOf st') lo) from hb) (S lo k (by omega) k1 k2))
   refine wpS_bind (w_rev (H _ ⟨B.rev (Qd _) (by omega),?_⟩))
   have e:=KK_mirror_equal (κ:=κ) (xs:=arrOf st') (i:=lo) (j:=lo+n) (by rw[B.size];omega) hf
   intro x y hx hxy hy
   show κ.kle (KK κ (mirror _ _ _ _) y) (KK κ (mirror _ _ _ _) x)
   rw[e x,e y]
   refine NiK.succ n1 (fun a b ha hab hb=>?_) (KeyOrd.kle_of_klt hlt) x y hx hxy hy
   rw[hf a ha (by omega),hf b (by omega) hb]
   exact KeyOrd.kle_refl _
 ·intro h0
  refine⟨B,NiK.succ n1 (fun a b ha hab hb=>?_) (KeyOrd.kle_of_klt hlt)⟩
  obtain rfl:a=b:=by omega
  exact KeyOrd.kle_refl _
theorem w_binA(hL:Zdd prog w A s k0 κ)(hk:PyProof.Rows.KeysOf κ a₀){n ok:Nat}(hn:lo+n≤a₀.size)(h1:ok≤n)(h0:1≤ok)(B:Ph k0 a₀ lo st0 st)(S:SgK κ (arrOf st) lo ok){Q:Bool→SortSt→Prop}
  (q:∀ (st':SortSt),Ph k0 a₀ lo st0 st'→SgK κ (arrOf st') lo n→Q true st'):wpS (model prog w) A E s (binarySort' lo n ok) Q st:=by
 rw[binarySort'_eq]
 refine wpS_bind ?_
 refine wpS_forRange (fun i c st'=>c=(none,())∧Ph k0 a₀ lo st0 st'∧SgK κ (arrOf st') lo i) ?_ ?_ ⟨rfl,B,by rw[show max ok 1=ok by omega];exact S⟩
 ·rintro k c st' hak hkn ⟨rfl,B',S'⟩
  refine wpS_bind (wpS_mono (wpS_forRange (fun i c st2=>∃l r,c=(none,l,r)∧st2=st'∧l≤r∧r≤k∧r-l≤k-i∧(∀j,j<l→κ.kle (KK κ (arrOf st') (lo+j)) (KK κ (arrOf st') (lo+k)))∧(∀j,r≤j→j<k→κ.klt (KK κ (arrOf st') (lo+k)) (KK κ (arrOf st') (lo+j))))
   (Q:=fun c st2=>∃l,c=(none,l,l)∧st2=st'∧l≤k∧(∀j,j<l→κ.kle (KK κ (arrOf st') (lo+j)) (KK κ (arrOf st') (lo+k)))∧(∀j,l≤j→j<k→κ.klt (KK κ (arrOf st') (lo+k)) (KK κ (arrOf st') (lo+j)))) ?_ ?_ ⟨0,k,rfl,rfl,Ql _,Qd _,by omega,fun j h=>by omega,fun j h1 h2=>by omega⟩) ?_)
  ·rintro i c st2 hi0 hik ⟨l,r,rfl,rfl,hlr,hrk,hm,hlo,hhi⟩
   dsimp only
   refine w_if (fun hge=>?_) fun hge=>?_
   ·obtain rfl:l=r:=by omega
    exact wpS_pure ⟨l,rfl,rfl,hrk,hlo,hhi⟩
   ·refine wpS_bind (w_ltA hL hk B' (by omega) (by omega) ?_)
    cases hb:κ.blt (KK κ (arrOf st2) (lo+k)) (KK κ (arrOf st2) (lo+(l+r) / 2)) with
    | true=>exact wpS_pure ⟨l,(l+r) / 2,rfl,rfl,by omega,by omega,by omega,hlo,fun j j1 j2=>KeyOrd.klt_of_klt_of_kle hb (S' _ (lo+j) (by omega) (by omega) (by omega))⟩
    | false=>exact wpS_pure ⟨(l+r) / 2+1,r,rfl,rfl,by omega,by omega,by omega,fun j h=>KeyOrd.kle_trans (S' (lo+j) (lo+(l+r) / 2) (by omega) (by omega) (by omega)) hb,hhi⟩
  ·rintro c st2 ⟨l,r,rfl,rfl,hlr,hrk,hm,hlo,hhi⟩
   obtain rfl:l=r:=by omega
   exact⟨l,rfl,rfl,hrk,hlo,hhi⟩
  ·rintro c st2 ⟨l,rfl,rfl,hlk,hlo,hhi⟩
   refine wpS_bind ?_
   rw[moveDown'_eq]
   refine wpS_modify (wpS_pure ⟨rfl,B'.dn (by omega) (by omega) (by omega),?_⟩)
   have eb:=KK_bubble (κ:=κ) (xs:=arrOf st2) (src:=lo+k) (d:=lo+k-(lo+l)) (by rw[B'.size];omega) (by omega)
   have lo':∀j,lo≤j→j<lo+l→κ.kle (KK κ (arrOf st2) j) (KK κ (arrOf st2) (lo+k)):=fun j j1 j2=>by
    have:=hlo (j-lo) (by omega)
    rwa [show lo+(j-lo)=j by omega]at this
   have hi':∀j,lo+l≤j→j<lo+k→κ.klt (KK κ (arrOf st2) (lo+k)) (KK κ (arrOf st2) j):=fun j j1 j2=>by
    have:=hhi (j-lo) (by omega) (by omega)
    rwa [show lo+(j-lo)=j by omega]at this
   intro x y hx hxy hy
   show κ.kle (KK κ (bubble (arrOf st2) (lo+k) (lo+k-(lo+l))) x) (KK κ (bubble (arrOf st2) (lo+k) (lo+k-(lo+l))) y)
   rw[eb x,eb y,show lo+k-(lo+k-(lo+l))=lo+l by omega]
   repeat' split
   all_goals first
    | (exfalso;omega)
    | exact KeyOrd.kle_refl _
    | exact lo' _ (by omega) (by omega)
    | exact KeyOrd.kle_of_klt (hi' _ (by omega) (by omega))
    | exact S' _ _ (by omega) (by omega) (by omega)
 ·rintro c st' ⟨rfl,B',S'⟩
  rw[show max (max ok 1) n=n by omega]at S'
  exact wpS_pure (q st' B' S')
end
section
variable {prog:Program} {w:World} {A:Around} {E:Value→Shared→Prop} {s:Shared} {κ:PyProof.Rows.KeyKind} {k0:SortKind} {st st0:SortSt} {a₀:Array Keyed} {lo:Nat} {rs:List (List Keyed)} {rest:List Keyed}
theorem Ph.runs(R:Rn κ k0 a₀ st0 rs rest)(B:Ph k0 a₀ lo st0 st)(hlo:lo=rs.flatten.length):Rn κ k0 a₀ st rs ((arrOf st).toList.drop lo):=by
 refine⟨B.kind,B.failed,?_,B.perm,R.srt,R.ne,by rw[B.pend];exact R.pend⟩
 have e:(arrOf st).toList.take lo=rs.flatten:=by
  have e0:(arrOf st0).toList.take lo=rs.flatten:=by rw[R.arr,hlo,List.take_left]
  rw[← e0]
  apply QaH
  intro k
  rw[QaU,QaU]
  split
  ·rename_i h
   rw[QP,QP,B.pre k h]
  ·rfl
 rw[← e,QI]
theorem SgK.list{xs:Array Keyed}{n:Nat}(S:SgK κ xs lo n):kS κ ((xs.toList.drop lo).take n):=by
 refine List.pairwise_iff_getElem.mpr fun i j hi hj hij=>?_
 rw[Qu,QN,Qs]at hi hj
 have:=S (lo+i) (lo+j) (by omega) (by omega) (by omega)
 rw[ZO (show lo+i<xs.size by omega),ZO (show lo+j<xs.size by omega)]at this
 rw[Qae,QaG,Qae,QaG,QU,QU]
 exact this
theorem Rn.push(R:Rn κ k0 a₀ st rs rest){n:Nat}(h:kS κ (rest.take n))(h1:1≤n)(h2:n≤rest.length){st':SortSt}(hk:kindOf st'=kindOf st)(hf:failedOf st'=failedOf st)(ha:arrOf st'=arrOf st)(hp:(pendingOf st').toList.map ZbM=(pendingOf st).toList.map ZbM++[(rs.flatten.length,n)]):Rn κ k0 a₀ st' (rs++[rest.take n]) (rest.drop n):=by
 refine⟨hk.trans R.kind,hf.trans R.failed,by rw[ha,R.arr];simp,by rw[ha];exact R.perm,fun r hr=>?_,fun r hr=>?_,?_⟩
 ·rcases Qt.mp hr with hr|hr
  ·exact R.srt r hr
  ·rw[Qg.mp hr];exact h
 ·rcases Qt.mp hr with hr|hr
  ·exact R.ne r hr
  ·rw[Qg.mp hr]
   intro e
   have:=congrArg List.length e
   rw[Qu,List.length_nil]at this
   omega
 ·rw[hp,R.pend,Zdb]
  simp[ZdC,List.length_take,Nat.min_eq_left h2]
theorem Rn.len(R:Rn κ k0 a₀ st rs rest):(pendingOf st).size=rs.length:=by
 have:=congrArg List.length R.pend
 rw[Qb,Zeh,Qs]at this
 exact this
theorem ZjG:∀ (rs:List (List Keyed)) (i:Nat),i+1<rs.length→∃l x y m,rs=l++x::y::m∧l.length=i
 | x::y::m,0,_=>⟨[],x,y,m,rfl,rfl⟩
 | x::r,i+1,h=>by
  obtain⟨l,a,b,m,e,hl⟩:=ZjG r i (by simp at h;omega)
  exact⟨x::l,a,b,m,by rw[e];rfl,by rw[QE,hl]⟩
theorem ZhZ:∀ (rs:List (List Keyed)),(∀r∈rs,r≠[])→rs.length≤rs.flatten.length
 | [],_=>Qd _
 | r::rs,h=>by
  have:=ZhZ rs fun x hx=>h x (Qi _ hx)
  have h0:r.length≠0:=fun e=>h r (Qp ..) (QV e)
  rw[Qal,Qe,QE]
  omega
theorem w_atJ(hL:Zdd prog w A s k0 κ)(hk:PyProof.Rows.KeysOf κ a₀)(R:Rn κ k0 a₀ st rs rest){j:Nat}{Q:Bool→SortSt→Prop}(q:∀st' rs',Rn κ k0 a₀ st' rs' rest→rs'.flatten.length=rs.flatten.length→rs'.length+1=rs.length→Q true st')(hj:j+1<rs.length):wpS (model prog w) A E s (mergeAt' j) Q st:=by
 obtain⟨l,a,b,m,rfl,rfl⟩:=ZjG rs j hj
 refine w_at hL hk R fun st3 z R3 hz=>q st3 _ R3 ?_ (by rw[Qe,Qe];rfl)
 rw[QaO,Qe,QaO,Qe,Qal,Qe,Qal,Qe,Qal,Qe]
 omega
theorem Rn.total(R:Rn κ k0 a₀ st rs rest):rs.flatten.length+rest.length=a₀.size:=by
 rw[← R.perm.size_eq,← Qs,R.arr,Qe]
theorem Zke(l:List (Nat×Nat×Nat))(i:Nat){f:Nat×Nat×Nat→Nat×Nat×Nat}(h:∀x,ZbM (f x)=ZbM x):(l.modify i f).map ZbM=l.map ZbM:=by
 apply QaH
 intro j
 rw[Qr,Qr,List.getElem?_modify]
 cases l[j]? with
 | none=>rfl
 | some x =>
  show some (ZbM (if i=j then f x else x))=some (ZbM x)
  split
  ·rw[h]
  ·rfl
theorem w_jpS{α β:Type}{c:β→Prop}[∀i,Decidable (c i)]{y:β}{X Y:β→StateT SortSt Sem α}{Q:α→SortSt→Prop}(P:β→SortSt→Prop)(H:∀i st',P i st'→wpS (model prog w) A E s (Y i) Q st')(hX:(∀i st',P i st'→wpS (model prog w) A E s (Y i) Q st')→c y→wpS (model prog w) A E s (X y) Q st)(hY:¬ c y→P y st):∀i,y=i→wpS (model prog w) A E s (if c i then X i else Y i) Q st:=by
 rintro _ rfl
 by_cases h:c y
 ·rw[if_pos h];exact hX H h
 ·rw[if_neg h];exact H y st (hY h)
theorem w_runsA(hL:Zdd prog w A s k0 κ)(hk:PyProof.Rows.KeysOf κ a₀)(B:SB k0 a₀ st){Q:Unit→SortSt→Prop}
  (q:∀ (st':SortSt),(arrOf st').Perm a₀→failedOf st'=none→SortedToK κ (arrOf st') a₀.size→Q () st'):wpS (model prog w) A E s sortRuns' Q st:=by
 show wpS _ _ _ _ (get >>= _) _ _
 refine wpS_bind (wpS_get ?_)
 have hsz:(arrOf st).size=a₀.size:=B.size
 have R0:Rn κ k0 a₀ st [] (arrOf st).toList:=⟨B.kind,B.failed,rfl,B.perm,(fun r hr=>by cases hr),(fun r hr=>by cases hr),by rw[B.pend];rfl⟩
 show wpS _ _ _ _ (forIn [:(arrOf st).size] (none,0) _ >>= _) _ _
 generalize minRun' (arrOf st).size (arrOf st).size 0=mr
 rw[hsz]
 refine wpS_bind (wpS_mono (wpS_forRange (fun x c st1=>∃rs rest,c=(none,rs.flatten.length)∧Rn κ k0 a₀ st1 rs rest∧x≤rs.flatten.length) (Q:=fun c st1=>∃rs n,c=(none,n)∧Rn κ k0 a₀ st1 rs []) ?_ ?_ ⟨[],_,rfl,R0,Qd _⟩) ?_)
 ·rintro x c st1 _ hx ⟨rs,rest,rfl,R1,x1⟩
  have T1:=R1.total
  dsimp only
  refine w_if (fun hge=>?_) fun hge=>?_
  ·have:rest=[]:=QV (by omega)
   subst this
   exact wpS_pure ⟨rs,_,rfl,R1⟩
  have B1:Ph k0 a₀ rs.flatten.length st1 st1:=⟨R1.kind,R1.failed,rfl,R1.perm,fun _ _=>rfl⟩
  refine wpS_bind (w_countA hL hk (by omega) (by omega) B1 fun n st2 B2 n1 n2 S2=>?_)
  dsimp only
  have key:∀ (n:Nat) (st3:SortSt),Ph k0 a₀ rs.flatten.length st1 st3→1≤n→n≤a₀.size-rs.flatten.length→SgK κ (arrOf st3) rs.flatten.length n→∃rest,Rn κ k0 a₀ st3 rs rest∧kS κ (rest.take n)∧1≤n∧n≤rest.length:=fun n st3 B3 m1 m2 S3=>by
   have R3:=Ph.runs R1 B3 rfl
   refine⟨_,R3,S3.list,m1,?_⟩
   have:=R3.total
   omega
  generalize hn:n=n'
  revert n' hn
  refine w_jpS (fun n st3=>∃rest,Rn κ k0 a₀ st3 rs rest∧kS κ (rest.take n)∧1≤n∧n≤rest.length) ?_ ?_ fun _=>key n st2 B2 n1 n2 S2
  ·rintro n st3 ⟨rest,R3,s3,l1,l2⟩
   have fin:∀ (rs':List (List Keyed)) (st5 st6:SortSt),Rn κ k0 a₀ st5 rs' rest→rs'.flatten.length=rs.flatten.length→kindOf st6=kindOf st5→failedOf st6=failedOf st5→arrOf st6=arrOf st5→(pendingOf st6).toList.map ZbM=(pendingOf st5).toList.map ZbM++[(rs.flatten.length,n)]→∃rs rest,Rn κ k0 a₀ st6 rs rest∧x+1≤rs.flatten.length∧(none,rs'.flatten.length+n)=((none:Option Unit),rs.flatten.length):=fun rs' st5 st6 R5 e5 a1 a2 a3 a4=>by
    refine⟨_,_,R5.push s3 l1 l2 a1 a2 a3 (by rw[a4,e5]),?_,?_⟩
    ·rw[QaO,Qe,Qal,List.flatten_nil,QH,e5,Qu]
     omega
    ·rw[QaO,Qe,Qal,List.flatten_nil,QH,Qu,Nat.min_eq_left l2]
   refine wpS_bind (wpS_get ?_)
   show wpS _ _ _ _ (match (pendingOf st3).back? with|some (s1,n1,snd)=>_|x=>_) _ _
   rcases hb:(pendingOf st3).back? with _|⟨s1,n1,p1⟩
   ·dsimp only
    refine wpS_bind (wpS_modify (wpS_pure ?_))
    obtain⟨rs2,rest2,R6,h6,e6⟩:=fin rs st3 (setPending st3 ((pendingOf st3).push (rs.flatten.length,n,0))) R3 rfl rfl rfl rfl (by show ((pendingOf st3).push _).toList.map ZbM=_;rw[Qak,Qh];rfl)
    exact⟨rs2,rest2,e6,R6,h6⟩
   ·dsimp only
    refine wpS_bind (wpS_mono (wpS_forRange (fun _ c st4=>∃rs',c=(none,())∧Rn κ k0 a₀ st4 rs' rest∧rs'.flatten.length=rs.flatten.length) (Q:=fun c st4=>∃rs',c=(none,())∧Rn κ k0 a₀ st4 rs' rest∧rs'.flatten.length=rs.flatten.length) ?_ (fun c st4 h=>h) ⟨rs,rfl,R3,rfl⟩) ?_)
    ·rintro y c st4 _ hy ⟨rs',rfl,R4,e4⟩
     refine wpS_bind (wpS_get ?_)
     show wpS _ _ _ _ (match (if (pendingOf st4).size>1 then (pendingOf st4)[(pendingOf st4).size-2]? else none) with|some (fst,fst_1,older)=>_|x=>_) _ _
     by_cases hs:(pendingOf st4).size>1
     ·rw[if_pos hs]
      rcases hp:(pendingOf st4)[(pendingOf st4).size-2]? with _|⟨u,v,older⟩
      ·exact wpS_pure ⟨rs',rfl,R4,e4⟩
      ·refine w_if (fun _=>wpS_pure ⟨rs',rfl,R4,e4⟩) fun _=>?_
       exact wpS_bind (w_atJ hL hk R4 (fun st5 rs5 R5 e5 _=>wpS_pure ⟨_,rfl,R5,e5.trans e4⟩) (by rw[R4.len]at *;omega))
     ·rw[if_neg hs]
      exact wpS_pure ⟨rs',rfl,R4,e4⟩
    ·rintro c st4 ⟨rs',rfl,R4,e4⟩
     dsimp only
     refine wpS_bind (wpS_modify ?_)
     refine wpS_bind (wpS_modify (wpS_pure ?_))
     obtain⟨rs2,rest2,R6,h6,e6⟩:=fin rs' st4 (SortSt.mk' (kindOf st4) (arrOf st4) (((pendingOf st4).modify ((pendingOf st4).size-1) fun x=>(x.1,x.2.1,power' a₀.size (2*s1+n1) (2*s1+n1+n1+n) a₀.size)).push (rs.flatten.length,n,0)) (gallopOf st4) (failedOf st4)) R4 e4 rfl rfl rfl (by
      show (Array.push _ _).toList.map ZbM=_
      rw[Qak,Qh,Array.toList_modify,Zke]
      ·rfl
      ·exact fun _=>rfl)
     rw[e4]at e6
     exact⟨rs2,rest2,e6,R6,h6⟩
  ·intro H hlt
   refine wpS_bind (wpS_lift (wpAny_rule ⟨rfl,?_⟩))
   refine wpS_bind (w_binA hL hk (by omega) (by omega) n1 B2 S2 fun st3 B3 S3=>?_)
   exact H _ _ (key _ st3 B3 (by omega) (by omega) S3)
 ·rintro c st1 ⟨rs,rest,rfl,R1,x1⟩
  have T1:=R1.total
  have:rest=[]:=QV (by omega)
  subst this
  exact⟨rs,_,rfl,R1⟩
 rintro c st1 ⟨rs,n,rfl,R1⟩
 dsimp only
 have T1:rs.flatten.length=a₀.size:=by have:=R1.total;simpa using this
 have L1:=ZhZ rs R1.ne
 refine wpS_bind (wpS_mono (wpS_forRange (fun x c st2=>∃rs,c=(none,())∧Rn κ k0 a₀ st2 rs []∧rs.length≤max 1 (a₀.size-x)) (Q:=fun c st2=>∃rs,c=(none,())∧Rn κ k0 a₀ st2 rs []∧rs.length≤1) ?_ ?_ ⟨rs,rfl,R1,by omega⟩) ?_)
 ·rintro x c st2 _ hx ⟨rs,rfl,R2,h2⟩
  refine wpS_bind (wpS_get ?_)
  have l2:=R2.len
  refine w_if (fun h=>wpS_pure ⟨rs,rfl,R2,by rw[← l2];exact h⟩) fun h=>?_
  have h':¬ (pendingOf st2).size≤1:=h
  refine wpS_bind (w_atJ hL hk R2 (fun st3 rs3 R3 _ e3=>wpS_pure ⟨_,rfl,R3,by omega⟩) ?_)
  have hj:∀ (c:Prop) [Decidable c],(if c then (pendingOf st2).size-2-1 else (pendingOf st2).size-2)+1<rs.length:=fun c _=>by split<;>omega
  exact hj _
 ·rintro c st2 ⟨rs,rfl,R2,h2⟩
  exact⟨rs,rfl,R2,by omega⟩
 ·rintro c st2 ⟨rs,rfl,R2,h2⟩
  refine wpS_pure (q _ R2.perm R2.failed ?_)
  rw[← R2.perm.size_eq]
  refine Zd9 ?_
  rw[R2.arr]
  cases rs with
  | nil=>exact List.Pairwise.nil
  | cons r t =>
   have:t=[]:=QV (by rw[QE]at h2;omega)
   subst this
   simpa using R2.srt r (Qp ..)
end
section
variable {prog:Program} {w:World} {A:Around} {E:Value→Shared→Prop} {s:Shared} {κ:PyProof.Rows.KeyKind}
theorem w_sortA{a:Addr}{vs:List Value}{n:Nat}{P:PySem.Fin→Shared→Prop}(ha:s.heap.get? a=some (seqObj "list" vs.toArray n))(hk:PyProof.Rows.KeysOf κ (pairsOf vs))(h2:2≤vs.length)(hz:vs.length≤sizeLine)
  (hK:∀ (s':Shared),(∀b o,b≠a→s.heap.get? b=some o→s'.heap.get? b=some o)→∀ (E:Value→Shared→Prop) (Q:SortKind→Shared→Prop),(∀k0,Zdd prog w A s' k0 κ→Q k0 s')→wpAny (model prog w) A (keyKind' vs.toArray) Q E s')
  (q:∀ (st':SortSt),(arrOf st').Perm (pairsOf vs)→SortedToK κ (arrOf st') (pairsOf vs).size→P (Fin.done (Flow.ret Value.none)) { s with heap:=sortedHeap s.heap a vs ((arrOf st').map fun x=>x.snd) }) :
  wpAny (model prog w) A (Builtin.«list.sort» { pos:=[.ref a] }) P E s:=by
 rw[← Qo]at hz
 rw[list_sort_plain]
 refine wpAny_bind (Zb6 ha rfl ?_)
 show wpAny _ _ (updateSeq a (fun x=>#[]) >>= _) _ _ _
 refine wpAny_bind (wpAny_updateSeq ha rfl ?_ hz (by show 0≤_;omega))
 have e1:=get?_update_seq ha (fun _=>#[])
 refine wpAny_bind (seqEpoch_at e1 rfl ?_)
 refine wpAny_bind (wpAny_newTuple ?_ (by simpa using hz))
 refine wpAny_bind (wpAny_newList ?_ (by show 0≤_;omega))
 refine wpAny_holding ?_
 have hn2:¬ vs.toArray.size<2:=by rw[Qo];omega
 have hps:(pairsOf vs).size=vs.length:=by unfold pairsOf;simp
 rw[if_neg hn2,if_neg hn2]
 have keep:∀b o,b≠a→s.heap.get? b=some o→(((s.heap.update a (Obj.mapSeq fun _=>#[])).push { cls:=.type "tuple",data:=.seq vs.toArray.toList.toArray }).push { cls:=.type "list",data:=.seq ([]:List Value).toArray }).get? b=some o:=fun b o hb h =>
  Qa _ (Qa _ (Q4 _ (Ne.symm hb) h))
 have e2:(((s.heap.update a (Obj.mapSeq fun _=>#[])).push { cls:=.type "tuple",data:=.seq vs.toArray.toList.toArray }).push { cls:=.type "list",data:=.seq ([]:List Value).toArray }).get? a=some (seqObj "list" #[] _):=Qa _ (Qa _ e1)
 refine wpAny_bind (hK _ keep _ _ fun k0 hL=>?_)
 refine wpAny_bind ?_
 have B:SB k0 (pairsOf vs) (SortSt.mk' k0 (vs.toArray.zip vs.toArray) #[] 7 none):=⟨Array.Perm.refl _,rfl,rfl,rfl⟩
 refine thn (w_runsA (E:=E) hL hk B (Q:=fun _ st'=>(arrOf st').Perm (pairsOf vs)∧failedOf st'=none∧SortedToK κ (arrOf st') (pairsOf vs).size) (fun st' a b c=>⟨a,b,c⟩)) fun r s' hr=>?_
 obtain⟨⟨⟩,st'⟩:=r
 obtain⟨rfl,p1,p2,p3⟩:=hr
 refine wpAny_bind (seqEpoch_at e2 rfl ?_)
 have hsz:((arrOf st').map fun x=>x.snd).size=vs.length:=by rw[Array.size_map,p1.size_eq,hps]
 show wpAny _ _ (updateSeq a (fun x=>(arrOf st').map fun x=>x.snd) >>= _) _ _ _
 refine wpAny_bind (wpAny_updateSeq e2 rfl ?_ (by show 0≤_;omega) (by show ((arrOf st').map fun x=>x.snd).size≤_;rw[hsz];rw[Qo]at hz;omega))
 rw[p2]
 rw[if_neg (by simp)]
 exact wpAny_pure (q st' p1 p3)
theorem w_sortedA{l:Addr}{vs:List Value}{Q:Value→Shared→Prop}(hl:s.heap.IsList l vs.toArray)(hk:PyProof.Rows.KeysOf κ (pairsOf vs))(h2:2≤vs.length)(hz:vs.length≤sizeLine)
  (hK:∀ (A:Around) (s':Shared),(∀b o,s.heap.get? b=some o→s'.heap.get? b=some o)→∀ (E:Value→Shared→Prop) (Q:SortKind→Shared→Prop),(∀k0,Zdd prog w A s' k0 κ→Q k0 s')→wpAny (model prog w) A (keyKind' vs.toArray) Q E s')
  (q:∀ (st':SortSt),(arrOf st').Perm (pairsOf vs)→SortedToK κ (arrOf st') (pairsOf vs).size→Q (.ref (s.heap.objs.size+1)) { s with heap:=sortedAll s.heap vs ((arrOf st').map fun x=>x.snd) }) :
  wpAny (model prog w) A (call (.builtin "sorted") [.ref l]) Q E s:=by
 refine Calls.call_function_entry kind_sorted plain_sorted entry_sorted (args_sorted1 (.ref l)) ?_
 refine wpAny_bind (wpAny_pure (wpAny_bind (collect_list hl (wpAny_bind (wpAny_newList ?_ hz)) hz)))
 have hsz:((s.heap.push (seqObj "list" #[] 0)).update s.heap.objs.size (Obj.mapSeq fun x=>x++vs.toArray)).objs.size=s.heap.objs.size+1:=by rw[Heap.size_update,size_push']
 have hoL:((((s.heap.push (seqObj "list" #[] 0)).update s.heap.objs.size (Obj.mapSeq fun x=>x++vs.toArray)).push (seqObj "list" vs.toArray 0)).get? (s.heap.objs.size+1))=some (seqObj "list" vs.toArray 0):=by
  rw[← hsz];exact Qm _ rfl
 have keep:∀b o,s.heap.get? b=some o→(((s.heap.push (seqObj "list" #[] 0)).update s.heap.objs.size (Obj.mapSeq fun x=>x++vs.toArray)).push (seqObj "list" vs.toArray 0)).get? b=some o:=fun b o h =>
  Qa _ (Q4 _ (QY (Qk h)) (Qa _ h))
 show wpAny _ _ (holding [.ref ((s.heap.push (seqObj "list" #[] 0)).update s.heap.objs.size (Obj.mapSeq fun x=>x++vs.toArray)).objs.size] (call (.builtin "list.sort") [.ref ((s.heap.push (seqObj "list" #[] 0)).update s.heap.objs.size (Obj.mapSeq fun x=>x++vs.toArray)).objs.size]) >>= fun _=>ret (.ref ((s.heap.push (seqObj "list" #[] 0)).update s.heap.objs.size (Obj.mapSeq fun x=>x++vs.toArray)).objs.size)) _ _ _
 rw[hsz]
 refine wpAny_bind (wpAny_holding (wpAny_call_entry slot_list_sort ⟨_,hoL,rfl⟩ entry_list_sort ?_ (args_list_sort _)))
 refine w_sortA hoL hk h2 hz (fun s' hk'=>hK _ s' fun b o h=>hk' b o (Qv (Qx (Qk h) (Qaz _))) (keep b o h)) fun st' p1 p3=>?_
 exact⟨_,rfl,wpAny_pure ⟨_,rfl,q st' p1 p3⟩⟩
end
end L2
set_option maxHeartbeats 4000000
namespace L2
open PySem PySem.Spec PyProof.Rows
section
variable {X:Cx}
end
section
variable {prog:Program} {w:World} {A:Around} {E:Value→Shared→Prop} {s:Shared} {a kS:Addr} {vs:List Value} {kz:List Int} {keys:Array Value} {e e1:Nat} {P:PySem.Fin→Shared→Prop}
end
variable {X:Cx}
end L2
set_option maxHeartbeats 4000000
namespace L2
open PySem PySem.Spec PyProof.Rows
section
variable {X:Cx}
def ZeR:R2:=fun x y H Q=>∃d kvs b ks v,x=.ref d∧y=.ref b∧Rd H d (.dT kvs)∧H b=some (.tup (ks.map kV))∧ZU kvs ks=some v∧Q v H
theorem Zml(hu:X.A.units+64<cLine):IxR X ZeR:=by
 intro value slice pins s σ H x y v u Q I rx ry h hs
 obtain⟨d,kvs,b,ks,z,rfl,rfl,hH,hb,hk,q⟩:=h
 cases rx
 cases ry
 obtain⟨_,hd,xs,rel,o,es,ep,ho,hex,hdat,hent,hnd⟩:=(show Z7 X.prog X.w H s.heap d (.dT kvs) from hH.ok I.hok)
 have hm:s.heap.DictOfH (tupleKind (ZN X.prog X.w)) d xs:=⟨o,es,ep,ho,hex,hdat,hent,Zci (R:=fun ks b=>(tupleKind (ZN X.prog X.w)).is s.heap ks b) (fun ks b e=>I.tkey e) rel,hnd⟩
 obtain⟨p,hp,rp⟩:=ZhP rel hk
 exact subscriptTail_builtinR (x:=p.2) hm.typeIs PySem.F.slot_dict_getitem.lookup (wpAny_getItem_heap (knd:=tupleKind (ZN X.prog X.w)) (by show X.A.units+1<cLine;omega) (I.tkey hb) hm hp ⟨rfl,z,H,I.tok _,rp,q⟩) hs
theorem ZiI{k:Nat}(hr:ZaM k X.A):IxR X ZeR:=Zml hr.units
end
section
variable {prog:Program} {w:World} {A:Around} {E:Value→Shared→Prop} {s:Shared} {it d:Addr} {i ep:Nat} {es:Array DictEntry} {od:Obj} {ok ov:Value}
theorem ZiH{Q:Option Value→Shared→Prop}(hit:IsItemIter s.heap it d i es.size ep ok ov)(hod:s.heap.get? d=some od)(hdd:od.data=.dict es ep)(hlt:i<es.size)
  (hQ:∀h',IsItemIterOut h' it d (i+1) es.size ep es[i].key es[i].val s.heap.objs.size→h'.get? s.heap.objs.size=some { cls:=.type "tuple",data:=.seq #[es[i].key,es[i].val] }→h'.objs.size=s.heap.objs.size+1 →
   (∀b o,b≠it→s.heap.get? b=some o→h'.get? b=some o)→Q (some (.ref s.heap.objs.size)) { s with heap:=h' }):wpAny (model prog w) A (pyNext (.ref it)) Q E s:=by
 obtain⟨hp,g,dr,tk,os⟩:=s
 have ty:∀ {h:Heap} {j:Nat} {a b:Value},IsItemIter h it d j es.size ep a b→Shared.TypeIs ⟨h,g,dr,tk,os⟩ (.ref it) "dict_itemiterator":=fun e=>⟨_,e,rfl⟩
 have hil:it<hp.objs.size:=Qk hit
 have hown:Builtin.Dict_items.ownsTuple "dict_itemiterator" = true:=by decide
 unfold pyNext
 refine wpAny_bind (wpAny_attempt (wpAny_callSpecial?_slot (name:=Str.ofString "__next__") (ty hit) Q6 (wpAny_call_entry Q6 (ty hit) PySem.F.entry_dict_itemiterator_next ?_ (PySem.F.args_dict_itemiterator_next_1 _))))
 refine wpAny_bind (wpAny_pure (wpAny_bind (wpAny_bind ?_)))
 first|refine wpAny_bind (wpAny_typeNameOfWhole_itemiter (ty hit) (wpAny_pure ?_))|refine wpAny_bind (wpAny_typeNameOf_itemiter (ty hit) (wpAny_pure ?_))
 refine wpAny_bind (wpAny_fieldsOf hit rfl ?_)
 simp only[hown,if_true]
 show wpAny _ _ (if (Value.ref d == Value.none)=true then _ else _) _ _ _
 rw[if_neg (show ¬ ((Value.ref d == Value.none)=true) from Qj)]
 refine wpAny_bind (wpAny_pure (wpAny_bind (wpAny_dictEntries hod hdd ?_)))
 rw[if_neg (by simp)]
 refine wpAny_bind (wpAny_pure (wpAny_bind (wpAny_dictEpoch hod hdd ?_)))
 rw[if_neg (by simp)]
 refine wpAny_pure ?_
 simp only[show ¬ ((i:Int)<0) from by omega,if_false,Int.toNat_natCast,Array.getElem?_eq_getElem hlt]
 refine wpAny_bind ?_
 first|refine wpAny_bind (wpAny_typeNameOfWhole_itemiter (ty hit) (wpAny_pure ?_))|refine wpAny_bind (wpAny_typeNameOf_itemiter (ty hit) (wpAny_pure ?_))
 refine wpAny_bind (wpAny_isOneOf_itemiter (ty hit) ?_)
 show wpAny _ _ (setField (.ref it) 3 (rawInt ((i:Int)+1)) >>= _) _ _ ⟨hp,g,dr,tk,os⟩
 refine wpAny_bind (wpAny_setField_rec hit (by simp) fun h₁ he₁ hs₁=>?_)
 replace hs₁:Heap.SameBut it hp h₁:=hs₁
 replace he₁:IsItemIter h₁ it d (i+1) es.size ep ok ov:=by
  unfold IsItemIter;rw[show ((i+1:Nat):Int)=(i:Int)+1 by omega];simpa [rawInt] using he₁
 refine wpAny_bind (wpAny_holding (wpAny_bind (wpAny_isOneOf_itemiter (ty he₁) (wpAny_bind (wpAny_isOneOf_itemiter (ty he₁) ?_)))))
 show wpAny _ _ (Builtin.Dict_items.pairFromOwner (.ref it) 6 es[i].key es[i].val) _ _ ⟨h₁,g,dr,tk,os⟩
 unfold Builtin.Dict_items.pairFromOwner
 refine wpAny_bind (wpAny_newTuple ?_)
 have he₂:IsItemIter (h₁.push { cls:=.type "tuple",data:=.seq #[es[i].key,es[i].val] }) it d (i+1) es.size ep ok ov:=Qa _ he₁
 have ht₂:(h₁.push { cls:=.type "tuple",data:=.seq #[es[i].key,es[i].val] }).get? hp.objs.size=some { cls:=.type "tuple",data:=.seq #[es[i].key,es[i].val] }:=by rw[← hs₁.1];exact Qm _ rfl
 have hz₂:(h₁.push { cls:=.type "tuple",data:=.seq #[es[i].key,es[i].val] }).objs.size=hp.objs.size+1:=by rw[Q5,hs₁.1]
 have hk₂:∀b o,b≠it→hp.get? b=some o→(h₁.push { cls:=.type "tuple",data:=.seq #[es[i].key,es[i].val] }).get? b=some o:=fun b o hb e=>Qa _ (hs₁.extBut b o hb e)
 have hz₁:h₁.objs.size=hp.objs.size:=hs₁.1
 show wpAny _ _ (Builtin.Dict_items.ownedTupleIsFree (.ref it) >>= _) _ _ ⟨h₁.push { cls:=.type "tuple",data:=.seq #[es[i].key,es[i].val] },g,dr,tk,os⟩
 rw[hz₁]
 generalize h₁.push { cls:=.type "tuple",data:=.seq #[es[i].key,es[i].val] }=h₂ at he₂ ht₂ hz₂ hk₂ ⊢
 clear hz₁ he₁ hs₁ h₁
 refine wpAny_bind ?_
 unfold Builtin.Dict_items.ownedTupleIsFree
 refine wpAny_bind (wpAny_field he₂ rfl (x:=.none) rfl (wpAny_pure ?_))
 simp only[if_true]
 refine wpAny_bind (wpAny_field he₂ rfl (x:=ok) rfl (wpAny_bind (wpAny_field he₂ rfl (x:=ov) rfl ?_)))
 refine wpAny_bind (wpAny_setField_rec he₂ (by simp) fun h₃ he₃ hs₃=>?_)
 replace hs₃:Heap.SameBut it h₂ h₃:=hs₃
 replace he₃:IsItemIter h₃ it d (i+1) es.size ep es[i].key ov:=he₃
 refine wpAny_bind (wpAny_setField_rec he₃ (by simp) fun h₄ he₄ hs₄=>?_)
 replace hs₄:Heap.SameBut it h₃ h₄:=hs₄
 replace he₄:IsItemIter h₄ it d (i+1) es.size ep es[i].key es[i].val:=he₄
 refine wpAny_bind (wpAny_setField_rec he₄ (by simp) fun h₅ he₅ hs₅=>?_)
 replace hs₅:Heap.SameBut it h₄ h₅:=hs₅
 replace he₅:IsItemIterOut h₅ it d (i+1) es.size ep es[i].key es[i].val hp.objs.size:=he₅
 refine wpAny_bind (wpAny_setField_rec he₅ (by simp) fun h₆ he₆ hs₆=>?_)
 replace hs₆:Heap.SameBut it h₅ h₆:=hs₆
 replace he₆:IsItemIterOut h₆ it d (i+1) es.size ep es[i].key es[i].val hp.objs.size:=he₆
 have up:∀b o,b≠it→h₂.get? b=some o→h₆.get? b=some o:=fun b o hb e=>hs₆.extBut b o hb (hs₅.extBut b o hb (hs₄.extBut b o hb (hs₃.extBut b o hb e)))
 refine wpAny_bind (wpAny_letGo (wpAny_pure (wpAny_pure ⟨_,rfl,wpAny_pure (hQ h₆ he₆ (up _ _ (QY hil) ht₂) ?_ fun b o hb e=>up b o hb (hk₂ b o hb e))⟩)))
 show h₆.objs.size=hp.objs.size+1
 rw[hs₆.1,hs₅.1,hs₄.1,hs₃.1,hz₂]
theorem ZiN{Q:Option Value→Shared→Prop}(hh:A.handled=none)(hit:IsItemIter s.heap it d i es.size ep ok ov)(hod:s.heap.get? d=some od)(hdd:od.data=.dict es ep)(hge:es.size≤i)
  (hQ:∀h',Heap.ExtBut it s.heap h'→Q none { s with heap:=h' }):wpAny (model prog w) A (pyNext (.ref it)) Q E s:=by
 have ty:s.TypeIs (.ref it) "dict_itemiterator":=⟨_,hit,rfl⟩
 have hown:Builtin.Dict_items.ownsTuple "dict_itemiterator" = true:=by decide
 unfold pyNext
 refine wpAny_bind (wpAny_attempt (wpAny_callSpecial?_slot (name:=Str.ofString "__next__") ty Q6 (wpAny_call_entry Q6 ty PySem.F.entry_dict_itemiterator_next ?_ (PySem.F.args_dict_itemiterator_next_1 _))))
 refine wpAny_bind (wpAny_pure (wpAny_bind (wpAny_bind ?_)))
 first|refine wpAny_bind (wpAny_typeNameOfWhole_itemiter ty (wpAny_pure ?_))|refine wpAny_bind (wpAny_typeNameOf_itemiter ty (wpAny_pure ?_))
 refine wpAny_bind (wpAny_fieldsOf hit rfl ?_)
 simp only[hown,if_true]
 show wpAny _ _ (if (Value.ref d == Value.none)=true then _ else _) _ _ s
 rw[if_neg (show ¬ ((Value.ref d == Value.none)=true) from Qj)]
 refine wpAny_bind (wpAny_pure (wpAny_bind (wpAny_dictEntries hod hdd ?_)))
 rw[if_neg (by simp)]
 refine wpAny_bind (wpAny_pure (wpAny_bind (wpAny_dictEpoch hod hdd ?_)))
 rw[if_neg (by simp)]
 refine wpAny_pure ?_
 simp only[show ¬ ((i:Int)<0) from by omega,if_false,Int.toNat_natCast,Array.getElem?_eq_none hge]
 refine wpAny_bind ?_
 first|refine wpAny_bind (wpAny_typeNameOfWhole_itemiter ty (wpAny_pure ?_))|refine wpAny_bind (wpAny_typeNameOf_itemiter ty (wpAny_pure ?_))
 show wpAny _ _ (setField (.ref it) 2 .none >>= _) _ _ s
 refine wpAny_bind (wpAny_setField hit rfl (by simp) ?_)
 show wpAny _ _ (newExc (.type "StopIteration") [] >>= _) _ _ _
 refine wpAny_bind ?_
 simp only[newExc,newTuple]
 refine wpAny_bind (wpAny_newObj_type ?_ (by size_fits))
 refine wpAny_bind (m:=firstArgMember _ _) (wpAny_of_eq (a:=Value.none) (by first|rfl|(simp only[firstArgMember];rfl)) ?_)
 refine wpAny_newObj_type ?_ (by size_fits)
 simp only[raiseNew]
 refine wpAny_bind (wpAny_handled ?_)
 rw[show A.in1.handled=none from hh]
 refine wpAny_bind (wpAny_pure (wpAny_throw ?_))
 refine wpAny_bind (wpAny_isInstance (T := "StopIteration") (b:=true) ⟨_,Qm _ rfl,rfl⟩ isSubtype_stop ?_)
 exact wpAny_pure (hQ _ (((Qar ..).extBut.push _).push _))
end
def Zkz(d:Addr)(o:Obj)(kvs:List (List Key×V)):It :=
 ⟨fun i H=>H d=some (.frz o (.dT kvs))∧i<kvs.length,
  fun i H v H'=>∃p b ks x,H p=none∧v=.ref p∧kvs[i]? = some (ks,x)∧H b=some (.tup (ks.map kV))∧H'=upd H p (.tup [.ref b,x]),
  fun i H=>H d=some (.frz o (.dT kvs))∧kvs.length≤i⟩
theorem Zll{H:Hp}{kvs:List (List Key×V)}{xs:List (List Key×Addr×Value)}(r:ZcG H kvs xs):∀ (i:Nat) (ks:List Key) (x:V),kvs[i]? = some (ks,x)→∃b u,xs[i]? = some (ks,b,u)∧H b=some (.tup (ks.map kV))∧ZK x u:=by
 induction r with
 | nil=>intro i k x h;simp at h
 | @cons p q ps qs h t ih =>
  intro i k x hx
  cases i with
  | zero =>
   have e:p=(k,x):=by simpa using hx
   subst e
   obtain⟨k',b,u⟩:=q
   obtain⟨e1,e2,e3⟩:=h
   have e1:k=k':=e1
   subst e1
   exact⟨b,u,rfl,e2,e3⟩
  | succ i=>simpa using ih i k x (by simpa using hx)
theorem Inv.dictFT{X:Cx}{pins:List (Addr×Obj)}{σ:St}{H:Hp}{s:Shared}{d:Addr}{o:Obj}{kvs:List (List Key×V)}{es:Array DictEntry}{ep:Nat}(I:Inv X pins σ H s)(e:H d=some (.frz o (.dT kvs)))(hd:o.data=.dict es ep) :
  s.heap.get? d=some o∧es.size=kvs.length∧∀ (i:Nat) (ks:List Key) (x:V) (hi:i<es.size),kvs[i]? = some (ks,x)→∃b,H b=some (.tup (ks.map kV))∧es[i].key=.ref b∧ZK x es[i].val:=by
 obtain⟨ho,_,_,xs,rel,o',es',ep',h1,h2,h3,h4,h5⟩:=(show Z7 X.prog X.w H s.heap d (.frz o (.dT kvs)) from I.hok d _ e)
 rw[ho]at h1
 cases h1
 rw[hd]at h3
 cases h3
 have hsz:es.size=kvs.length:=by rw[← Qs,h4,Qb,Zcl rel]
 refine⟨ho,hsz,fun i ks x hi hx=>?_⟩
 obtain⟨b,u,hb,hH,hr⟩:=Zll rel i ks x hx
 have he:es.toList[i]? = some (entryOfKey (tupleKind (ZN X.prog X.w)) (ks,b,u)):=by rw[h4,Qr,hb];rfl
 rw[QP,QaM hi]at he
 have he:=QS he
 rw[he]
 exact⟨b,hH,rfl,hr⟩
theorem ZfK{P:Program}{w:World}{K:PySem.W.Frag}{elts:List Expr}{x1:Nat}{tpos:Pos}{d it:Addr}{o:Obj}{kvs:List (List Key×V)}{es:Array DictEntry}{ep:Nat}(hd:o.data=.dict es ep) :
  ZgR P w K (.Tuple elts x1 tpos) (Zkz d o kvs) [it] it (fun i h=>∃ok ov,IsItemIter h it d i kvs.length ep ok ov) where
 mem:=by simp
 obj:=fun i h st b hb=>by
  obtain⟨ok,ov,he⟩:=st
  rw[Qg.mp hb]
  exact⟨_,he,fun v z=>by cases z⟩
 keep:=fun i h h' st k=>by
  obtain⟨ok,ov,he⟩:=st
  exact⟨ok,ov,k it (by simp) _ he⟩
 item:=by
  intro X hP hw hK hc i pins s σ H E I hf st hg
  subst hP hw hK
  obtain⟨ok,ov,he⟩:=st
  obtain⟨hfz,hi⟩:=hg
  obtain⟨ho,hsz,hat⟩:=I.dictFT hfz hd
  obtain⟨b,hb,ek,ru⟩:=hat i kvs[i].1 kvs[i].2 (by omega) (Qc hi)
  rw[← hsz]at he
  refine ZiH he ho hd (by omega) fun h' a1 a2 a3 a4=>?_
  have hes:s.heap.objs.size≠it:=QY (Qk he)
  refine⟨_,rfl,wpAny_letOwnedTupleGo_items a1 fun h'' he'' hs''=>?_⟩
  have hs':Heap.SameBut it h' h'':=hs''
  have I2:Inv X pins σ (upd H s.heap.objs.size (.tup [.ref b,kvs[i].2])) { s with heap:=h'',toks:=s.toks }:=by
   refine I.zipped (fp:=[it]) (u:=es[i].key) (v:=es[i].val) hf (by rw[ek];rfl) ru (hs'.extBut _ _ hes a2) (fun c hc=>?_) fun c o hc q=>?_
   ·have e:=Qg.mp hc
    subst e
    exact⟨_,he''⟩
   ·have hc':c≠it:=fun z=>hc (by rw[z];simp)
    exact hs'.extBut _ _ hc' (a4 c o hc' q)
  have he3:∃a b,IsItemIter h'' it d (i+1) kvs.length ep a b:=by
   generalize es[i].key=kk at he''
   generalize es[i].val=vv at he''
   rw[hsz]at he''
   exact⟨_,_,he''⟩
  refine⟨.ref s.heap.objs.size,_,I2,rfl,⟨s.heap.objs.size,b,kvs[i].1,kvs[i].2,I.fresh,rfl,Qc hi,hb,rfl⟩,he3,fun c hc=>?_⟩
  have e:=Qg.mp hc
  subst e
  rw[Zj hes.symm]
  exact(hf _ hc).1
 done:=by
  intro X hP hw hK hc i pins s σ H E I hf st hg
  subst hP hw hK
  obtain⟨ok,ov,he⟩:=st
  obtain⟨f0,f1,f2,f3,f4,f5⟩:=hf it (by simp)
  obtain⟨hfz,hi⟩:=hg
  obtain⟨ho,hsz,_⟩:=I.dictFT hfz hd
  rw[← hsz]at he
  exact ZiN (I.ok.hd hc) he ho hd (by omega) fun h' eb=>⟨rfl,I.turned (t':=s.toks) (fun b o hb e=>eb b o hb e) f0 f1 f3 f4 f5⟩
 self:=fun _ _ _ _ _ st h=>by obtain⟨ok,ov,he⟩:=st;exact PySem.W.kcp_self he h
def ZkB(tl:TE):TI:=fun σ H R=>tl σ H fun x H1=>∃d kvs,x=.ref d∧H1 d=some (.dT kvs)∧∀o,R (Zkz d o kvs) (upd H1 d (.frz o (.dT kvs)))
theorem Zh8{X:Cx}{elts:List Expr}{x1:Nat}{tpos:Pos}{o:Expr}{to:TE}{apos cpos:Pos}(ho:PE X o to)(hbase:attributeBase o "items" X.env (eval o X.env)=eval o X.env:=by rfl)(hline:(apos.endLine == cpos.line)=true:=by rfl) :
  PI X (.Tuple elts x1 tpos) (.Call (.Attribute o "items" apos) [] [] cpos) (ZkB to):=by
 intro pins s σ H R I h
 refine wpAny_Call_method0_late hbase hline (thn (ho pins s σ H _ I h) ?_)
 rintro v s1 ⟨x,H1,I1,r1,q1⟩
 obtain⟨d,kvs,e,hd,q⟩:=q1
 subst e
 cases r1
 obtain⟨z,lo,xs,rel,ob,es,ep,h1,h2,h3,h4,h5⟩:=(show Z7 X.prog X.w H1 s1.heap d (.dT kvs) from I1.hok d _ hd)
 have hlen:es.size=kvs.length:=by rw[← Qs,h4,Qb,Zcl rel]
 have I2:=I1.freeze hd True.intro h1
 have ty:s1.TypeIs (.ref d) "dict":=⟨ob,h1,h2.1⟩
 refine⟨"dict", "dict.items",PySem.F.plainAttrs_dict,PySem.F.slot_dict_items,PySem.F.type_dict_items,ty,fun a e=>?_,?_⟩
 ·cases e;exact⟨ob,h1,h2.2.1⟩
 refine Calls.callWith_builtin rfl (PySem.evalArgs_none ?_)
 refine wpAny_call_entry PySem.F.slot_dict_items ty PySem.F.entry_dict_items ?_ (PySem.F.args_dict_items_1 _)
 unfold Builtin.«dict.items»
 refine wpAny_bind ?_
 unfold Builtin.Dict.noArgs
 refine wpAny_bind (wpAny_notOrdered_dict ty ?_)
 show wpAny _ _ (pure d) _ _ s1
 refine wpAny_pure ?_
 show wpAny _ _ (Builtin.Dict.showsAll d >>= _) _ _ s1
 unfold Builtin.Dict.showsAll
 rw[if_neg (by rw[lo];exact Qj)]
 refine wpAny_bind (wpAny_pure (wpAny_bind (wpAny_newObj_type (wpAny_pure ⟨_,rfl,?_⟩))))
 have hov:(s1.heap.push { cls:=.type "dict_items",data:=.fields #[.ref d] }).get? s1.heap.objs.size=some { cls:=.type "dict_items",data:=.fields #[.ref d] }:=Qm _ rfl
 have hv:(s1.heap.push { cls:=.type "dict_items",data:=.fields #[.ref d] }).IsItemsView s1.heap.objs.size d:=⟨_,hov,rfl,rfl⟩
 have h1':(s1.heap.push { cls:=.type "dict_items",data:=.fields #[.ref d] }).get? d=some ob:=Qa _ h1
 have hown:Builtin.Dict_items.ownsTuple "dict_itemiterator" = true:=by decide
 have I3:Inv X pins σ (upd H1 d (.frz ob (.dT kvs))) { s1 with heap:=s1.heap.push { cls:=.type "dict_items",data:=.fields #[.ref d] } }:=I2.kept (t':=s1.toks) fun b o e=>Qa _ e
 refine wpAny_pyIter_slot (s:={ s1 with heap:=s1.heap.push { cls:=.type "dict_items",data:=.fields #[.ref d] } }) hv.typeIs PySem.F.slot_dict_items_iter (wpAny_call_entry PySem.F.slot_dict_items_iter hv.typeIs PySem.F.entry_dict_items_iter ?_ (PySem.F.args_dict_items_iter_1 _))
 unfold Builtin.«dict_items.__iter__»
 refine wpAny_bind (wpAny_pure (wpAny_bind ?_))
 unfold Builtin.Dict_items.dictOf
 refine wpAny_bind (wpAny_field hov rfl (x:=.ref d) rfl (wpAny_pure (wpAny_bind ?_)))
 unfold Builtin.Dict_items.newIterator
 refine wpAny_bind (wpAny_dictEntries h1' h3 (wpAny_bind (wpAny_dictEpoch h1' h3 ?_)))
 simp only[hown,if_true]
 refine wpAny_newObj_type (wpAny_pure ⟨_,rfl, "dict_itemiterator",_,⟨_,Qm _ rfl,rfl⟩,PySem.F.slot_dict_itemiterator_next.lookup,?_⟩)
  (by simp only[sizeOk,Builtin.Dict_items.ownedTupleFields,List.size_toArray,List.length_append,List.length_cons,List.length_nil,sizeLine_eq];omega)
 refine⟨_,[_],_,Zkz d ob kvs,upd H1 d (.frz ob (.dT kvs)),rfl,I3.kept (t':=s1.toks) fun b o e=>Qa _ e,ZfK h3,⟨.none,.none,?_⟩,fun b hb=>?_,q ob⟩
 ·rw[← hlen];exact Qm _ rfl
 ·rw[Qg.mp hb]
  exact I3.fpOk (Qd _) (I3.hok.fresh (Qd _))
theorem Zhh{K:PySem.W.Frag}{a:Addr}{xs:List V}{k:Nat}{D:Addr}{σ:St}{H1:Hp}{g:TG}{tk te:TE}{Q:VK}(Pv:Nat→List (List Key×V)→St→Hp→Prop)(h0:Pv 0 [] (σ++List.replicate k none) (upd H1 D (.dT [])))
  (hl:∀i ys σ H,Pv i ys σ H→SqL K H a xs)
  (hs:∀i x ys σ H,xs[i]? = some x→Pv i ys σ H→g x σ H fun σ4 H4=>tk σ4 H4 fun kv H6=>te σ4 H6 fun y H7=>∃ (b:Addr) (ks:List Key),kv=.ref b∧H7 D=some (.dT ys)∧H7 b=some (.tup (ks.map kV))∧ZU ys ks=none∧ys.length<sizeLine∧Pv (i+1) (ys++[(ks,y)]) σ4 (upd H7 D (.dT (ys++[(ks,y)]))))
  (hd:∀ys σ H,Pv xs.length ys σ H→Q (.ref D) H):Zhf (Itl K a) D k σ H1 g Zdy tk te Q:=by
 refine⟨fun i m ys σ H=>m=xs.length-i∧i≤xs.length∧Pv i ys σ H,⟨xs.length,by simp,Ql _,h0⟩,?_⟩
 rintro i m ys σ H ⟨rfl,hi,p⟩
 have q1:=hl i ys σ H p
 by_cases hlt:i<xs.length
 ·refine .inr ⟨⟨xs,xs[i],q1,Qc hlt⟩,Pv (i+1),fun ys' σ' H' p'=>⟨xs.length-(i+1),by omega,rfl,hlt,p'⟩,fun x H' y=>?_⟩
  obtain⟨rfl,e⟩:=y
  simp only[Zdy,↓reduceIte]
  exact hs i x ys σ _ (e xs q1) p
 ·have e:i=xs.length:=by omega
  exact .inl ⟨⟨xs,q1,by omega⟩,hd ys σ H (e ▸ p)⟩
theorem ZfJ{d:Addr}{o:Obj}{kvs:List (List Key×V)}{k:Nat}{D:Addr}{σ:St}{H1:Hp}{g:TG}{tk te:TE}{Q:VK}(Pv:Nat→List (List Key×V)→St→Hp→Prop)(h0:Pv 0 [] (σ++List.replicate k none) (upd H1 D (.dT [])))
  (hl:∀i ys σ H,Pv i ys σ H→H d=some (.frz o (.dT kvs)))
  (hs:∀i ks x ys σ H p b,kvs[i]? = some (ks,x)→Pv i ys σ H→H p=none→H b=some (.tup (ks.map kV))→g (.ref p) σ (upd H p (.tup [.ref b,x])) fun σ4 H4=>tk σ4 H4 fun kv H6=>te σ4 H6 fun y H7=>∃ (b:Addr) (ks:List Key),kv=.ref b∧H7 D=some (.dT ys)∧H7 b=some (.tup (ks.map kV))∧ZU ys ks=none∧ys.length<sizeLine∧Pv (i+1) (ys++[(ks,y)]) σ4 (upd H7 D (.dT (ys++[(ks,y)]))))
  (hd:∀ys σ H,Pv kvs.length ys σ H→Q (.ref D) H):Zhf (Zkz d o kvs) D k σ H1 g Zdy tk te Q:=by
 refine⟨fun i m ys σ H=>m=kvs.length-i∧i≤kvs.length∧Pv i ys σ H,⟨kvs.length,by simp,Ql _,h0⟩,?_⟩
 rintro i m ys σ H ⟨rfl,hi,p⟩
 have q1:=hl i ys σ H p
 by_cases hlt:i<kvs.length
 ·refine .inr ⟨⟨q1,hlt⟩,Pv (i+1),fun ys' σ' H' p'=>⟨kvs.length-(i+1),by omega,rfl,hlt,p'⟩,fun x H' y=>?_⟩
  obtain⟨r,b,ks,x',hr,rfl,e,hb,rfl⟩:=y
  simp only[Zdy,↓reduceIte]
  exact hs i ks x' ys σ H r b e p hr hb
 ·have e:i=kvs.length:=by omega
  exact .inl ⟨⟨q1,by omega⟩,hd ys σ H (e ▸ p)⟩
end L2
set_option maxHeartbeats 4000000
namespace L2
open PySem PySem.Spec PyProof.Rows
section
variable {prog:Program} {w:World} {A:Around} {E:Value→Shared→Prop} {s:Shared}
end
section
variable {X:Cx}
def ZlK(K:PySem.W.Frag):List V→Hp→VK→Prop:=fun xs H Q=>∃x d,xs=[x]∧DV K H x d∧d.canLay0=true∧d.depth≤64∧d.shown.length≤sizeLine∧d.showable=true∧Q (.str (Znu d)) H
theorem Zix(hg:X.A.guards=some [])(hu:X.A.units+64+30<cLine):Z3 X (.type "str") (ZlK X.K):=by
 intro pins s σ H xs us Q I r h
 obtain⟨x,d,rfl,hd,hcl,hdp,hsh,hs,q⟩:=h
 obtain⟨u,rfl,rx⟩:=Zbq r
 have ref:∀a,u=.ref a→Znu d=d.shown→wpAny (model X.prog X.w) X.A (call (.type "str") [u]) (EP X pins σ Q) X.xe s:=fun a e1 e2=>by
  subst e1
  obtain⟨as,rd⟩:=I.reads hd rx
  rw[e2]at q
  exact callType_new F.called_str (by decide) (F.typeCall_str_1 _) (F.newCall_str_1 _) (fun obj=>F.args_object_init_2 obj _) F.entry_str_new
   (meets_str_new (v:=.ref a) (S:=fun A R s'=>s'=s∧A=X.A.in1∧∀h' u tk,(∀b o,s.heap.get? b=some o→h'.get? b=some o)→R (.ok (.ret (.str d.shown u))) { s with heap:=h',toks:=tk }) fun prog w A R s' hq=>by
    obtain⟨rfl,rfl,hq⟩:=hq
    exact strOf_of_reads rd hs (PyData.noDict_hsm (PyData.hasDict_of_canLay d hcl)) hg (by show X.A.units+1+1+(d.depth+1)<cLine;omega) (fun _ _ e=>e) (fun h' u tk hk=>hq h' u tk hk) hsh)
   ⟨rfl,rfl,fun h' u tk hk=>⟨typeIs_str _ _ _,.str _,H,I.kept hk,⟨_,rfl⟩,q⟩⟩
 cases hd with
 | non=>cases rx;exact PySem.P.str_of_none ⟨.str _,H,I.tok _,⟨_,rfl⟩,q⟩
 | bl b=>cases rx;exact PySem.P.str_of_bool ⟨.str _,H,I.tok _,⟨_,rfl⟩,q⟩
 | int i =>
  obtain⟨t,rfl⟩:=rx
  exact PySem.P.str_of_int (of_decide_eq_true hs) ⟨.str _,H,I.tok _,⟨_,rfl⟩,q⟩
 | str z =>
  obtain⟨t,rfl⟩:=rx
  exact PySem.P.str_of_str ⟨.str _,H,I,⟨_,rfl⟩,q⟩
 | lst h1 h2=>cases rx;exact ref _ rfl rfl
 | tup h1 h2=>cases rx;exact ref _ rfl rfl
theorem ZnC(K:PySem.W.Frag){k:Nat}(hr:ZaM k X.A)(h:X.K=K:=by rfl):Z3 X (.type "str") (ZlK K):=by
 subst h
 exact Zix hr.gd (by have:=hr.un;omega)
end
end L2
set_option maxHeartbeats 4000000
namespace L2
open PySem PySem.Spec PyProof.Rows
section
variable {prog:Program} {w:World} {A:Around} {E:Value→Shared→Prop} {s:Shared} {it d:Addr} {i ep:Nat} {es:Array DictEntry} {od:Obj}
theorem Zj4{Q:Option Value→Shared→Prop}(hit:s.heap.IsKeyIter it d i es.size ep)(hod:s.heap.get? d=some od)(hdd:od.data=.dict es ep)(hlt:i<es.size)
  (hQ:∀h',h'.IsKeyIter it d (i+1) es.size ep→Heap.SameBut it s.heap h'→Q (some es[i].key) { s with heap:=h' }):wpAny (model prog w) A (pyNext (.ref it)) Q E s:=by
 obtain⟨o,ho,hc,hd⟩:=id hit
 have ty:=hit.typeIs
 have hown:Builtin.Dict_items.ownsTuple "dict_keyiterator" = false:=by decide
 unfold pyNext
 refine wpAny_bind (wpAny_attempt (wpAny_callSpecial?_slot (name:=Str.ofString "__next__") ty Q8 (wpAny_call_entry Q8 ty PySem.F.entry_dict_keyiterator_next ?_ (PySem.F.args_dict_keyiterator_next_1 _))))
 refine wpAny_bind (wpAny_pure (wpAny_bind (wpAny_bind ?_)))
 first|refine wpAny_bind (wpAny_typeNameOfWhole_keyiter ty (wpAny_pure ?_))|refine wpAny_bind (wpAny_typeNameOf_keyiter ty (wpAny_pure ?_))
 refine wpAny_bind (wpAny_fieldsOf ho hd ?_)
 simp only[hown,if_false,Bool.false_eq_true]
 show wpAny _ _ (if (Value.ref d == Value.none)=true then _ else _) _ _ _
 rw[if_neg (show ¬ ((Value.ref d == Value.none)=true) from Qj)]
 refine wpAny_bind (wpAny_pure (wpAny_bind (wpAny_dictEntries hod hdd ?_)))
 rw[if_neg (by simp)]
 refine wpAny_bind (wpAny_pure (wpAny_bind (wpAny_dictEpoch hod hdd ?_)))
 rw[if_neg (by simp)]
 refine wpAny_pure ?_
 simp only[show ¬ ((i:Int)<0) from by omega,if_false,Int.toNat_natCast,Array.getElem?_eq_getElem hlt]
 refine wpAny_bind ?_
 first|refine wpAny_bind (wpAny_typeNameOfWhole_keyiter ty (wpAny_pure ?_))|refine wpAny_bind (wpAny_typeNameOf_keyiter ty (wpAny_pure ?_))
 refine wpAny_bind (wpAny_isOneOf_keyiter ty ?_)
 show wpAny _ _ (setField (.ref it) 1 (rawInt ((i:Int)+1)) >>= _) _ _ s
 refine wpAny_bind (wpAny_setField ho hd (by simp) ?_)
 have hi':(s.heap.update it (Obj.mapFields (·.setIfInBounds 1 (rawInt ((i:Int)+1))))).IsKeyIter it d (i+1) es.size ep:=⟨_,Heap.get?_update_self _ ho (Obj.isFreed_of_fields (Obj.data_mapFields hd _)),(Obj.cls_mapFields ..).trans hc,by rw[Obj.data_mapFields hd];simp[rawInt]⟩
 refine wpAny_bind (wpAny_holding (wpAny_bind (wpAny_isOneOf_keyiter (s:={ s with heap:=s.heap.update it (Obj.mapFields (·.setIfInBounds 1 (rawInt ((i:Int)+1)))) }) hi'.typeIs ?_)))
 show wpAny _ _ (pure es[i].key) _ _ _
 exact wpAny_pure (wpAny_pure ⟨_,rfl,wpAny_pure (hQ _ hi' (Qar ..))⟩)
theorem Zg5{Q:Option Value→Shared→Prop}(hh:A.handled=none)(hit:s.heap.IsKeyIter it d i es.size ep)(hod:s.heap.get? d=some od)(hdd:od.data=.dict es ep)(hge:es.size≤i)
  (hQ:∀h',Heap.ExtBut it s.heap h'→Q none { s with heap:=h' }):wpAny (model prog w) A (pyNext (.ref it)) Q E s:=by
 obtain⟨o,ho,hc,hd⟩:=id hit
 have ty:=hit.typeIs
 have hown:Builtin.Dict_items.ownsTuple "dict_keyiterator" = false:=by decide
 unfold pyNext
 refine wpAny_bind (wpAny_attempt (wpAny_callSpecial?_slot (name:=Str.ofString "__next__") ty Q8 (wpAny_call_entry Q8 ty PySem.F.entry_dict_keyiterator_next ?_ (PySem.F.args_dict_keyiterator_next_1 _))))
 refine wpAny_bind (wpAny_pure (wpAny_bind (wpAny_bind ?_)))
 first|refine wpAny_bind (wpAny_typeNameOfWhole_keyiter ty (wpAny_pure ?_))|refine wpAny_bind (wpAny_typeNameOf_keyiter ty (wpAny_pure ?_))
 refine wpAny_bind (wpAny_fieldsOf ho hd ?_)
 simp only[hown,if_false,Bool.false_eq_true]
 show wpAny _ _ (if (Value.ref d == Value.none)=true then _ else _) _ _ s
 rw[if_neg (show ¬ ((Value.ref d == Value.none)=true) from Qj)]
 refine wpAny_bind (wpAny_pure (wpAny_bind (wpAny_dictEntries hod hdd ?_)))
 rw[if_neg (by simp)]
 refine wpAny_bind (wpAny_pure (wpAny_bind (wpAny_dictEpoch hod hdd ?_)))
 rw[if_neg (by simp)]
 refine wpAny_pure ?_
 simp only[show ¬ ((i:Int)<0) from by omega,if_false,Int.toNat_natCast,Array.getElem?_eq_none hge]
 refine wpAny_bind ?_
 first|refine wpAny_bind (wpAny_typeNameOfWhole_keyiter ty (wpAny_pure ?_))|refine wpAny_bind (wpAny_typeNameOf_keyiter ty (wpAny_pure ?_))
 show wpAny _ _ (setField (.ref it) 0 .none >>= _) _ _ s
 refine wpAny_bind (wpAny_setField ho hd (by simp) ?_)
 show wpAny _ _ (newExc (.type "StopIteration") [] >>= _) _ _ _
 refine wpAny_bind ?_
 simp only[newExc,newTuple]
 refine wpAny_bind (wpAny_newObj_type ?_ (by size_fits))
 refine wpAny_bind (m:=firstArgMember _ _) (wpAny_of_eq (a:=Value.none) (by first|rfl|(simp only[firstArgMember];rfl)) ?_)
 refine wpAny_newObj_type ?_ (by size_fits)
 simp only[raiseNew]
 refine wpAny_bind (wpAny_handled ?_)
 rw[show A.in1.handled=none from hh]
 refine wpAny_bind (wpAny_pure (wpAny_throw ?_))
 refine wpAny_bind (wpAny_isInstance (T := "StopIteration") (b:=true) ⟨_,Qm _ rfl,rfl⟩ isSubtype_stop ?_)
 exact wpAny_pure (hQ _ (((Qar ..).extBut.push _).push _))
end
def Zin(d:Addr)(o:Obj)(kvs:List (List Key×V)):It :=
 ⟨fun i H=>H d=some (.frz o (.dT kvs))∧i<kvs.length,fun i H v H'=>H'=H∧∃b ks x,kvs[i]? = some (ks,x)∧v=.ref b∧H b=some (.tup (ks.map kV)),fun i H=>H d=some (.frz o (.dT kvs))∧kvs.length≤i⟩
theorem ZgH{P:Program}{w:World}{K:PySem.W.Frag}{tg:Expr}{d it:Addr}{o:Obj}{kvs:List (List Key×V)}{es:Array DictEntry}{ep:Nat}(hd:o.data=.dict es ep):ZgR P w K tg (Zin d o kvs) [it] it (fun i h=>h.IsKeyIter it d i kvs.length ep) where
 mem:=by simp
 obj:=fun i h st b hb=>by
  rw[Qg.mp hb]
  obtain⟨o,e,c,d⟩:=st
  exact⟨o,e,fun v z=>by rw[d]at z;cases z⟩
 keep:=fun i h h' st k=>by
  obtain⟨o,e,r⟩:=st
  exact⟨o,k it (by simp) o e,r⟩
 item:=by
  intro X hP hw hK hc i pins s σ H E I hf st hg
  subst hP hw hK
  obtain⟨f0,f1,f2,f3,f4,f5⟩:=hf it (by simp)
  obtain⟨hfz,hi⟩:=hg
  obtain⟨ho,hsz,hat⟩:=I.dictFT hfz hd
  obtain⟨b,hb,ek,ru⟩:=hat i kvs[i].1 kvs[i].2 (by omega) (Qc hi)
  refine Zj4 (by rw[hsz];exact st) ho hd (by omega) fun h' st' sb=>?_
  rw[hsz]at st'
  have I1:Inv X pins σ H { s with heap:=h' }:=I.turned (t':=s.toks) (fun b o hb e=>(sb.2 b hb).trans e) f0 f1 f3 f4 f5
  obtain⟨o1,e1,c1,d1⟩:=id st'
  exact⟨_,rfl,ZhD (s:={ s with heap:=h' }) e1 c1 d1 (by decide) ⟨.ref b,H,I1,by rw[ek];rfl,⟨rfl,b,kvs[i].1,kvs[i].2,Qc hi,rfl,hb⟩,st',fun b hb=>(hf b hb).1⟩⟩
 done:=by
  intro X hP hw hK hc i pins s σ H E I hf st hg
  subst hP hw hK
  obtain⟨f0,f1,f2,f3,f4,f5⟩:=hf it (by simp)
  obtain⟨hfz,hi⟩:=hg
  obtain⟨ho,hsz,_⟩:=I.dictFT hfz hd
  exact Zg5 (I.ok.hd hc) (by rw[hsz];exact st) ho hd (by omega) fun h' eb=>⟨rfl,I.turned (t':=s.toks) (fun b o hb e=>eb b o hb e) f0 f1 f3 f4 f5⟩
 self:=fun _ _ _ _ _ st h=>wpAny_pyIter_keyiter st h
def Zmj(tl:TE):TI:=fun σ H R=>tl σ H fun x H1=>∃d kvs,x=.ref d∧H1 d=some (.dT kvs)∧∀o,R (Zin d o kvs) (upd H1 d (.frz o (.dT kvs)))
theorem ZjK{X:Cx}{tg l:Expr}{tl:TE}(hl:PE X l tl):PI X tg l (Zmj tl):=by
 intro pins s σ H R I h
 refine thn (hl pins s σ H _ I h) ?_
 rintro v s1 ⟨x,H1,I1,r1,q1⟩
 obtain⟨d,kvs,e,hd,q⟩:=q1
 subst e
 cases r1
 obtain⟨z,lo,xs,rel,ob,es,ep,h1,h2,h3,h4,h5⟩:=(show Z7 X.prog X.w H1 s1.heap d (.dT kvs) from I1.hok d _ hd)
 have hlen:es.size=kvs.length:=by rw[← Qs,h4,Qb,Zcl rel]
 have I2:=I1.freeze hd True.intro h1
 have ty:s1.TypeIs (.ref d) "dict":=⟨ob,h1,h2.1⟩
 refine wpAny_pyIter_slot ty PySem.F.slot_dict_iter (wpAny_call_entry PySem.F.slot_dict_iter ty PySem.F.entry_dict_iter ?_ (PySem.F.args_dict_iter_1 _))
 unfold Builtin.«dict.__iter__»
 refine wpAny_bind ?_
 unfold Builtin.Dict.dictSlotNone
 refine wpAny_bind (wpAny_notOrdered_dict ty ?_)
 show wpAny _ _ (pure (Value.ref d)) _ _ s1
 refine wpAny_pure ?_
 show wpAny _ _ (Builtin.Dict.showsAll d >>= _) _ _ s1
 unfold Builtin.Dict.showsAll
 rw[if_neg (by rw[lo];exact Qj)]
 refine wpAny_bind (wpAny_pure (wpAny_bind (wpAny_dictEntries h1 h3 (wpAny_bind (wpAny_dictEpoch h1 h3 ?_)))))
 refine wpAny_bind (wpAny_newObj_type (wpAny_pure ⟨_,rfl, "dict_keyiterator",_,⟨_,Qm _ rfl,rfl⟩,PySem.F.slot_dict_keyiterator_next.lookup,?_⟩))
 refine⟨_,[_],_,Zin d ob kvs,upd H1 d (.frz ob (.dT kvs)),rfl,I2.kept (t':=s1.toks) fun b o e=>Qa _ e,ZgH h3,?_,fun b hb=>?_,q ob⟩
 ·rw[← hlen];exact⟨_,Qm _ rfl,rfl,by simp[rawInt]⟩
 ·rw[Qg.mp hb]
  exact I2.fpOk (Qd _) (I2.hok.fresh (Qd _))
theorem ZiE{d:Addr}{o:Obj}{kvs:List (List Key×V)}{g:TG}{tb:TS}{D:Zfc}{σ:St}{H:Hp}(Pv:Nat→St→Hp→Prop)(h0:Pv 0 σ H)(hl:∀i σ H,Pv i σ H→H d=some (.frz o (.dT kvs)))
  (hs:∀i ks x σ H b,kvs[i]? = some (ks,x)→Pv i σ H→H b=some (.tup (ks.map kV))→g (.ref b) σ H fun σ2 H2=>tb { D with nx:=Pv (i+1),ct:=Pv (i+1),bk:=D.nx } σ2 H2) (hd:∀σ H,Pv kvs.length σ H→D.nx σ H) :
  ∃W:Nat→Nat→St→Hp→Prop,(∃m,W 0 m σ H)∧∀i m σ H,W i m σ H →
   ((Zin d o kvs).stop i H∧D.nx σ H)∨((Zin d o kvs).go i H∧∃N:St→Hp→Prop,(∀σ' H',N σ' H'→∃m',m'<m∧W (i+1) m' σ' H')∧∀x H',(Zin d o kvs).yld i H x H'→g x σ H' fun σ2 H2=>tb { D with nx:=N,ct:=N,bk:=D.nx } σ2 H2):=by
 refine⟨fun i m σ H=>m=kvs.length-i∧i≤kvs.length∧Pv i σ H,⟨kvs.length,by simp,Ql _,h0⟩,?_⟩
 rintro i m σ H ⟨rfl,hi,p⟩
 have q1:=hl i σ H p
 by_cases hlt:i<kvs.length
 ·refine .inr ⟨⟨q1,hlt⟩,Pv (i+1),fun σ' H' p'=>⟨kvs.length-(i+1),by omega,rfl,hlt,p'⟩,fun x H' y=>?_⟩
  obtain⟨rfl,b,ks,x',e,rfl,hb⟩:=y
  exact hs i ks x' σ _ b e p hb
 ·have e:i=kvs.length:=by omega
  exact .inl ⟨⟨q1,by omega⟩,hd σ H (e ▸ p)⟩
section
variable {X:Cx}
def ZlW(K:PySem.W.Frag):List V→Hp→VK→Prop:=fun vs H Q=>∃ (p:Addr) (ns:List Int),vs=[.ref p]∧SqL K H p (ns.map V.int)∧Q (.int ns.sum) H
theorem Zig(hc:X.calm=true):Z3 X (.builtin "sum") (ZlW X.K):=by
 intro pins s σ H vs us Q I r h
 obtain⟨p,ns,rfl,hq,q⟩:=h
 obtain⟨u,rfl,rx⟩:=Zbq r
 cases rx
 obtain⟨its,rv,pl,_⟩:=I.list hq
 have hi:=Zbr rv
 obtain⟨xs,e⟩:=hi.allInts.items
 have hns:ns=xs.toList.map (·.1):=by rw[← hi.numsOf,← nums_intItems,← e]
 have hsz:xs.size=ns.length:=by rw[hns,Qb,Qs]
 have hnum:numAt xs=fun j=>ns.getD j 0:=by funext j;rw[numAt_eq,hns]
 have hl:=pl.isList
 rw[e]at hl
 refine sum_intListG (I.ok.hd hc) hl fun h' tk t' hk=>⟨.int _,H,I.kept hk,⟨t',rfl⟩,?_⟩
 rw[hnum,hsz,Zcp ns ns.length (Qd _),Qq (Qd _)]
 exact q
theorem Zn8(K:PySem.W.Frag)(hc:X.calm=true:=by rfl)(h:X.K=K:=by rfl):Z3 X (.builtin "sum") (ZlW K):=by subst h;exact Zig hc
end
@[reducible] def intKd:PyProof.Rows.KeyKind where
 α:=Int
 blt a b:=decide (a<b)
 irrefl a:=by simp
 trans a b c h1 h2:=by simp only[decide_eq_true_eq]at *;omega
 negTrans a b c h:=by
  simp only[decide_eq_true_eq]at *
  omega
 total a b h1 h2:=by simp only[decide_eq_false_iff_not]at *;omega
 keyOf v:=match v with|.int x _=>some x|_=>none
 dflt:=0
theorem ZjM(xs:Array Keyed)(i:Nat):KK intKd xs i=PyProof.Rows.K xs i:=by
 unfold KK PyProof.Rows.K
 cases xs[i]? with
 | none=>rfl
 | some p =>
  obtain⟨v,u⟩:=p
  cases v<;>rfl
def ZmD(K:PySem.W.Frag):List V→Hp→VK→Prop:=fun xs H Q=>∃ (p:Addr) (ns:List Int),xs=[.ref p]∧SqL K H p (ns.map V.int)∧∀ (l:Addr) (ns':List Int),H l=none→ns'.Perm ns→ns'.Pairwise (·≤·)→Q (.ref l) (upd H l (.lst (ns'.map V.int)))
theorem Zna{X:Cx}(K:PySem.W.Frag)(h:X.K=K:=by rfl):Z3 X (.builtin "sorted") (ZmD K):=by
 subst h
 intro pins s σ H xs us Q I r h
 obtain⟨p,ns,rfl,hq,q⟩:=h
 obtain⟨u,rfl,rx⟩:=Zbq r
 cases rx
 obtain⟨its,rv,pl,hz⟩:=I.list hq
 have hlen:=rv.length
 rw[Qb]at hlen hz
 by_cases h2:its.length<2
 ·refine sorted_ints pl.isList (Zbr rv) (by omega) fun out ns' a1 a2 a3=>?_
  obtain⟨e,he⟩:=sortedAll_at s.heap its out
  exact⟨.ref (s.heap.objs.size+1),_,I.laid (t':=s.toks) (o:=.lst (ns'.map V.int)) (fun _ _=>sortedAll_old) (Qaz _) ⟨by rw[Qb,a2.length_eq];exact hz,out.toList,e,Zcx a1,by simpa using he⟩,rfl,q _ ns' (I.hok.fresh (Qaz _)) a2 a3⟩
 ·have hI:=Zbr rv
  have hk:PyProof.Rows.KeysOf intKd (pairsOf its):=fun z hz'=>by
   obtain⟨n,t,e⟩:=hI.intKeys z hz'
   exact⟨n,by rw[e]⟩
  refine w_sortedA (κ:=intKd) pl.isList hk (by omega) (by omega) (fun A' s' kp E' Q' q'=>?_) fun st' p1 p3=>?_
  ·obtain⟨v1,v2,vs,rfl⟩:∃v1 v2 vs,its=v1::v2::vs:=by
    cases its with
    | nil=>exact absurd (by simp) h2
    | cons a b=>cases b with
     | nil=>exact absurd (by simp) h2
     | cons c d=>exact⟨a,c,d,rfl⟩
   rw[keyKind_ints hI]
   refine wpAny_pure (q' _ fun E2 x y a b Q2 hx hy hh=>?_)
   rw[keyLt'_oneType]
   cases x<;>simp only[intKd,reduceCtorEq,Option.some.injEq]at hx
   cases y<;>simp only[intKd,reduceCtorEq,Option.some.injEq]at hy
   cases hx;cases hy
   exact oneLt_int hh
  ·obtain⟨ns',a1,a2,a3⟩:=sorted_out hI p1 (fun i j hij hj=>by
    have h9:=p3 i j hij hj
    rw[ZjM,ZjM]at h9
    have h9:decide (PyProof.Rows.K (arrOf st') j<PyProof.Rows.K (arrOf st') i)=false:=h9
    rw[decide_eq_false_iff_not]at h9
    omega)
   obtain⟨e,he⟩:=sortedAll_at s.heap its ((arrOf st').map fun x=>x.snd)
   exact⟨.ref (s.heap.objs.size+1),_,I.laid (t':=s.toks) (o:=.lst (ns'.map V.int)) (fun _ _=>sortedAll_old) (Qaz _) ⟨by rw[Qb,a2.length_eq];exact hz,_,e,Zcx a1,by rw[Array.toArray_toList];exact he⟩,rfl,q _ ns' (I.hok.fresh (Qaz _)) a2 a3⟩
end L2
set_option maxHeartbeats 4000000
namespace My
open PySem L2 PyProof.Rows
abbrev Ztl:=@List.tail Stmt
abbrev Zt2(x:List Stmt):=Ztl (Ztl x)
abbrev Zt4(x:List Stmt):=Zt2 (Zt2 x)
abbrev Zt8(x:List Stmt):=Zt4 (Zt4 x)
abbrev Zt16(x:List Stmt):=Zt8 (Zt8 x)
abbrev Zt32(x:List Stmt):=Zt16 (Zt16 x)
local macro_rules|`(‹$i:num›)=>`(@pv _ $i _ _ (by rfl) (Or.inl rfl) (by decide) (by decide))
local macro_rules|`(tactic|trivial)=>`(tactic|first|exact .inl rfl|exact .inr rfl|decide|exact Nat.le_refl _|omega)
local macro_rules
|`(#[Xns,$a,$b,$c])=>`(PySem.W.nsIn $a mainGlobals $b=some (some (.ref $c)))
|`(#[Xlk,$z,$a,$b,$c,$d,$e,$f,$g,$h,$i,$j,$k,$l,$m])=>`(($z).lookup $a=some ⟨$b,$c,.func (PySem.W.fnOf $d $e (Zp $f) (Zo $f) (Zf $f) .none $g $h $i $j $k $l),$m⟩)
|`(#[Xci,$a,$b,$c])=>`(PySem.W.codeIn $a $b $c=true)
|`(#[Xki,$a,$b])=>`(PySem.W.keepIn $a (.ref $b)=true)
|`(#[Zh,$a,$b])=>`(@Zh _ _ _ _ _ $a $b)
|`(#[Zw,$a,$b,$c,$d])=>`(@Zw _ _ $a _ _ _ _ $b rfl $c $d (by rfl) (by trivial))
|`(#[Zq,$a,$b,$c])=>`(@Zq _ _ _ _ _ _ _ _ $a $b $c)
|`(#[Ze])=>`(@Ze _ _ _ _)
|`(#[Zi,$a])=>`(@Zi _ _ _ $a)
|`(#[Zl,$a])=>`(@Zl _ _ _ _ $a)
|`(#[ZA,$a,$b,$c,$d])=>`(@ZA _ _ _ _ _ _ _ _ $a $b $c $d)
|`(#[Zk,$a,$b,$c,$d,$e])=>`(@Zk _ _ _ _ _ _ _ _ _ $a $b $c $d $e (by decide) (by decide) (by rfl) (by rfl))
|`(#[Za,$a,$b])=>`(@Za _ _ _ _ _ $a $b (by rfl))
|`(#[Zc])=>`(@Zc _)
|`(#[ZI,$a,$b,$c])=>`(@ZI _ _ _ _ _ _ _ $a $b $c (fun _ _=>rfl))
|`(#[ZG,$a])=>`(@ZG _ _ _ _ $a)
|`(#[Zac,$a,$b,$c,$d])=>`(@Zac _ _ _ _ _ _ _ _ _ $a (by rfl) $b $c $d (by decide) (by decide) (by rfl) (by rfl))
|`(#[Zcf,$a,$b])=>`(@Zcf _ _ _ _ _ _ $a $b (by rfl) (by rfl) (by rfl))
|`(#[ZZ,$a,$b,$c])=>`(@ZZ _ _ _ _ _ _ _ _ $a $b $c)
|`(#[ZD])=>`(@ZD _)
|`(#[Zs,$a,$b,$c,$d])=>`(@Zs _ _ _ _ _ _ _ _ _ _ _ $a $b $c (by trivial) $d (by decide) (by rfl) (by rfl))
|`(#[Zdt,$a,$b])=>`(@Zdt _ _ _ _ _ _ _ $a $b)
|`(#[Za6,$a,$b,$c])=>`(@Za6 _ _ _ _ $a $b $c (by decide) (by decide))
|`(#[Zaf,$a])=>`(@Zaf _ _ _ $a (by intro _;rfl))
|`(#[Zbz,$a])=>`(@Zbz _ _ _ _ $a (by rfl))
|`(#[ZdL,$a,$b,$c,$d,$e,$f])=>`(@ZdL _ _ _ _ _ _ _ _ _ _ _ _ $a $b $c $d $e $f (by rfl) (by rfl) (by rfl) (by rfl) (by rfl))
|`(#[ZaQ,$a])=>`(@ZaQ _ _ _ $a)
|`(#[ZaU,$a,$b,$c,$d,$e])=>`(@ZaU _ _ _ _ _ _ _ _ _ _ _ _ _ _ $a rfl rfl rfl $b $c $d $e (by intro _;rfl))
|`(#[iL,$a,$b])=>`(@iL _ $a _ _ _ $b (by rfl))
|`(#[cg,$a,$b])=>`(@cg _ _ _ _ _ _ _ _ _ _ _ $a $b rfl (by ac_rfl) (by rfl))
|`(#[cv,$a,$b])=>`(@cv _ _ _ _ _ _ _ _ _ _ _ $a $b rfl (by ac_rfl) (by rfl) (by decide) (by decide))
|`(#[cw,$a,$b])=>`(@cw _ _ _ _ _ _ _ _ _ _ _ $a $b rfl (by ac_rfl) (by rfl) (by decide) (by decide))
|`(#[Zv,$a])=>`(@Zv _ _ _ _ _ $a)
|`(#[Zao,$a,$b,$c,$d])=>`(@Zao _ _ _ _ _ _ _ _ $a rfl $b $c $d (by intro _;rfl))
|`(#[Zx,$a,$b,$c])=>`(@Zx _ _ $a _ $b rfl $c (by trivial))
|`(#[gT,$a,$b,$c])=>`(@gT _ $a _ _ _ $b _ $c (by rfl) (by rfl) (by rfl) (by rfl))
|`(#[Zz,$a,$b])=>`(@Zz _ _ _ _ _ $a $b (by rfl))
|`(#[Zav,$a,$b])=>`(@Zav _ _ _ _ _ _ rfl $a $b (by rfl))
|`(#[Zay,$a,$b,$c])=>`(@Zay _ _ _ _ _ _ _ $a $b $c (by rfl) (by rfl))
|`(#[pv,$a,$b])=>`(@pv _ $a _ _ (by rfl) $b (by decide) (by decide))
|`(#[Zbv,$a,$b,$c,$d])=>`(@Zbv _ _ _ _ _ _ _ _ _ _ $a $b $c $d)
|`(#[Zcd,$a,$b])=>`(@Zcd _ _ _ _ _ _ _ $a $b)
|`(#[ZbJ,$a])=>`(@ZbJ _ _ _ _ $a)
|`(#[Zae])=>`(@Zae _ _ _ _)
|`(#[ZaO,$a])=>`(@ZaO _ _ _ _ $a)
def hdS:List Stmt→Stmt
 | a::_=>a
 | []=>.Pass ⟨0,0,0,0⟩
abbrev ZP:List Stmt:=PySem.Challenge.pw_mergetree_k44_no_near_ones.main.body
abbrev ZaR:Stmt:=hdS (Ztl ZP)
abbrev ZaV:Stmt:=hdS (Zt2 ZP)
abbrev ZaD:Stmt:=hdS (Zt4 ZP)
abbrev Zbp:Stmt:=hdS (Zt4 (Ztl ZP))
abbrev Zaa:Stmt:=hdS (Zt4 (Zt2 ZP))
abbrev Zal:Stmt:=hdS (Zt8 ZP)
abbrev Zbt:Stmt:=hdS (Zt8 (Ztl ZP))
abbrev Zan:Stmt:=hdS (Zt8 (Zt2 ZP))
abbrev Z2:Stmt:=hdS (Zt8 (Zt2 (Ztl ZP)))
abbrev Zak:Stmt:=hdS (Zt8 (Zt4 ZP))
abbrev Zaz:Stmt:=hdS (Zt8 (Zt4 (Ztl ZP)))
abbrev ZaE:Stmt:=hdS (Zt8 (Zt4 (Zt2 ZP)))
abbrev ZaS:Stmt:=hdS (Zt16 ZP)
abbrev Zai:Stmt:=hdS (Zt16 (Ztl ZP))
abbrev Zah:Stmt:=hdS (Zt16 (Zt2 ZP))
abbrev ZaF:Stmt:=hdS (Zt16 (Zt2 (Ztl ZP)))
abbrev Zas:Stmt:=hdS (Zt16 (Zt4 ZP))
abbrev Zax:Stmt:=hdS (Zt16 (Zt4 (Ztl ZP)))
abbrev Zck:Stmt:=hdS (Zt16 (Zt4 (Zt2 (Ztl ZP))))
abbrev ZbW:Stmt:=hdS (Zt16 (Zt8 ZP))
abbrev Zb0:Stmt:=hdS (Zt16 (Zt8 (Ztl ZP)))
abbrev ZbO:Stmt:=hdS (Zt16 (Zt8 (Zt2 ZP)))
abbrev Zbl:Stmt:=hdS (Zt16 (Zt8 (Zt2 (Ztl ZP))))
abbrev ZbZ:Stmt:=hdS (Zt16 (Zt8 (Zt4 ZP)))
abbrev ZaW:Stmt:=hdS (Zt16 (Zt8 (Zt4 (Ztl ZP))))
abbrev Zbf:Stmt:=hdS (Zt16 (Zt8 (Zt4 (Zt2 ZP))))
abbrev ZaT:Stmt:=hdS (Zt16 (Zt8 (Zt4 (Zt2 (Ztl ZP)))))
abbrev Zab:Stmt:=hdS (Zt32 ZP)
abbrev Za0:Stmt:=hdS (Zt32 (Ztl ZP))
abbrev ZaL:Stmt:=hdS (Zt32 (Zt2 ZP))
abbrev Zat:Stmt:=hdS (Zt32 (Zt2 (Ztl ZP)))
abbrev ZbT:Stmt:=hdS (Zt32 (Zt4 ZP))
abbrev ZbP:Stmt:=hdS (Zt32 (Zt4 (Ztl ZP)))
abbrev Zb9:Stmt:=hdS (Zt32 (Zt4 (Zt2 ZP)))
theorem Zgd:Zr ["_law_cell", "_law_k", "_law_m"] ["_law_cell", "_law_k"] (Zf Zck):=⟨rfl,rfl,rfl,by ac_rfl,rfl,by ac_rfl,by ac_rfl⟩
theorem ZeH:Zr ["_law_script", "_law_k", "_law_cell"] ["_law_script", "_law_k"] (Zf ZbW):=⟨rfl,rfl,rfl,by ac_rfl,rfl,by ac_rfl,by ac_rfl⟩
theorem ZeS:Zr ["_law_left_here", "_law_many_here", "_law_digit"] ["_law_left_here", "_law_many_here"] (Zf Zb0):=⟨rfl,rfl,rfl,by ac_rfl,rfl,by ac_rfl,by ac_rfl⟩
theorem Zda:Zr ["thing"] ["thing"] (Zf ZaR):=⟨rfl,rfl,rfl,by ac_rfl,rfl,by ac_rfl,by ac_rfl⟩
theorem ZeW:Zr ["_law_left_here", "_law_way"] ["_law_left_here"] (Zf ZbO):=⟨rfl,rfl,rfl,by ac_rfl,rfl,by ac_rfl,by ac_rfl⟩
theorem Zh9:Zr ["_law_left_here"] ["_law_left_here"] (Zf ZbZ):=⟨rfl,rfl,rfl,by ac_rfl,rfl,by ac_rfl,by ac_rfl⟩
theorem Zbe:Zr ["_law_tree", "_law_found", "_law_waiting", "_law_one"] ["_law_tree"] (Zf ZaW):=⟨rfl,rfl,rfl,by ac_rfl,rfl,by ac_rfl,by ac_rfl⟩
theorem ZbN:Zr ["_law_sizes_here", "_law_tree", "_law_total", "_law_waiting", "_law_one"] ["_law_sizes_here", "_law_tree"] (Zf Zbf):=⟨rfl,rfl,rfl,by ac_rfl,rfl,by ac_rfl,by ac_rfl⟩
theorem ZE:Zr ["sizes", "tree", "size", "cost", "part", "part_size", "part_cost"] ["sizes", "tree"] (Zf Zaa):=⟨rfl,rfl,rfl,by ac_rfl,rfl,by ac_rfl,by ac_rfl⟩
theorem ZgN:Zr ["sizes", "tree"] ["sizes", "tree"] (Zf Zbp):=⟨rfl,rfl,rfl,by ac_rfl,rfl,by ac_rfl,by ac_rfl⟩
theorem ZaZ:Zr ["_law_left_here", "_law_most", "_law_many_here", "_law_way", "_law_found", "_law_k", "_law_some"] ["_law_left_here", "_law_most"] (Zf Zbl):=⟨rfl,rfl,rfl,by ac_rfl,rfl,by ac_rfl,by ac_rfl⟩
theorem Zb5:Zr ["groves", "begin", "end", "most", "price", "middle"] ["groves", "begin", "end", "most"] (Zf Zax):=⟨rfl,rfl,rfl,by ac_rfl,rfl,by ac_rfl,by ac_rfl⟩
theorem ZbD:Zr ["groves", "sizes", "ways", "begin", "end", "price", "parts"] ["groves", "sizes", "ways", "begin", "end"] (Zf ZaF):=⟨rfl,rfl,rfl,by ac_rfl,rfl,by ac_rfl,by ac_rfl⟩
theorem Zcm:Zr ["groves", "alone", "begin", "end", "most", "cut"] ["groves", "alone", "begin", "end", "most"] (Zf Zas):=⟨rfl,rfl,rfl,by ac_rfl,rfl,by ac_rfl,by ac_rfl⟩
theorem ZR:Zr ["sizes", "ways", "groves", "many", "begin", "end", "alone", "most"] ["sizes", "ways"] (Zf Zah):=⟨rfl,rfl,rfl,by ac_rfl,rfl,by ac_rfl,by ac_rfl⟩
theorem Zca:Zr ["sizes", "ways", "price", "trees"] ["sizes", "ways"] (Zf ZaS):=⟨rfl,rfl,rfl,by ac_rfl,rfl,by ac_rfl,by ac_rfl⟩
theorem Zcw:Zr ["_law_begin", "_law_end", "_law_ways_here", "_law_found", "_law_place"] ["_law_begin", "_law_end", "_law_ways_here"] (Zf Za0):=⟨rfl,rfl,rfl,by ac_rfl,rfl,by ac_rfl,by ac_rfl⟩
theorem ZbK:Zr ["sizes", "ways", "groves", "many"] ["sizes", "ways"] (Zf Zai):=⟨rfl,rfl,rfl,by ac_rfl,rfl,by ac_rfl,by ac_rfl⟩
theorem Zbk:Zr ["_law_many_here", "_law_found", "_law_begin"] ["_law_many_here"] (Zf Zab):=⟨rfl,rfl,rfl,by ac_rfl,rfl,by ac_rfl,by ac_rfl⟩
theorem ZbI:Zr ["sizes", "ways", "thing", "found", "part"] ["sizes", "ways", "thing", "found"] (Zf ZaD):=⟨rfl,rfl,rfl,by ac_rfl,rfl,by ac_rfl,by ac_rfl⟩
theorem Zbd:Zr ["_law_sizes_here", "_law_ways_here", "_law_thing", "_law_numbers", "_law_waiting", "_law_one"] ["_law_sizes_here", "_law_ways_here", "_law_thing"] (Zf ZaT):=⟨rfl,rfl,rfl,by ac_rfl,rfl,by ac_rfl,by ac_rfl⟩
theorem ZdO:Zr ["many"] ["many"] (Zf Z2):=⟨rfl,rfl,rfl,by ac_rfl,rfl,by ac_rfl,by ac_rfl⟩
theorem Ze9:Zr ["priced", "cut", "begin", "end"] ["priced", "cut", "begin", "end"] (Zf Zaz):=⟨rfl,rfl,rfl,by ac_rfl,rfl,by ac_rfl,by ac_rfl⟩
theorem Za3:Zr ["priced", "most", "cut", "parts"] ["priced", "most"] (Zf Zak):=⟨rfl,rfl,rfl,by ac_rfl,rfl,by ac_rfl,by ac_rfl⟩
theorem Zes:Zr ["sizes", "priced", "cut", "begin", "end"] ["sizes", "priced", "cut", "begin", "end"] (Zf ZaE):=⟨rfl,rfl,rfl,by ac_rfl,rfl,by ac_rfl,by ac_rfl⟩
theorem Zfs:Zr ["thing"] ["thing"] (Zf ZaV):=⟨rfl,rfl,rfl,by ac_rfl,rfl,by ac_rfl,by ac_rfl⟩
theorem ZcF:Zr ["many", "thing", "entry"] ["many", "thing"] (Zf Zan):=⟨rfl,rfl,rfl,by ac_rfl,rfl,by ac_rfl,by ac_rfl⟩
theorem Zd6:Zr ["sizes", "ways", "thing", "found"] ["sizes", "ways", "thing"] (Zf Zbt):=⟨rfl,rfl,rfl,by ac_rfl,rfl,by ac_rfl,by ac_rfl⟩
theorem Zaj:Zr ["sizes", "ways", "tree", "prices", "priced", "cut", "begin", "end", "price"] ["sizes", "ways", "tree", "prices"] (Zf Zal):=⟨rfl,rfl,rfl,by ac_rfl,rfl,by ac_rfl,by ac_rfl⟩
theorem Zf7:Zr ["_law_prices", "_law_cuts_here", "_law_end"] ["_law_prices", "_law_cuts_here", "_law_end"] (Zf ZaL):=⟨rfl,rfl,rfl,by ac_rfl,rfl,by ac_rfl,by ac_rfl⟩
theorem ZaJ:Zr ["_law_sizes_here", "_law_ways_here", "_law_tree", "_law_thing", "_law_row", "_law_prices", "_law_begin", "_law_end", "_law_own", "_law_cuts_here"] ["_law_sizes_here", "_law_ways_here", "_law_tree", "_law_thing"] (Zf Zat):=⟨rfl,rfl,rfl,by ac_rfl,rfl,by ac_rfl,by ac_rfl⟩
theorem Zc8:Zr ["_law_left_here", "_law_deep_here", "_law_some", "_law_parts"] ["_law_left_here", "_law_deep_here"] (Zf ZbT):=⟨rfl,rfl,rfl,by ac_rfl,rfl,by ac_rfl,by ac_rfl⟩
theorem ZcC:Zr ["_law_left_here", "_law_thing", "_law_turn"] ["_law_left_here"] (Zf ZbP):=⟨rfl,rfl,rfl,by ac_rfl,rfl,by ac_rfl,by ac_rfl⟩
theorem Za1:Zr ["_law_script", "_law_k", "_law_left_here", "_law_sizes_here", "_law_ways_here", "_law_cost_here", "_law_tree", "_law_prices", "_law_turn", "_law_odd", "_law_one", "_law_thing", "_law_kept", "_law_found"] ["_law_script"] (Zf Zb9):=⟨rfl,rfl,rfl,by ac_rfl,rfl,by ac_rfl,by ac_rfl⟩
abbrev zsc(l:List (Str×NameKind)):Scope:={ kind:=.function,names:=l,isGenerator:=false,isCoroutine:=false,more:=[] }
def ZkD:Scope:=zsc [(".0",.«local»),("_law_n",.«local»),("_law_sizes_here",.free)]
theorem Zk7:ZC ["_law_sizes_here", "_law_tree", "_law_total", "_law_waiting", "_law_one"] ["_law_sizes_here", "_law_tree", "_law_total", "_law_waiting", "_law_one", "_law_n"] (Zf Zbf) ZkD:=⟨rfl,rfl,by ac_rfl,by ac_rfl,by ac_rfl,by decide,by ac_rfl,by ac_rfl⟩
def Zld:Scope:=zsc [(".0",.«local»),("middle",.«local»),("begin",.free),("end",.free),("groves",.free),("most",.free)]
theorem Zeu:ZC ["groves", "begin", "end", "most", "price", "middle"] ["groves", "begin", "end", "most", "price", "?middle", "middle"] (Zf Zax) Zld:=⟨rfl,rfl,by ac_rfl,by ac_rfl,by ac_rfl,by decide,by ac_rfl,by ac_rfl⟩
def Zku:Scope:=zsc [(".0",.«local»),("_law_cuts_here",.«local»),("len",.globalImplicit),("_law_place",.free),("_law_ways_here",.free)]
theorem ZgW:ZC ["_law_begin", "_law_end", "_law_ways_here", "_law_found", "_law_place"] ["_law_begin", "_law_end", "_law_ways_here", "_law_found", "_law_place", "_law_cuts_here"] (Zf Za0) Zku:=⟨rfl,rfl,by ac_rfl,by ac_rfl,by ac_rfl,by decide,by ac_rfl,by ac_rfl⟩
def ZkN:Scope:=zsc [(".0",.«local»),("_law_cuts_here",.«local»),("len",.globalImplicit)]
theorem ZiY:ZC ["_law_begin", "_law_end", "_law_ways_here", "_law_found", "_law_place"] ["_law_begin", "_law_end", "_law_ways_here", "_law_found", "_law_place", "_law_cuts_here"] (Zf Za0) ZkN:=⟨rfl,rfl,by ac_rfl,by ac_rfl,by ac_rfl,by decide,by ac_rfl,by ac_rfl⟩
def ZlB:Scope:=zsc [(".0",.«local»),("begin",.«local»),("end",.«local»),("range",.globalImplicit),("groves",.free),("many",.free)]
theorem Zd5:ZC ["sizes", "ways", "groves", "many"] ["sizes", "ways", "groves", "many", "begin", "end"] (Zf Zai) ZlB:=⟨rfl,rfl,by ac_rfl,by ac_rfl,by ac_rfl,by decide,by ac_rfl,by ac_rfl⟩
def ZkJ:Scope:=zsc [(".0",.«local»),("_law_end",.«local»),("_law_begin",.free)]
theorem Zlo:ZC ["_law_many_here", "_law_found", "_law_begin"] ["_law_many_here", "_law_found", "_law_begin", "_law_end"] (Zf Zab) ZkJ:=⟨rfl,rfl,by ac_rfl,by ac_rfl,by ac_rfl,by decide,by ac_rfl,by ac_rfl⟩
def Zlu:Scope:=zsc [(".0",.«local»),("begin",.«local»),("end",.«local»),("range",.globalImplicit),("many",.free)]
theorem Zf2:ZC ["many"] ["many", "begin", "end"] (Zf Z2) Zlu:=⟨rfl,rfl,by ac_rfl,by ac_rfl,by ac_rfl,by decide,by ac_rfl,by ac_rfl⟩
def Zk6:Scope:=zsc [(".0",.«local»),("middle",.«local»),("begin",.free),("cut",.free),("end",.free),("priced",.free)]
theorem Zf6:ZC ["priced", "cut", "begin", "end"] ["priced", "cut", "begin", "end", "middle"] (Zf Zaz) Zk6:=⟨rfl,rfl,by ac_rfl,by ac_rfl,by ac_rfl,by decide,by ac_rfl,by ac_rfl⟩
def Zlc:Scope:=zsc [(".0",.«local»),("begin",.«local»),("end",.«local»),("price",.«local»),("min",.globalImplicit),("part_sums",.globalImplicit),("cut",.free),("priced",.free)]
theorem Zdr:ZC ["priced", "most", "cut", "parts"] ["priced", "most", "cut", "parts", "price", "begin", "end"] (Zf Zak) Zlc:=⟨rfl,rfl,by ac_rfl,by ac_rfl,by ac_rfl,by decide,by ac_rfl,by ac_rfl⟩
def ZkL:Scope:=zsc [(".0",.«local»),("begin",.«local»),("end",.«local»),("price",.«local»)]
theorem Zh3:ZC ["many", "thing", "entry"] ["many", "thing", "entry", "begin", "end", "price"] (Zf Zan) ZkL:=⟨rfl,rfl,by ac_rfl,by ac_rfl,by ac_rfl,by decide,by ac_rfl,by ac_rfl⟩
def Zje:Scope:=zsc [(".0",.«local»),("begin",.«local»),("end",.«local»),("price",.«local»)]
theorem Zee:ZC ["sizes", "ways", "tree", "prices", "priced", "cut", "begin", "end", "price"] ["sizes", "ways", "tree", "prices", "priced", "cut", "?begin", "?end", "?price", "begin", "end", "price"] (Zf Zal) Zje:=⟨rfl,rfl,by ac_rfl,by ac_rfl,by ac_rfl,by decide,by ac_rfl,by ac_rfl⟩
def ZiQ:Scope:=zsc [(".0",.«local»),("_law_pair",.«local»),("_law_prices",.free)]
theorem Zh2:ZC ["_law_prices", "_law_cuts_here", "_law_end"] ["_law_prices", "_law_cuts_here", "_law_end", "_law_pair"] (Zf ZaL) ZiQ:=⟨rfl,rfl,by ac_rfl,by ac_rfl,by ac_rfl,by decide,by ac_rfl,by ac_rfl⟩
def Zjj:Scope:=zsc [(".0",.«local»),("_law_number",.«local»),("isinstance",.globalImplicit),("int",.globalImplicit),("bool",.globalImplicit)]
theorem ZdF:ZC ["_law_sizes_here", "_law_ways_here", "_law_tree", "_law_thing", "_law_row", "_law_prices", "_law_begin", "_law_end", "_law_own", "_law_cuts_here"] ["_law_sizes_here", "_law_ways_here", "_law_tree", "_law_thing", "_law_row", "_law_prices", "_law_begin", "_law_end", "_law_own", "_law_cuts_here", "_law_number"] (Zf Zat) Zjj:=⟨rfl,rfl,by ac_rfl,by ac_rfl,by ac_rfl,by decide,by ac_rfl,by ac_rfl⟩
def Zi8:Scope:=zsc [(".0",.«local»),("_law_row",.«local»)]
theorem Zi1:ZC ["_law_sizes_here", "_law_ways_here", "_law_tree", "_law_thing", "_law_row", "_law_prices", "_law_begin", "_law_end", "_law_own", "_law_cuts_here"] ["_law_sizes_here", "_law_ways_here", "_law_tree", "_law_thing", "?_law_row", "_law_prices", "_law_begin", "_law_end", "_law_own", "_law_cuts_here", "_law_row"] (Zf Zat) Zi8:=⟨rfl,rfl,by ac_rfl,by ac_rfl,by ac_rfl,by decide,by ac_rfl,by ac_rfl⟩
def Zi9:Scope:=zsc [(".0",.«local»),("_law_row",.«local»)]
theorem Zho:ZC ["_law_sizes_here", "_law_ways_here", "_law_tree", "_law_thing", "_law_row", "_law_prices", "_law_begin", "_law_end", "_law_own", "_law_cuts_here"] ["_law_sizes_here", "_law_ways_here", "_law_tree", "_law_thing", "?_law_row", "_law_prices", "_law_begin", "_law_end", "_law_own", "_law_cuts_here", "_law_row"] (Zf Zat) Zi9:=⟨rfl,rfl,by ac_rfl,by ac_rfl,by ac_rfl,by decide,by ac_rfl,by ac_rfl⟩
def ZiW:Scope:=zsc [(".0",.«local»),("_law_k",.«local»),("_law_any",.globalImplicit),("_law_deep_here",.free),("_law_left_here",.free)]
theorem Zgm:ZC ["_law_left_here", "_law_deep_here", "_law_some", "_law_parts"] ["_law_left_here", "_law_deep_here", "_law_some", "_law_parts", "_law_k"] (Zf ZbT) ZiW:=⟨rfl,rfl,by ac_rfl,by ac_rfl,by ac_rfl,by decide,by ac_rfl,by ac_rfl⟩
structure Bt (mg:Str→Option Value):Prop where
 n_abs:mg "abs" = none
 n_all:mg "all" = none
 n_bool:mg "bool" = none
 n_dict:mg "dict" = none
 n_int:mg "int" = none
 n_isinstance:mg "isinstance" = none
 n_len:mg "len" = none
 n_list:mg "list" = none
 n_max:mg "max" = none
 n_min:mg "min" = none
 n_range:mg "range" = none
 n_sorted:mg "sorted" = none
 n_str:mg "str" = none
 n_sum:mg "sum" = none
 n_tuple:mg "tuple" = none
 n_zip:mg "zip" = none
structure Zar (K:PySem.W.Frag) (mg:Str→Option Value):Prop where
 b:Bt mg
 t_is_number:Top K mg "is_number" ZaR ["thing"]
 t_is_triple:Top K mg "is_triple" ZaV ["thing"]
 t_finds_rows:Top K mg "finds_rows" ZaD ["sizes", "ways", "thing", "found"]
 t_cost_of:Top K mg "cost_of" Zbp ["sizes", "tree"]
 t_size_and_cost:Top K mg "size_and_cost" Zaa ["sizes", "tree"]
 t_shows_near:Top K mg "shows_near" Zal ["sizes", "ways", "tree", "prices"]
 t_is_near:Top K mg "is_near" Zbt ["sizes", "ways", "thing"]
 t_are_prices:Top K mg "are_prices" Zan ["many", "thing"]
 t_stretches_of:Top K mg "stretches_of" Z2 ["many"]
 t_cut_prices:Top K mg "cut_prices" Zak ["priced", "most"]
 t_part_sums:Top K mg "part_sums" Zaz ["priced", "cut", "begin", "end"]
 t_most_price:Top K mg "most_price" ZaE ["sizes", "priced", "cut", "begin", "end"]
 t_near_plan:Top K mg "near_plan" ZaS ["sizes", "ways"]
 t_prices_for:Top K mg "prices_for" Zai ["sizes", "ways"]
 t_least_groves:Top K mg "least_groves" Zah ["sizes", "ways"]
 t_least_tree:Top K mg "least_tree" ZaF ["groves", "sizes", "ways", "begin", "end"]
 t_least_grove:Top K mg "least_grove" Zas ["groves", "alone", "begin", "end", "most"]
 t_least_cut:Top K mg "least_cut" Zax ["groves", "begin", "end", "most"]
 t_l_mix:Top K mg "_law_mix" Zck ["_law_cell", "_law_k"]
 t_l_left:Top K mg "_law_left" ZbW ["_law_script", "_law_k"]
 t_l_pick:Top K mg "_law_pick" Zb0 ["_law_left_here", "_law_many_here"]
 t_l_many:Top K mg "_law_many" ZbO ["_law_left_here"]
 t_l_sizes:Top K mg "_law_sizes" Zbl ["_law_left_here", "_law_most"]
 t_l_ways:Top K mg "_law_ways" ZbZ ["_law_left_here"]
 t_l_rows_in:Top K mg "_law_rows_in" ZaW ["_law_tree"]
 t_l_cost:Top K mg "_law_cost" Zbf ["_law_sizes_here", "_law_tree"]
 t_l_is_plan:Top K mg "_law_is_plan" ZaT ["_law_sizes_here", "_law_ways_here", "_law_thing"]
 t_l_stretches:Top K mg "_law_stretches" Zab ["_law_many_here"]
 t_l_cuts:Top K mg "_law_cuts" Za0 ["_law_begin", "_law_end", "_law_ways_here"]
 t_l_beside:Top K mg "_law_beside" ZaL ["_law_prices", "_law_cuts_here", "_law_end"]
 t_l_shows:Top K mg "_law_shows" Zat ["_law_sizes_here", "_law_ways_here", "_law_tree", "_law_thing"]
 t_l_any:Top K mg "_law_any" ZbT ["_law_left_here", "_law_deep_here"]
 t_l_deep:Top K mg "_law_deep" ZbP ["_law_left_here"]
def Z9(H:Hp)(p:Addr)(c:Int):Prop:=∃a b:Int,H p=some (.lst [.int a,.int b,.int c])∧0≤c
def But(p:Addr)(H H':Hp):Prop:=∀b o,H b=some o→b≠p→H' b=some o
theorem But.refl(p:Addr)(H:Hp):But p H H:=fun _ _ h _=>h
theorem But.trans{p:Addr}{H H1 H2:Hp}(a:But p H H1)(b:But p H1 H2):But p H H2:=fun c o h n=>b c o (a c o h n) n
theorem But.same{p:Addr}{H H1:Hp}(a:Zn H H1):But p H H1:=fun c o h _=>a c o h
theorem Zd{H:Hp}{p:Addr}(h:H p=none)(o:HO):Zn H (upd H p o):=fun b u q=>by rw[Zj (Zg q h)];exact q
theorem ZlC{n:Nat}(h:n≤1000):n≤sizeLine:=Q7 (ZB h)
def Zjt:Sp:=fun vs H Q _=>∃a k:Int,vs=[.int a,.int k] ∧ -(2 ^ 62)<k∧k<2 ^ 62∧∀r:Int,0≤r→r<2000000000→Q (.int r) H
def ZjN(K:PySem.W.Frag):Sp:=fun vs H Q _=>∃ (a:Addr) (ns:List Int) (k:Int),vs=[.ref a,.int k]∧SqL K H a (ns.map V.int)∧ns.length≤63∧0≤k∧k<100 ∧
 ∀ (p:Addr) (H':Hp),H p=none→Z9 H' p 0→Zn H H'→Q (.ref p) H'
def ZcN:Sp:=fun vs H Q _=>∃ (p:Addr) (c m:Int),vs=[.ref p,.int m]∧Z9 H p c∧c<2 ^ 60∧0<m∧m<1073741824 ∧
 ∀ (r:Int) (H':Hp),0≤r→r<m→Z9 H' p (c+1)→But p H H'→Q (.int r) H'
theorem ZmH{ns:List Int}{k:Int}(h0:0≤k)(h:k<(ns.length:Int)):∃v:Int,atI (ns.map V.int) k=some (.int v):=by
 have hk:k.toNat<ns.length:=by omega
 have ek:k=((k.toNat:Nat):Int):=by omega
 have q:atI (ns.map V.int) ((k.toNat:Nat):Int)=some (.int ns[k.toNat]):=Zc2 (by rw[Qr,Qc hk]<;>rfl)
 rw[← ek]at q
 exact⟨_,q⟩
theorem ZlX(b:Bool):-(2 ^ 64)<(if b=true then (1:Int) else 0)∧(if b=true then (1:Int) else 0)<2 ^ 64:=by cases b<;>decide
def IsD(H:Hp):Nat→V→V→Prop
 | 0,_,_=>False
 | n+1,x,y=>(x=y∧(x=.non∨(∃b,x=.bl b)∨(∃i,x=.int i)∨∃s,x=.str s)) ∨
   (∃ (p q:Addr) (xs ys:List V),x=.ref p∧y=.ref q∧((H p=some (.lst xs)∧H q=some (.lst ys))∨(H p=some (.tup xs)∧H q=some (.tup ys)))∧xs.length=ys.length∧xs.length≤1000∧∀ (i:Nat) (x y:V),xs[i]? = some x→ys[i]? = some y→IsD H n x y)
section
variable (K:PySem.W.Frag)
open PySem.W
theorem Zey:kitOne K (.type "tuple") (.type "tuple")=some true:=by unfold kitOne kitCls;rfl
theorem Zf4:kitOne K (.type "int") (.type "bool")=some false:=by unfold kitOne kitCls;rfl
theorem Zif:kitOne K (.type "int") (.type "int")=some true:=by unfold kitOne kitCls;rfl
theorem Zla:kitOne K (.type "bool") (.type "bool")=some true:=by unfold kitOne kitCls;rfl
end
section
variable {P:Program} {w:World} {K:PySem.W.Frag} {mg:Str→Option Value} {base:Heap}
theorem Zmw(T:Zar K mg):Df P w K mg base 1 "_law_mix" ["_law_cell", "_law_k"] Zjt:=by
 refine T.t_l_mix.df Zgd (fun vs H Q E h=>?_) (fun cdv f A outer s H vs Q E hr h=>?_)
 ·obtain⟨a,k,rfl,_⟩:=h
  rfl
 obtain⟨a,k,rfl,k1,k2,q⟩:=h
 refine⟨_,#[Zh,#[Zw,2,Zgd.nd,(Or.inl rfl),#[Zq,Zdn,#[Zq,Zcr,#[Zq,ZM,#[Zq,ZM,#[Zq,Zdn,‹0›,#[Ze]],#[Zq,Zcr,#[Zq,Zcr,‹1›,‹1›],#[Ze]]],#[Ze]],#[Ze]],#[Ze]]],#[Zi,#[Zl,#[Zq,Zdn,#[Zq,Zcr,‹2›,‹2›],#[Ze]]]]],?_⟩
 refine⟨_,rfl,_,_,rfl,rfl,(by show (0:Int)<_;decide),_,rfl,_,rfl,_,_,rfl,rfl,.inl ⟨by omega,by omega⟩,_,_,rfl,rfl,.inr ⟨by decide,by decide⟩,_,_,rfl,rfl,_,_,rfl,rfl,_,_,rfl,rfl,.inr ⟨by decide,by decide⟩,_,_,rfl,rfl,(by show (0:Int)<_;decide),?_⟩
 have m0:=Int.emod_nonneg ((a % 2147483629+k*k*7919+11)*48271) (show (2147483647:Int)≠0 by decide)
 have m1:=QaV ((a % 2147483629+k*k*7919+11)*48271) (show (0:Int)<2147483647 by decide)
 refine⟨_,rfl,_,rfl,_,_,rfl,rfl,.inl ⟨by omega,by omega⟩,_,_,rfl,rfl,(by show (0:Int)<_;decide),?_⟩
 exact q _ (Int.emod_nonneg _ (by decide)) (Int.lt_trans (QaV _ (by decide)) (by decide))
theorem Zks(T:Zar K mg):Df P w K mg base 1 "_law_left" ["_law_script", "_law_k"] (ZjN K):=by
 refine T.t_l_left.df ZeH (fun vs H Q E h=>?_) (fun cdv f A outer s H vs Q E hr h=>?_)
 ·obtain⟨a,ns,k,rfl,_⟩:=h
  rfl
 obtain⟨a,ns,k,rfl,hS,h63,k0,k1,q⟩:=h
 refine⟨_,#[Zh,#[Zw,2,ZeH.nd,(Or.inl rfl),(@Zf5 _ _ _ _ _ _ _ _ #[ZA,ZfO,‹1›,#[Zk,(ZbC K),(by rfl),T.b.n_len,QB,#[Za,‹0›,#[Zc]]],(ZF _)] #[ZI,(ixL K),‹0›,‹1›] #[Ze])],#[Zi,#[Zl,#[ZG,#[Za,#[Zq,Zcr,#[Zk,Zgp,(by rfl),T.b.n_abs,boot_abs,#[Za,‹2›,#[Zc]]],#[Zac,Ziz,T.b.n_int,boot_int,#[Za,(@Zc3 _ _ _ _ _ _ _ _ ZlE #[Zk,Zgp,(by rfl),T.b.n_abs,boot_abs,#[Za,‹2›,#[Zc]]] #[Zq,ZgA,#[Ze],#[Ze]] (ZF _)),#[Zc]]]],#[Za,#[Zq,ZM,‹2›,#[Zq,Zcr,#[Ze],‹1›]],#[Za,#[Ze],#[Zc]]]]]]]],?_⟩
 have hl:(ns.map V.int).length=ns.length:=Qb _
 have pw:ZmL 10 18:=⟨by decide,by decide,by decide⟩
 refine⟨_,rfl,_,rfl,a,_,rfl,.inl hS,_,_,rfl,rfl,_,rfl,?_⟩
 refine ZdN (fun c=>?_) (fun c=>?_)
 ·have c':k<(((ns.map V.int).length:Nat):Int):=of_decide_eq_true c
  rw[hl]at c'
  obtain⟨v,hv⟩:=ZmH (ns:=ns) k0 c'
  refine⟨_,rfl,_,rfl,a,_,_,_,rfl,rfl,hS,hv,?_⟩
  refine⟨_,rfl,_,rfl,_,rfl,_,rfl,_,_,rfl,rfl,pw,_,_,rfl,rfl,.inr ⟨_,rfl,_,_,rfl,rfl,.inr (ZlX _),_,rfl,_,rfl,_,_,rfl,rfl,.inl ⟨by decide,by decide⟩,_,_,rfl,rfl,(by show 3≤sizeLine;decide),fun p hp=>?_⟩⟩
  exact q p _ hp ⟨_,_,Zb,Qaa _⟩ (Zd hp _)
 ·refine⟨_,rfl,_,rfl,_,rfl,_,rfl,_,_,rfl,rfl,pw,_,_,rfl,rfl,.inr ⟨_,rfl,_,_,rfl,rfl,.inr (ZlX _),_,rfl,_,rfl,_,_,rfl,rfl,.inl ⟨by decide,by decide⟩,_,_,rfl,rfl,(by show 3≤sizeLine;decide),fun p hp=>?_⟩⟩
  exact q p _ hp ⟨_,_,Zb,Qaa _⟩ (Zd hp _)
theorem Zlb(T:Zar K mg)(f_l_mix:Df P w K mg base 1 "_law_mix" ["_law_cell", "_law_k"] Zjt):Df P w K mg base 2 "_law_pick" ["_law_left_here", "_law_many_here"] ZcN:=by
 refine T.t_l_pick.df ZeS (fun vs H Q E h=>?_) (fun cdv f A outer s H vs Q E hr h=>?_)
 ·obtain⟨p,c,m,rfl,_⟩:=h
  rfl
 obtain⟨p,c,m,rfl,⟨a,b,hp,c0⟩,c1,m0,m1,q⟩:=h
 refine⟨_,#[Zh,#[Zcf,#[Zq,ZM,#[ZI,(ixL K),‹0›,#[Ze]],#[Ze]],(@ZgS _ _ _ _ _ _ _ ‹0› #[Ze] Zf1 (by intro _;rfl))],#[Zh,#[ZZ,#[ZA,ZeM,#[ZI,(ixL K),‹0›,#[Ze]],#[Ze],(ZF _)],#[Zh,#[Zw,2,ZeS.nd,(Or.inl rfl),#[Zq,Zdn,#[ZI,(ixL K),‹0›,#[Ze]],‹1›]],#[Zh,#[Zcf,#[Zq,ZhO,#[ZI,(ixL K),‹0›,#[Ze]],‹1›],(@ZgS _ _ _ _ _ _ _ ‹0› #[Ze] Zf1 (by intro _;rfl))],#[Zi,#[Zl,‹2›]]]],#[ZD]],#[Zi,#[Zl,#[Zq,Zdn,#[Zq,ZhO,#[Zs,f_l_mix,hr,#[Za,#[Zs,f_l_mix,hr,#[Za,#[ZI,(ixL K),‹0›,#[Ze]],#[Za,#[ZI,(ixL K),‹0›,#[Ze]],#[Zc]]],(by rfl)],#[Za,#[Zq,ZM,#[ZI,(ixL K),‹0›,#[Ze]],#[Ze]],#[Zc]]],(by rfl)],#[Ze]],‹1›]]]]],?_⟩
 have u1:(upd H p (.lst [.int a,.int b,.int (c+1)])) p=some (.lst [.int a,.int b,.int (c+1)]):=Zb
 refine⟨_,rfl,p,_,_,_,rfl,rfl,SqL.of hp,rfl,_,_,rfl,rfl,_,rfl,p,_,_,2,rfl,rfl,hp,rfl,?_⟩
 refine⟨_,rfl,p,_,_,_,rfl,rfl,SqL.of u1,rfl,_,_,rfl,rfl,_,rfl,?_⟩
 refine ZdN (fun d=>?_) (fun d=>?_)
 ·refine⟨_,rfl,p,_,_,_,rfl,rfl,SqL.of u1,rfl,_,rfl,_,_,rfl,rfl,m0,?_⟩
  refine⟨_,rfl,p,_,_,_,rfl,rfl,SqL.of u1,rfl,_,rfl,_,_,rfl,rfl,⟨m0,by omega⟩,_,rfl,p,_,_,0,rfl,rfl,u1,rfl,?_⟩
  refine⟨_,rfl,?_⟩
  refine q _ _ (Int.emod_nonneg _ (by omega)) (QaV _ m0) ⟨a / m,b,Zb,by omega⟩ fun e o h n=>?_
  rw[Zj n,Zj n]
  exact h
 ·refine⟨_,rfl,p,_,_,_,rfl,rfl,SqL.of u1,rfl,_,rfl,p,_,_,_,rfl,rfl,SqL.of u1,rfl,_,_,rfl,by omega,by omega,fun r r0 r1=>?_⟩
  refine⟨_,rfl,p,_,_,_,rfl,rfl,SqL.of u1,rfl,_,_,rfl,rfl,_,_,rfl,by omega,by omega,fun r' r0' r1'=>?_⟩
  refine⟨_,_,rfl,rfl,⟨by decide,by decide⟩,_,rfl,_,_,rfl,rfl,m0,?_⟩
  refine q _ _ (Int.emod_nonneg _ (by omega)) (QaV _ m0) ⟨a,b,Zb,by omega⟩ fun e o h n=>?_
  rw[Zj n]
  exact h
theorem ZfT{c A B:Prop}[Decidable c](hc:c)(h:A):if decide c=true then A else B:=by
 rw[if_pos (decide_eq_true hc)]
 exact h
theorem ZdG{c A B:Prop}[Decidable c](hc:¬ c)(h:B):if decide c=true then A else B:=by
 rw[if_neg (by rw[decide_eq_false hc];exact Qj)]
 exact h
theorem Z9.new{H:Hp}{p l:Addr}{c:Int}{o:HO}(h:Z9 H p c)(n:H l=none):Z9 (upd H l o) p c:=by
 obtain⟨a,b,hp,c0⟩:=h
 exact⟨a,b,by rw[Zj (Zg hp n)];exact hp,c0⟩
theorem Z9.ge{H:Hp}{p:Addr}{c:Int}(h:Z9 H p c):0≤c:=by obtain⟨a,b,hp,c0⟩:=h;exact c0
theorem Z9.here{H:Hp}{p:Addr}{c:Int}(h:Z9 H p c):∃o,H p=some o:=by obtain⟨a,b,hp,c0⟩:=h;exact⟨_,hp⟩
theorem Z9.at{H:Hp}{p l:Addr}{c:Int}{o:HO}(h:Z9 H p c)(n:p≠l):Z9 (upd H l o) p c:=by
 obtain⟨a,b,hp,c0⟩:=h
 exact⟨a,b,by rw[Zj n];exact hp,c0⟩
theorem Z9.same{H H':Hp}{p:Addr}{c:Int}(h:Z9 H p c)(s:Zn H H'):Z9 H' p c:=by obtain⟨b1,b2,hb,c0⟩:=h;exact⟨b1,b2,s _ _ hb,c0⟩
theorem ZjH(xs:List V)(i j:Nat)(h:i≤xs.length)(h2:j≤xs.length):Zbw xs (some i) (some j)=(xs.drop i).take (j-i):=by
 have e:∀ (k d:Nat),k≤xs.length→HT.sIx xs.length d (some (k:Int))=k:=fun k d hk=>by
  unfold HT.sIx
  simp only[]
  rw[if_neg (by omega)]
  omega
 unfold Zbw
 rw[e i _ h,e j _ h2]
theorem Zk4{p:Addr}{H H1:Hp}{l:Addr}(B:But p H H1)(n:p≠l)(h:H1 l=none):H l=none:=by
 cases w':H l with
 | none=>rfl
 | some u=>rw[B l u w' n.symm]at h;cases h
theorem Zfu{ns:List Int}{k:Int}(h0:0≤k)(h:k<(ns.length:Int)):∃v∈ns,atI (ns.map V.int) k=some (.int v):=by
 have hk:k.toNat<ns.length:=by omega
 have ek:k=((k.toNat:Nat):Int):=by omega
 have q:atI (ns.map V.int) ((k.toNat:Nat):Int)=some (.int ns[k.toNat]):=Zc2 (by rw[Qr,Qc hk]<;>rfl)
 rw[← ek]at q
 exact⟨_,QW hk,q⟩
theorem Zek{K:PySem.W.Frag}{a:Addr}{xs:List V}{k:Nat}{D:Addr}{σ:L2.St}{H1:Hp}{g:TG}{tc:TT}{te:TE}{Q:VK}(Pv:Nat→List V→L2.St→Hp→Prop)(h0:Pv 0 [] (σ++List.replicate k none) (upd H1 D (.lst [])))
  (hl:∀i ys σ H,Pv i ys σ H→SqL K H a xs)
  (hs:∀i x ys σ H,xs[i]? = some x→Pv i ys σ H→g x σ H fun σ4 H4=>tc σ4 H4 fun b H5=>if b=true then te σ4 H5 fun y H6=>H6 D=some (.lst ys)∧ys.length<sizeLine∧Pv (i+1) (ys++[y]) σ4 (upd H6 D (.lst (ys++[y]))) else Pv (i+1) ys σ4 H5)
  (hd:∀ys σ H,Pv xs.length ys σ H→Q (.ref D) H):ZdB (Itl K a) D k σ H1 g tc te Q:=by
 refine⟨fun i m ys σ H=>m=xs.length-i∧i≤xs.length∧Pv i ys σ H,⟨xs.length,by simp,Ql _,h0⟩,?_⟩
 rintro i m ys σ H ⟨rfl,hi,p⟩
 have q1:=hl i ys σ H p
 by_cases hlt:i<xs.length
 ·refine .inr ⟨⟨xs,xs[i],q1,Qc hlt⟩,Pv (i+1),fun ys' σ' H' p'=>⟨xs.length-(i+1),by omega,rfl,hlt,p'⟩,fun x H' y=>?_⟩
  obtain⟨rfl,e⟩:=y
  exact hs i x ys σ _ (e xs q1) p
 ·have e:i=xs.length:=by omega
  exact .inl ⟨⟨xs,q1,by omega⟩,hd ys σ H (e ▸ p)⟩
theorem ZcA{K:PySem.W.Frag}{a:Addr}{xs:List V}{k:Nat}{D:Addr}{σ:L2.St}{H1:Hp}{g:TG}{te:TE}{Q:VK}(Pv:Nat→List V→L2.St→Hp→Prop)(h0:Pv 0 [] (σ++List.replicate k none) (upd H1 D (.lst [])))
  (hl:∀i ys σ H,Pv i ys σ H→SqL K H a xs)
  (hs:∀i x ys σ H,xs[i]? = some x→Pv i ys σ H→g x σ H fun σ4 H4=>te σ4 H4 fun y H6=>H6 D=some (.lst ys)∧ys.length<sizeLine∧Pv (i+1) (ys++[y]) σ4 (upd H6 D (.lst (ys++[y]))))
  (hd:∀ys σ H,Pv xs.length ys σ H→Q (.ref D) H):ZdB (Itl K a) D k σ H1 g Zdy te Q:=by
 refine⟨fun i m ys σ H=>m=xs.length-i∧i≤xs.length∧Pv i ys σ H,⟨xs.length,by simp,Ql _,h0⟩,?_⟩
 rintro i m ys σ H ⟨rfl,hi,p⟩
 have q1:=hl i ys σ H p
 by_cases hlt:i<xs.length
 ·refine .inr ⟨⟨xs,xs[i],q1,Qc hlt⟩,Pv (i+1),fun ys' σ' H' p'=>⟨xs.length-(i+1),by omega,rfl,hlt,p'⟩,fun x H' y=>?_⟩
  obtain⟨rfl,e⟩:=y
  simp only[Zdy,↓reduceIte]
  exact hs i x ys σ _ (e xs q1) p
 ·have e:i=xs.length:=by omega
  exact .inl ⟨⟨xs,q1,by omega⟩,hd ys σ H (e ▸ p)⟩
theorem Zel:∀ns:List Int,PyData.canLayAll0 (ns.map PyData.int)=true
 | []=>rfl
 | x::r=>by simp[PyData.canLayAll0,PyData.canLay0,Zel r]
theorem Zef:∀ns:List Int,PyData.depthAll (ns.map PyData.int)=0
 | []=>rfl
 | _::r=>by simp[PyData.depthAll,PyData.depth,Zef r]
theorem ZdE(ns:List Int):SeqAt.shaped (.list (ns.map PyData.int))=true:=by simp[SeqAt.shaped,PyData.canLay0,PyData.depth,Zel ns,Zef]
theorem ZdT{K:PySem.W.Frag}{H:Hp}:∀ns:List Int,DVs K H (ns.map V.int) (ns.map PyData.int)
 | []=>.nil
 | s::r=>.cons (.int s) (ZdT r)
theorem AtT.mono{H H':Hp}{ts:ZaX}(h:AtT H ts)(s:Zn H H'):AtT H' ts:=fun x hx=>s _ _ (h x hx)
theorem Zau{H:Hp}{D:Addr}{ys:List V}(h:H D=some (.lst ys))(o:HO):∀a xs,H a=some (.tup xs)→(upd H D o) a=some (.tup xs):=fun a xs e=>by
 have nb:a≠D:=by intro z;rw[z,h]at e;cases e
 rw[Zj nb];exact e
theorem Zgf{c A B:Prop}[Decidable c](hc:c)(h:B):if (!decide c)=true then A else B:=by
 rw[if_neg (by rw[decide_eq_true hc];simp)]
 exact h
inductive PT where
 | leaf (k:Int)
 | node (l:List PT)
mutual
inductive TV (H:Hp):V→PT→Prop where
 | leaf (k:Int):TV H (.int k) (.leaf k)
 | node {a:Addr} {xs:List V} {l:List PT}:H a=some (.tup xs)→TVs H xs l→TV H (.ref a) (.node l)
inductive TVs (H:Hp):List V→List PT→Prop where
 | nil:TVs H [] []
 | cons {x:V} {t:PT} {xs:List V} {l:List PT}:TV H x t→TVs H xs l→TVs H (x::xs) (t::l)
end
mutual
theorem TV.mono{H H':Hp}(s:∀a xs,H a=some (.tup xs)→H' a=some (.tup xs)):∀ {x:V} {t:PT},TV H x t→TV H' x t
 | _,_,.leaf k=>.leaf k
 | _,_,.node h hs=>.node (s _ _ h) (hs.mono s)
theorem TVs.mono{H H':Hp}(s:∀a xs,H a=some (.tup xs)→H' a=some (.tup xs)):∀ {xs:List V} {l:List PT},TVs H xs l→TVs H' xs l
 | _,_,.nil=>.nil
 | _,_,.cons h hs=>.cons (h.mono s) (hs.mono s)
end
mutual
def toD:PT→PyData
 | .leaf k=>.int k
 | .node l=>.tuple (Z0 l)
def Z0:List PT→List PyData
 | []=>[]
 | t::r=>toD t::Z0 r
end
mutual
theorem TV.dv{K:PySem.W.Frag}{H:Hp}:∀ {x:V} {t:PT},TV H x t→DV K H x (toD t)
 | _,_,.leaf k=>.int k
 | _,_,.node h hs=>.tup (SqT.of h) hs.dv
theorem TVs.dv{K:PySem.W.Frag}{H:Hp}:∀ {xs:List V} {l:List PT},TVs H xs l→DVs K H xs (Z0 l)
 | _,_,.nil=>.nil
 | _,_,.cons h hs=>.cons h.dv hs.dv
end
theorem TVs.len{H:Hp}:∀ {xs:List V} {l:List PT},TVs H xs l→xs.length=l.length
 | _,_,.nil=>rfl
 | _,_,.cons _ hs=>by rw[QE,QE,hs.len]
theorem TVs.app{H:Hp}:∀ {xs ys:List V} {l m:List PT},TVs H xs l→TVs H ys m→TVs H (xs++ys) (l++m)
 | _,_,_,_,.nil,h=>h
 | _,_,_,_,.cons h hs,g=>.cons h (hs.app g)
theorem TVs.rev{H:Hp}:∀ {xs:List V} {l:List PT},TVs H xs l→TVs H xs.reverse l.reverse
 | _,_,.nil=>.nil
 | _,_,.cons h hs=>by rw[Qam,Qam];exact hs.rev.app (.cons h .nil)
theorem TVs.take{H:Hp}:∀ {xs:List V} {l:List PT} (n:Nat),TVs H xs l→TVs H (xs.take n) (l.take n)
 | _,_,0,_=>by rw[Qax,Qax];exact .nil
 | _,_,_+1,.nil=>.nil
 | _,_,n+1,.cons h hs=>.cons h (hs.take n)
theorem TVs.at{H:Hp}:∀ {xs:List V} {l:List PT} {i:Nat} {x:V},TVs H xs l→xs[i]? = some x→∃t,l[i]? = some t∧TV H x t
 | _,_,i,x,.nil,h=>by simp at h
 | _,_,0,x,.cons (t:=t) h _,e=>by simp at e;subst e;exact⟨t,rfl,h⟩
 | _,_,i+1,x,.cons _ hs,e=>by simpa using hs.at (i:=i) (by simpa using e)
theorem TVs.last{H:Hp}{xs:List V}{l:List PT}(h:TVs H xs l)(n:0<l.length):∃x t,xs[xs.length-1]? = some x∧TV H x t∧TVs H xs.dropLast l.dropLast∧l=l.dropLast++[t]:=by
 have hl:=h.len
 have h1:xs[xs.length-1]? = some xs[xs.length-1]:=Qc (by omega)
 obtain⟨t,ht,hv⟩:=h.at h1
 refine⟨_,t,h1,hv,?_,?_⟩
 ·rw[QaE,QaE,hl]
  exact h.take _
 ·rw[hl]at ht
  have e:l.getLast? = some t:=by rw[List.getLast?_eq_getElem?];exact ht
  obtain⟨r,er⟩:=List.getLast?_eq_some_iff.mp e
  rw[er];simp
mutual
def tSz(ns:List Int):PT→Int
 | .leaf k=>ns.getD k.toNat 0
 | .node l=>Zap ns l
def Zap(ns:List Int):List PT→Int
 | []=>0
 | t::r=>tSz ns t+Zap ns r
end
mutual
def tCo(ns:List Int):PT→Int
 | .leaf _=>0
 | .node l=>Zaq ns l+Zap ns l
def Zaq(ns:List Int):List PT→Int
 | []=>0
 | t::r=>tCo ns t+Zaq ns r
end
mutual
def tLf:PT→Nat
 | .leaf _=>1
 | .node l=>ZbY l
def ZbY:List PT→Nat
 | []=>0
 | t::r=>tLf t+ZbY r
end
mutual
def tDp:PT→Nat
 | .leaf _=>0
 | .node l=>Zaw l+1
def Zaw:List PT→Nat
 | []=>0
 | t::r=>max (tDp t) (Zaw r)
end
mutual
def tNo:PT→Nat
 | .leaf _=>1
 | .node l=>Z1 l+1
def Z1:List PT→Nat
 | []=>0
 | t::r=>tNo t+Z1 r
end
mutual
def tOk(n:Nat):PT→Prop
 | .leaf k=>0≤k∧k<n
 | .node l=>Zbx n l
def Zbx(n:Nat):List PT→Prop
 | []=>True
 | t::r=>tOk n t∧Zbx n r
end
theorem Zc1(ns:List Int):∀a b:List PT,Zap ns (a++b)=Zap ns a+Zap ns b
 | [],b=>by show Zap ns b=0+Zap ns b;omega
 | t::r,b=>by show tSz ns t+Zap ns (r++b)=tSz ns t+Zap ns r+Zap ns b;rw[Zc1 ns r b];omega
theorem Zde(ns:List Int):∀a b:List PT,Zaq ns (a++b)=Zaq ns a+Zaq ns b
 | [],b=>by show Zaq ns b=0+Zaq ns b;omega
 | t::r,b=>by show tCo ns t+Zaq ns (r++b)=tCo ns t+Zaq ns r+Zaq ns b;rw[Zde ns r b];omega
theorem Za4:∀a b:List PT,Z1 (a++b)=Z1 a+Z1 b
 | [],b=>by show Z1 b=0+Z1 b;omega
 | t::r,b=>by show tNo t+Z1 (r++b)=tNo t+Z1 r+Z1 b;rw[Za4 r b];omega
theorem Zb1:∀a b:List PT,Zaw (a++b)=max (Zaw a) (Zaw b)
 | [],b=>by show Zaw b=max 0 (Zaw b);omega
 | t::r,b=>by show max (tDp t) (Zaw (r++b))=max (max (tDp t) (Zaw r)) (Zaw b);rw[Zb1 r b];omega
theorem ZbX(n:Nat):∀a b:List PT,Zbx n (a++b)↔Zbx n a∧Zbx n b
 | [],b=>by show Zbx n b↔True∧Zbx n b;simp
 | t::r,b=>by show tOk n t∧Zbx n (r++b)↔(tOk n t∧Zbx n r)∧Zbx n b;rw[ZbX n r b,and_assoc]
theorem ZfI(ns:List Int):∀a:List PT,Zap ns a.reverse=Zap ns a
 | []=>rfl
 | t::r=>by rw[Qam,Zc1,ZfI ns r];show Zap ns r+(tSz ns t+0)=tSz ns t+Zap ns r;omega
theorem Zd4:∀a:List PT,Z1 a.reverse=Z1 a
 | []=>rfl
 | t::r=>by rw[Qam,Za4,Zd4 r];show Z1 r+(tNo t+0)=tNo t+Z1 r;omega
theorem ZfW:∀a:List PT,Zaw a.reverse=Zaw a
 | []=>rfl
 | t::r=>by rw[Qam,Zb1,ZfW r];show max (Zaw r) (max (tDp t) 0)=max (tDp t) (Zaw r);omega
theorem Zf0(n:Nat):∀a:List PT,Zbx n a.reverse↔Zbx n a
 | []=>Iff.rfl
 | t::r=>by rw[Qam,ZbX,Zf0 n r];show Zbx n r∧(tOk n t∧True)↔tOk n t∧Zbx n r;rw[and_true,and_comm]
theorem Zhr(n:Nat):∀ (l:List PT) (i:Nat) (t:PT),Zbx n l→l[i]? = some t→tOk n t
 | [],i,t,_,h=>by simp at h
 | a::r,0,t,h,e=>by simp at e;subst e;exact h.1
 | a::r,i+1,t,h,e=>Zhr n r i t h.2 (by simpa using e)
theorem ZhM:∀ (l:List PT) (i:Nat) (t:PT),l[i]? = some t→tDp t≤Zaw l
 | [],i,t,h=>by simp at h
 | a::r,0,t,e=>by simp at e;subst e;show tDp a≤max (tDp a) (Zaw r);omega
 | a::r,i+1,t,e=>by have:=ZhM r i t (by simpa using e);show tDp t≤max (tDp a) (Zaw r);omega
mutual
theorem ZdR:∀t:PT,1≤tNo t
 | .leaf _=>Qd _
 | .node l=>by show 1≤Z1 l+1;omega
theorem Zch:∀l:List PT,l.length≤Z1 l
 | []=>Qd _
 | t::r=>by have:=ZdR t;have:=Zch r;show r.length+1≤tNo t+Z1 r;omega
end
mutual
theorem Zl8:∀t:PT,tLf t≤tNo t
 | .leaf _=>Qd _
 | .node l=>by have:=Zht l;show ZbY l≤Z1 l+1;omega
theorem Zht:∀l:List PT,ZbY l≤Z1 l
 | []=>Qd _
 | t::r=>by have:=Zl8 t;have:=Zht r;show tLf t+ZbY r≤tNo t+Z1 r;omega
end
def tGd(t:PT):Prop:=tDp t+1≤tLf t∧tNo t+1≤2*tLf t
def ZkV:List PT→Prop
 | []=>True
 | t::r=>tGd t∧ZkV r
theorem ZfU:∀l:List PT,ZkV l→Zaw l+l.length≤ZbY l∧Z1 l+l.length≤2*ZbY l∨l=[]
 | [],_=>.inr rfl
 | [t],h=>.inl (by have h1:=h.1.1;have h2:=h.1.2;show max (tDp t) 0+1≤tLf t+0∧tNo t+0+1≤2*(tLf t+0);omega)
 | t::u::r,h=>by
  have ih:=(ZfU (u::r) h.2).resolve_right (by simp)
  have h1:=h.1.1
  have h2:=h.1.2
  left
  show max (tDp t) (Zaw (u::r))+((u::r).length+1)≤tLf t+ZbY (u::r)∧tNo t+Z1 (u::r)+((u::r).length+1)≤2*(tLf t+ZbY (u::r))
  omega
theorem Zjw{l:List PT}(h:ZkV l)(n:2≤l.length):tGd (.node l):=by
 have:=(ZfU l h).resolve_right (by intro e;rw[e]at n;simp at n)
 show Zaw l+1+1≤ZbY l∧Z1 l+1+1≤2*ZbY l
 omega
theorem ZiO{k:Int}(h0:0≤k)(h1:k≤10000000000):(PyData.int k).intsShort 13=true∧(PyData.int k).showable=true∧(PyData.int k).weight≤40:=by
 have hl:k.natAbs<2 ^ 34:=by omega
 have hlog:k.natAbs.log2<34:=by
  by_cases e:k.natAbs=0
  ·rw[e];decide
  ·exact(Nat.log2_lt e).mpr hl
 refine⟨?_,?_,?_⟩
 ·simp only[PyData.intsShort]
  exact decide_eq_true (PyData.shown_int_le (by omega))
 ·simp only[PyData.showable]
  exact decide_eq_true (by omega)
 ·simp only[PyData.weight]
  split<;>omega
mutual
theorem ZfE{n:Nat}(hn:n≤1000):∀t:PT,tOk n t→(toD t).canLay0=true∧(toD t).depth=tDp t∧(toD t).weight+1≤42*tNo t∧(toD t).intsShort 13=true∧(toD t).showable=true
 | .leaf k,h=>by
  obtain⟨h0,h1⟩:=h
  obtain⟨a,b,c⟩:=ZiO h0 (by omega)
  refine⟨by simp[toD,PyData.canLay0],by simp[toD,PyData.depth,tDp],?_,a,b⟩
  show (PyData.int k).weight+1≤42*1
  omega
 | .node l,h=>by
  obtain⟨a,b,c,d,e⟩:=Zdp hn l h
  refine⟨by simpa [toD,PyData.canLay0] using a,by simp[toD,PyData.depth,tDp,b],?_,by simpa [toD,PyData.intsShort] using d,by simpa [toD,PyData.showable] using e⟩
  show PyData.weightAll (Z0 l)+1≤42*(Z1 l+1)
  omega
theorem Zdp{n:Nat}(hn:n≤1000):∀l:List PT,Zbx n l→PyData.canLayAll0 (Z0 l)=true∧PyData.depthAll (Z0 l)=Zaw l∧PyData.weightAll (Z0 l)≤42*Z1 l∧PyData.intsShortAll 13 (Z0 l)=true∧PyData.showableAll (Z0 l)=true
 | [],_=>⟨rfl,rfl,Ql _,rfl,rfl⟩
 | t::r,h=>by
  obtain⟨a,b,c,d,e⟩:=ZfE hn t h.1
  obtain⟨a',b',c',d',e'⟩:=Zdp hn r h.2
  have hp:=ZdR t
  refine⟨by simp[Z0,PyData.canLayAll0,a,a'],by simp[Z0,PyData.depthAll,Zaw,b,b'],?_,by simp[Z0,PyData.intsShortAll,d,d'],by simp[Z0,PyData.showableAll,e,e']⟩
  show (toD t).weight+1+PyData.weightAll (Z0 r)≤42*(tNo t+Z1 r)
  omega
end
mutual
def tLv:PT→List Int
 | .leaf k=>[k]
 | .node l=>ZaC l
def ZaC:List PT→List Int
 | []=>[]
 | t::r=>tLv t++ZaC r
end
mutual
def tPl(w:Nat):PT→Prop
 | .leaf _=>True
 | .node l=>2≤l.length∧l.length≤w∧Zb4 w l
def Zb4(w:Nat):List PT→Prop
 | []=>True
 | t::r=>tPl w t∧Zb4 w r
end
theorem Zd8:∀a b:List PT,ZaC (a++b)=ZaC a++ZaC b
 | [],b=>rfl
 | t::r,b=>by show tLv t++ZaC (r++b)=(tLv t++ZaC r)++ZaC b;rw[Zd8 r b,QG]
theorem Zge(w:Nat):∀a b:List PT,Zb4 w (a++b)↔Zb4 w a∧Zb4 w b
 | [],b=>by show Zb4 w b↔True∧Zb4 w b;simp
 | t::r,b=>by show tPl w t∧Zb4 w (r++b)↔(tPl w t∧Zb4 w r)∧Zb4 w b;rw[Zge w r b,and_assoc]
mutual
theorem ZhC(w:Nat):∀t:PT,tPl w t→1≤(tLv t).length
 | .leaf k,_=>Qd 1
 | .node l,h=>by
  have h1:2≤l.length:=h.1
  have:=Zdh w l h.2.2
  show 1≤(ZaC l).length
  omega
theorem Zdh(w:Nat):∀l:List PT,Zb4 w l→l.length≤(ZaC l).length
 | [],_=>Qd 0
 | t::r,h=>by
  have h1:=ZhC w t h.1
  have h2:=Zdh w r h.2
  show r.length+1≤(tLv t++ZaC r).length
  rw[Qe]
  omega
end
def Zby(b e:Nat):List Int:=(List.range (e-b)).map fun i=>((b+i:Nat):Int)
theorem ZaG(b e:Nat):(Zby b e).length=e-b:=by unfold Zby;simp
theorem Zc0{b e i:Nat}(h:i<e-b):(Zby b e)[i]? = some ((b+i:Nat):Int):=by
 unfold Zby
 rw[Qr,List.getElem?_range h]
 rfl
theorem ZeV{b e k:Nat}(h:b+k≤e):(Zby b e).take k=Zby b (b+k):=by
 refine QaH fun i=>?_
 rw[QaU]
 by_cases hi:i<k
 ·rw[if_pos hi,Zc0 (by omega),Zc0 (by omega)]
 ·rw[if_neg hi,QX (by rw[ZaG];omega)]
theorem Zew{b e k:Nat}(h:b+k≤e):(Zby b e).drop k=Zby (b+k) e:=by
 refine QaH fun i=>?_
 rw[List.getElem?_drop]
 by_cases hi:k+i<e-b
 ·rw[Zc0 hi,Zc0 (by omega),Nat.add_assoc]
 ·rw[QX (by rw[ZaG];omega),QX (by rw[ZaG];omega)]
theorem Zjh{b m e:Nat}(h1:b≤m)(h2:m≤e):Zby b m++Zby m e=Zby b e:=by
 have a:=ZeV (b:=b) (e:=e) (k:=m-b) (by omega)
 have c:=Zew (b:=b) (e:=e) (k:=m-b) (by omega)
 rw[show b+(m-b)=m by omega]at a c
 rw[← a,← c,QI]
def Nf(w b e:Nat)(ts:List PT):Prop:=ZaC ts=Zby b e∧Zb4 w ts
theorem Nf.cut{w b e:Nat}{t:PT}{r:List PT}(h:Nf w b e (t::r))(hr:1≤r.length):∃mid,b<mid∧mid<e∧Nf w b mid [t]∧Nf w mid e r:=by
 obtain⟨h1,h2,h3⟩:=h
 have p1:=ZhC w t h2
 have p2:=Zdh w r h3
 have hl:(tLv t).length+(ZaC r).length=e-b:=by
  have:=congrArg List.length h1
  rw[ZaG]at this
  rw[← this]
  show _=(tLv t++ZaC r).length
  rw[Qe]
 have e1:tLv t++ZaC r=Zby b e:=h1
 refine⟨b+(tLv t).length,by omega,by omega,⟨?_,h2,trivial⟩,⟨?_,h3⟩⟩
 ·rw[← ZeV (b:=b) (e:=e) (by omega),← e1,List.take_left]
  show tLv t++[]=_
  rw[QH]
 ·rw[← Zew (b:=b) (e:=e) (by omega),← e1,List.drop_left]
theorem Nf.app{w b m e:Nat}{a c:List PT}(h1:Nf w b m a)(h2:Nf w m e c)(hb:b≤m)(he:m≤e):Nf w b e (a++c):=by
 refine⟨?_,(Zge w a c).mpr ⟨h1.2,h2.2⟩⟩
 rw[Zd8,h1.1,h2.1,Zjh hb he]
theorem Nf.len{w b e:Nat}{ts:List PT}(h:Nf w b e ts):ts.length≤e-b:=by
 have:=Zdh w ts h.2
 rw[h.1,ZaG]at this
 exact this
mutual
theorem Zmq(ns:List Int):∀t:PT,tSz ns t=((tLv t).map fun k=>ns.getD k.toNat 0).sum
 | .leaf k=>by show _=([ns.getD k.toNat 0]:List Int).sum;simp[tSz]
 | .node l=>Zfr ns l
theorem Zfr(ns:List Int):∀l:List PT,Zap ns l=((ZaC l).map fun k=>ns.getD k.toNat 0).sum
 | []=>rfl
 | t::r=>by show tSz ns t+Zap ns r=((tLv t++ZaC r).map _).sum;rw[Qh,List.sum_append,Zmq ns t,Zfr ns r]
end
def seg(ns:List Int)(b e:Nat):Int:=((ns.drop b).take (e-b)).sum
theorem Zl6{ns:List Int}{b e:Nat}(h:e≤ns.length):((Zby b e).map fun k=>ns.getD k.toNat 0).sum=seg ns b e:=by
 unfold seg
 congr 1
 refine QaH fun i=>?_
 rw[Qr,QaU,List.getElem?_drop]
 by_cases hi:i<e-b
 ·rw[if_pos hi,Zc0 hi,Qc (by omega),Option.map_some,QaF,QT,Qc (by omega)]
  rfl
 ·rw[if_neg hi,QX (by rw[ZaG];omega)]
  rfl
theorem Nf.size{ns:List Int}{w b e:Nat}{ts:List PT}(h:Nf w b e ts)(he:e≤ns.length):Zap ns ts=seg ns b e:=by
 rw[Zfr,h.1,Zl6 he]
mutual
theorem ZmQ{ns:List Int}(hn:∀v∈ns,0≤v):∀t:PT,0≤tSz ns t
 | .leaf k=>by
  show 0≤ns.getD k.toNat 0
  rw[QT]
  cases h:ns[k.toNat]? with
  | none=>exact Qaa 0
  | some v=>exact hn v (QA h)
 | .node l=>Zfo hn l
theorem Zfo{ns:List Int}(hn:∀v∈ns,0≤v):∀l:List PT,0≤Zap ns l
 | []=>Qaa 0
 | t::r=>by
  have h1:=ZmQ hn t
  have h2:=Zfo hn r
  show 0≤tSz ns t+Zap ns r
  omega
end
mutual
theorem ZmM{ns:List Int}(hn:∀v∈ns,0≤v):∀t:PT,0≤tCo ns t
 | .leaf k=>Qaa 0
 | .node l=>by
  have h1:=Ze4 hn l
  have h2:=Zfo hn l
  show 0≤Zaq ns l+Zap ns l
  omega
theorem Ze4{ns:List Int}(hn:∀v∈ns,0≤v):∀l:List PT,0≤Zaq ns l
 | []=>Qaa 0
 | t::r=>by
  have h1:=ZmM hn t
  have h2:=Ze4 hn r
  show 0≤tCo ns t+Zaq ns r
  omega
end
structure Gr (ns:List Int) (w b e m:Nat) (p:Int) (ts:List PT):Prop where
 l1:1≤ts.length
 lm:ts.length≤m
 nf:Nf w b e ts
 co:Zaq ns ts=p
 le:∀us,1≤us.length→us.length≤m→Nf w b e us→p≤Zaq ns us
structure Gc (ns:List Int) (w b e m:Nat) (p:Int) (ts:List PT):Prop where
 l1:2≤ts.length
 lm:ts.length≤m
 nf:Nf w b e ts
 co:Zaq ns ts=p
 le:∀us,2≤us.length→us.length≤m→Nf w b e us→p≤Zaq ns us
theorem Zk1{ns:List Int}(hn:∀v∈ns,0≤v)(w b m:Nat)(h:1≤m):Gr ns w b (b+1) m 0 [.leaf (b:Int)]:=by
 refine⟨Qd 1,h,⟨?_,trivial,trivial⟩,rfl,fun us _ _ _=>Ze4 hn us⟩
 show [(b:Int)]=Zby b (b+1)
 unfold Zby
 rw[show b+1-b=1 by omega]
 rfl
theorem Zmz{ns:List Int}{w b e m mid:Nat}{p1 p2:Int}{t1 t2:List PT}(hm:2≤m)(hb:b<mid)(he:mid<e)(g1:Gr ns w b mid 1 p1 t1)(g2:Gr ns w mid e (m-1) p2 t2)
  (hle:∀k q1 q2 u1 u2,b<k→k<e→Gr ns w b k 1 q1 u1→Gr ns w k e (m-1) q2 u2→p1+p2≤q1+q2) (hex:∀k,b<k→k<e→∃q1 q2 u1 u2,Gr ns w b k 1 q1 u1∧Gr ns w k e (m-1) q2 u2):Gc ns w b e m (p1+p2) (t1++t2):=by
 have a1:=g1.l1
 have a2:=g1.lm
 have a3:=g2.l1
 have a4:=g2.lm
 refine⟨by rw[Qe];omega,by rw[Qe];omega,g1.nf.app g2.nf (by omega) (by omega),by rw[Zde,g1.co,g2.co],fun us h2 hl hu=>?_⟩
 cases us with
 | nil=>simp at h2
 | cons t r =>
  simp only[List.length_cons]at h2 hl
  obtain⟨k,k1,k2,n1,n2⟩:=hu.cut (by omega)
  obtain⟨q1,q2,u1,u2,f1,f2⟩:=hex k k1 k2
  have c1:=f1.le [t] (by simp) (by simp) n1
  have c2:=f2.le r (by omega) (by omega) n2
  have c3:=hle k q1 q2 u1 u2 k1 k2 f1 f2
  have e1:Zaq ns [t]=tCo ns t:=by show tCo ns t+0=_;omega
  show _≤tCo ns t+Zaq ns r
  omega
theorem Zko{ns:List Int}{w b e:Nat}{p:Int}{ts:List PT}(h:Gc ns w b e w p ts)(hbe:b+1<e)(he:e≤ns.length):Gr ns w b e 1 (p+seg ns b e) [.node ts]:=by
 have a1:=h.l1
 have a2:=h.lm
 refine⟨Qd 1,Qd 1,⟨?_,⟨a1,a2,h.nf.2⟩,trivial⟩,?_,fun us h1 h2 hu=>?_⟩
 ·show ZaC ts++[]=_
  rw[QH,h.nf.1]
 ·show Zaq ns ts+Zap ns ts+0=_
  rw[h.co,h.nf.size he]
  omega
 ·cases us with
  | nil=>simp at h1
  | cons t r =>
   have:r=[]:=by simpa using h2
   subst this
   cases t with
   | leaf k =>
    have:=congrArg List.length hu.1
    rw[ZaG]at this
    have:1=e-b:=this
    omega
   | node l =>
    have hp:2≤l.length∧l.length≤w∧Zb4 w l:=hu.2.1
    have hv:ZaC l=Zby b e:=by
     have h9:ZaC l++[]=Zby b e:=hu.1
     rw[QH]at h9
     exact h9
    have hl:Nf w b e l:=⟨hv,hp.2.2⟩
    have:=h.le l hp.1 hp.2.1 hl
    show _≤Zaq ns l+Zap ns l+0
    rw[hl.size he]
    omega
theorem ZkQ{ns:List Int}{w b e m:Nat}{p q:Int}{ts us:List PT}(hm:1≤m)(h:Gr ns w b e 1 p ts)(g:Gc ns w b e m q us):(q<p→Gr ns w b e m q us)∧(¬ q<p→Gr ns w b e m p ts):=by
 have a1:=h.l1
 have a2:=h.lm
 have a3:=g.l1
 have both:∀vs,1≤vs.length→vs.length≤m→Nf w b e vs→(vs.length=1∧p≤Zaq ns vs)∨q≤Zaq ns vs:=fun vs v1 v2 hv=>by
  by_cases h1:vs.length=1
  ·exact .inl ⟨h1,h.le vs (by omega) (by omega) hv⟩
  ·exact .inr (g.le vs (by omega) v2 hv)
 refine⟨fun hl=>⟨by omega,g.lm,g.nf,g.co,fun vs v1 v2 hv=>?_⟩,fun hl=>⟨h.l1,by omega,h.nf,h.co,fun vs v1 v2 hv=>?_⟩⟩
 ·rcases both vs v1 v2 hv with⟨_,z⟩|z<;>omega
 ·rcases both vs v1 v2 hv with⟨_,z⟩|z<;>omega
theorem Zmr{ns:List Int}{w b m:Nat}{p:Int}{ts:List PT}(h:Gr ns w b (b+1) 1 p ts)(hm:1≤m):Gr ns w b (b+1) m p ts:=by
 have a1:=h.l1
 have a2:=h.lm
 refine⟨h.l1,by omega,h.nf,h.co,fun us u1 u2 hu=>h.le us u1 ?_ hu⟩
 have:=hu.len
 omega
theorem ZcR{ns:List Int}{w b e:Nat}{p q:Int}{ts us:List PT}{m:Nat}(h:Gr ns w b e m p ts)(g:Gr ns w b e m q us):p=q:=by
 have a:=h.le us g.l1 g.lm g.nf
 have c:=g.le ts h.l1 h.lm h.nf
 rw[g.co]at a
 rw[h.co]at c
 omega
theorem Zcq{K:PySem.W.Frag}{H:Hp}:∀ns:List Int,DVs K H (ns.map V.int) (ns.map PyData.int)
 | []=>.nil
 | s::r=>.cons (.int s) (Zcq r)
def ZlP:Sp:=fun vs H Q _=>(∃i:Int,vs=[.int i]∧Q (.bl true) H)∨(∃ (a:Addr) (xs:List V),vs=[.ref a]∧H a=some (.tup xs)∧Q (.bl false) H)
theorem Zik(K:PySem.W.Frag):PySem.W.kitOne K (.type "tuple") (.type "int")=some false:=by unfold PySem.W.kitOne PySem.W.kitCls;rfl
theorem ZeO(K:PySem.W.Frag):PySem.W.kitOne K (.type "int") (.type "tuple")=some false:=by unfold PySem.W.kitOne PySem.W.kitCls;rfl
theorem Zmx(T:Zar K mg):Df P w K mg base 1 "is_number" ["thing"] ZlP:=by
 refine T.t_is_number.df Zda (fun vs H Q E h=>?_) (fun cdv f A outer s H vs Q E hr h=>?_)
 ·rcases h with⟨_,rfl,_⟩|⟨_,_,rfl,_⟩<;>rfl
 refine⟨_,#[Zi,#[Zl,#[Zdt,#[Zk,(Zcs K),(by rfl),T.b.n_isinstance,boot_isinstance,#[Za,‹0›,#[Za,#[Za6,T.b.n_int,boot_int,(by rfl)],#[Zc]]]],(@Zej _ _ _ _ _ (@Zhd _ _ _ _ #[Zk,(Zcs K),(by rfl),T.b.n_isinstance,boot_isinstance,#[Za,‹0›,#[Za,#[Za6,T.b.n_bool,boot_bool,(by rfl)],#[Zc]]]]))]]],?_⟩
 rcases h with⟨i,rfl,q⟩|⟨a,xs,rfl,ha,q⟩
 ·exact⟨_,rfl,_, "int",_,_,rfl,.int i,Zif K,_,rfl,ZY ⟨_,rfl,_, "bool",_,_,rfl,.int i,Zf4 K,_,rfl,q⟩⟩
 ·exact⟨_,rfl,_, "int",_,_,rfl,.tup ha,Zik K,_,rfl,ZaB q⟩
theorem Zjr{ns:List Int}{k:Int}(h:0≤k∧k<(ns.length:Nat)):atI (ns.map V.int) k=some (.int (ns.getD k.toNat 0)):=by
 have hk:k.toNat<ns.length:=by omega
 have ek:k=((k.toNat:Nat):Int):=by omega
 have q:atI (ns.map V.int) ((k.toNat:Nat):Int)=some (.int ns[k.toNat]):=Zc2 (by rw[Qr,Qc hk]<;>rfl)
 rw[← ek]at q
 rw[q,QT,Qc hk];rfl
theorem Zgs{f:PT→Int}:∀ (l:List PT) (i:Nat) (t:PT),l[i]? = some t→((l.take (i+1)).map f).sum=((l.take i).map f).sum+f t:=by
 intro l i t h
 rw[Qw,h]
 simp
theorem ZhL(ns:List Int):∀l:List PT,(l.map (tSz ns)).sum=Zap ns l
 | []=>rfl
 | t::r=>by show tSz ns t+(r.map (tSz ns)).sum=_;rw[ZhL ns r];rfl
theorem Zhm(ns:List Int):∀l:List PT,(l.map (tCo ns)).sum=Zaq ns l
 | []=>rfl
 | t::r=>by show tCo ns t+(r.map (tCo ns)).sum=_;rw[Zhm ns r];rfl
theorem ZX{H H':Hp}(s:Zn H H'):∀a xs,H a=some (.tup xs)→H' a=some (.tup xs):=fun a xs h=>s a _ h
def ZjY:Sp:=fun vs H Q _=>∃ (p:Addr) (c:Int),vs=[.ref p]∧Z9 H p c∧c<2 ^ 50∧∀ (v c':Int) (H':Hp),0≤v→v≤12→Z9 H' p c'→c≤c'→c'≤c+3→But p H H'→Q (.int v) H'
theorem Zkl(T:Zar K mg)(f_l_pick:Df P w K mg base 2 "_law_pick" ["_law_left_here", "_law_many_here"] ZcN):Df P w K mg base 3 "_law_many" ["_law_left_here"] ZjY:=by
 refine T.t_l_many.df ZeW (fun vs H Q E h=>?_) (fun cdv f A outer s H vs Q E hr h=>?_)
 ·obtain⟨p,c,rfl,_⟩:=h
  rfl
 obtain⟨p,c,rfl,hL,c1,q⟩:=h
 refine⟨_,#[Zh,#[Zw,1,ZeW.nd,(Or.inl rfl),#[Zs,f_l_pick,hr,#[Za,‹0›,#[Za,#[Ze],#[Zc]]],(by rfl)]],#[Zi,#[Zl,#[ZI,(ixL K),#[ZG,#[Za,#[Ze],#[Za,#[Ze],#[Za,#[Ze],#[Za,#[Ze],#[Za,#[Ze],#[Za,#[Ze],#[Za,#[Zs,f_l_pick,hr,#[Za,‹0›,#[Za,#[Ze],#[Zc]]],(by rfl)],#[Za,#[Zq,ZM,#[Ze],#[Zs,f_l_pick,hr,#[Za,‹0›,#[Za,#[Ze],#[Zc]]],(by rfl)]],#[Zc]]]]]]]]]],‹1›]]]],?_⟩
 have c0:=hL.ge
 refine⟨_,rfl,p,c,_,rfl,hL,by omega,by decide,by decide,fun wy H1 w0 w1 L1 B1=>?_⟩
 refine⟨_,rfl,p,c+1,_,rfl,L1,by omega,by decide,by decide,fun d1 H2 d10 d11 L2 B2=>?_⟩
 refine⟨_,rfl,p,c+1+1,_,rfl,L2,by omega,by decide,by decide,fun d2 H3 d20 d21 L3 B3=>⟨_,_,rfl,rfl,(by show 8≤sizeLine;decide),fun e he=>?_⟩⟩
 obtain⟨v,hv,hat⟩:=Zfu (ns:=[2,3,4,5,6,3,d1,7+d2]) w0 w1
 have hv1:0≤v∧v≤12:=by
  simp only[List.mem_cons,List.not_mem_nil,or_false]at hv
  omega
 exact⟨_,rfl,e,_,_,_,rfl,rfl,SqL.of Zb,hat,q v _ _ hv1.1 hv1.2 (L3.new he) (by omega) (by omega) (((B1.trans B2).trans B3).trans (But.same (Zd he _)))⟩
def Zi5:Sp:=fun vs H Q _=>∃ (p:Addr) (c:Int),vs=[.ref p]∧Z9 H p c∧c<2 ^ 50∧∀ (v:Int) (H':Hp),2≤v→v≤6→Z9 H' p (c+1)→But p H H'→Q (.int v) H'
theorem Zli(T:Zar K mg)(f_l_pick:Df P w K mg base 2 "_law_pick" ["_law_left_here", "_law_many_here"] ZcN):Df P w K mg base 3 "_law_ways" ["_law_left_here"] Zi5:=by
 refine T.t_l_ways.df Zh9 (fun vs H Q E h=>?_) (fun cdv f A outer s H vs Q E hr h=>?_)
 ·obtain⟨p,c,rfl,_⟩:=h
  rfl
 obtain⟨p,c,rfl,hL,c1,q⟩:=h
 refine⟨_,#[Zi,#[Zl,#[ZI,(ixL K),#[ZG,#[Za,#[Ze],#[Za,#[Ze],#[Za,#[Ze],#[Za,#[Ze],#[Za,#[Ze],#[Za,#[Ze],#[Zc]]]]]]]],#[Zs,f_l_pick,hr,#[Za,‹0›,#[Za,#[Ze],#[Zc]]],(by rfl)]]]],?_⟩
 refine⟨(by show 6≤sizeLine;decide),fun e he=>?_⟩
 have npe:p≠e:=by obtain⟨o,ho⟩:=hL.here;exact Zg ho he
 refine⟨_,rfl,p,c,_,rfl,hL.new he,by omega,by decide,by decide,fun wy H1 w0 w1 L1 B1=>?_⟩
 obtain⟨v,hv,hat⟩:=Zfu (ns:=[2,3,2,4,5,6]) w0 w1
 have hv1:2≤v∧v≤6:=by
  simp only[List.mem_cons,List.not_mem_nil,or_false]at hv
  omega
 have he1:H1 e=some (.lst (([2,3,2,4,5,6]:List Int).map V.int)):=B1 e _ Zb npe.symm
 exact⟨e,_,_,_,rfl,rfl,SqL.of he1,hat,q v _ hv1.1 hv1.2 L1 ((But.same (Zd he _)).trans B1)⟩
theorem ZcU{n:Nat}{l:List PT}(hn:n≤1000)(h:Zbx n l)(hd:Zaw l≤30):SeqAt.shaped (.list (Z0 l))=true:=by
 obtain⟨a,b,c,d,e⟩:=Zdp hn l h
 simp[SeqAt.shaped,PyData.canLay0,PyData.depth,a,b]
 omega
theorem Zj6(l:List PT):(if true=true then !PyData.eqv (.list (Z0 l)) (.list []) else PyData.eqv (.list (Z0 l)) (.list [])) = !l.isEmpty:=by
 cases l with
 | nil=>ac_rfl
 | cons t r=>simp[Z0,PyData.eqv,PyData.eqvAll]
theorem Zb3{H:Hp}{b:Addr}{ys:List V}(h:H b=some (.lst ys))(o:HO):∀a xs,H a=some (.tup xs)→(upd H b o) a=some (.tup xs):=fun a xs e=>by
 have nb:a≠b:=by intro z;rw[z,h]at e;cases e
 rw[Zj nb];exact e
def Ze8:Sp:=fun vs H Q _=>∃ (x:V) (t:PT) (ns:List Int) (n:Nat),vs=[x]∧TV H x t∧ns.length=n∧n≤1000∧tOk n t∧tDp t≤30∧tNo t≤200 ∧
 ∀ (r:Addr) (ks:List Int) (H':Hp),H r=none→H' r=some (.lst (ks.map V.int))→(∀k∈ks,0≤k∧k<(n:Nat))→(ks.map fun k=>ns.getD k.toNat 0).sum=tSz ns t→ks=tLv t→ks.length≤200→Zn H H'→Q (.ref r) H'
theorem Zk5(T:Zar K mg):Df P w K mg base 1 "_law_rows_in" ["_law_tree"] Ze8:=by
 refine T.t_l_rows_in.df Zbe (fun vs H Q E h=>?_) (fun cdv f A outer s H vs Q E hr h=>?_)
 ·obtain⟨x,t,ns,n,rfl,_⟩:=h
  rfl
 obtain⟨x,t,ns,n,rfl,hT,hns,hn,hok,hdp,hno,q⟩:=h
 refine⟨_,#[Zh,#[Zw,1,Zbe.nd,(Or.inl rfl),#[ZG,#[Zc]]],#[Zh,#[Zw,2,Zbe.nd,(Or.inl rfl),#[ZG,#[Za,‹0›,#[Zc]]]],#[Zh,(@ZdZ _ _ _ _ _ _ PassesOwn.never #[ZA,(@neD _ K _ hr (by rfl)),‹2›,#[ZG,#[Zc]],(ZF _)] #[Zh,#[Zw,3,Zbe.nd,(Or.inl rfl),(@Zhk _ _ _ _ _ _ _ _ _ QF PySem.F.slot_list_pop PySem.F.type_list_pop ZgM ‹2› (by rfl) (by rfl))],#[Zi,#[ZZ,#[Zaf,#[Zk,(Zcs K),(by rfl),T.b.n_isinstance,boot_isinstance,#[Za,‹3›,#[Za,#[Za6,T.b.n_tuple,boot_tuple,(by rfl)],#[Zc]]]]],#[Zi,#[Zbz,#[ZdL,QF,Qan,Qao,(ZmG K),‹2›,#[Za,(@Ziw _ _ _ _ _ _ _ _ _ _ _ _ (Zn0 K) ‹3› (@ZcB _) (@ZcB _) #[ZaQ,(@ZlZ _ _ _ _ _ _ Zjg #[Ze])]),#[Zc]]]]],#[Zi,#[Zbz,#[ZdL,QF,Qap,Qaq,Zbg,‹1›,#[Za,‹3›,#[Zc]]]]]]]]),#[Zi,#[Zl,‹1›]]]]],?_⟩
 refine⟨(by show 0≤sizeLine;decide),fun f hf=>⟨_,rfl,(by show 1≤sizeLine;decide),fun wa hwa=>?_⟩⟩
 have hwH:H wa=none:=(Zd hf (.lst [])).free hwa
 have nfw:f≠wa:=Zg (H:=upd H f (.lst [])) Zb hwa
 have s0:Zn H (upd (upd H f (.lst [])) wa (.lst [x])):=(Zd hf _).trans (Zd hwa _)
 refine⟨fun m σ H2=>∃ (xs:List V) (l:List PT) (ks:List Int) (v3:Option V),σ=[some x,some (.ref f),some (.ref wa),v3]∧H2 wa=some (.lst xs)∧TVs H2 xs l∧Zbx n l∧Zaw l≤30∧H2 f=some (.lst (ks.map V.int))∧(∀k∈ks,0≤k∧k<(n:Nat))∧(ks.map fun k=>ns.getD k.toNat 0).sum+Zap ns l=tSz ns t∧ks++ZaC l.reverse=tLv t∧ks.length+Z1 l≤200∧Zn H H2∧m=Z1 l,
  ⟨_,[x],[t],[],none,rfl,Zb,.cons (hT.mono (ZX s0)) .nil,⟨hok,trivial⟩,?_,?_,(fun k h=>by cases h),?_,(by show tLv t++[]=tLv t;rw[QH]),?_,s0,rfl⟩,?_⟩
 ·show max (tDp t) 0≤30;omega
 ·rw[Zj nfw];exact Zb
 ·show (0:Int)+(tSz ns t+0)=tSz ns t;omega
 ·show 0+(tNo t+0)≤200;omega
 rintro m σ H2 ⟨xs,l,ks,v3,rfl,hw2,hT2,ok2,dp2,hf2,hks,hsum,hlv,hcnt,s2,rfl⟩
 refine⟨_,rfl,(by show 0≤sizeLine;decide),fun e he=>?_⟩
 have se:=Zd he (.lst [])
 refine⟨.list (Z0 l),.list [],.lst (SqL.of (se _ _ hw2)) (hT2.mono (ZX se)).dv,.lst (SqL.of Zb) .nil,ZcU hn ok2 dp2,(by ac_rfl),_,rfl,?_⟩
 rw[Zj6]
 have hw3:=se _ _ hw2
 have hf3:=se _ _ hf2
 have s3:=s2.trans se
 have hT3:=hT2.mono (ZX se)
 generalize upd H2 e (.lst [])=H3 at hw3 hf3 s3 hT3 ⊢
 cases hl:l.isEmpty with
 | true =>
  have e0:l=[]:=List.isEmpty_iff.mp hl
  subst e0
  refine ZaB ⟨_,rfl,q f ks H3 hf hf3 hks ?_ (by have h9:ks++[]=tLv t:=hlv;rw[QH]at h9;exact h9) ?_ s3⟩
  ·have:(ks.map fun k=>ns.getD k.toNat 0).sum+0=tSz ns t:=hsum
   omega
  ·omega
 | false =>
  have lpos:0<l.length:=by
   cases l with
   | nil=>cases hl
   | cons a r=>simp
  obtain⟨y,u,hy,hu,hTd,el⟩:=hT3.last lpos
  have okd:Zbx n l.dropLast∧tOk n u:=by
   have:=ok2;rw[el,ZbX]at this;exact⟨this.1,this.2.1⟩
  have szd:Zap ns l=Zap ns l.dropLast+tSz ns u:=by
   have:Zap ns (l.dropLast++[u])=_:=Zc1 ns _ _
   rw[← el]at this;rw[this];show _+(tSz ns u+0)=_;omega
  have nod:Z1 l=Z1 l.dropLast+tNo u:=by
   have:Z1 (l.dropLast++[u])=_:=Za4 _ _
   rw[← el]at this;rw[this];show _+(tNo u+0)=_;omega
  have dpd:Zaw l=max (Zaw l.dropLast) (tDp u):=by
   have:Zaw (l.dropLast++[u])=_:=Zb1 _ _
   rw[← el]at this;rw[this];show max _ (max (tDp u) 0)=_;omega
  have hup:=ZdR u
  have lvd:ZaC l.reverse=tLv u++ZaC l.dropLast.reverse:=by
   have e9:l.reverse=u::l.dropLast.reverse:=by conv=>lhs;rw[el];simp
   rw[e9];rfl
  refine ZY ⟨_,fun σ' H' h=>h,?_⟩
  refine⟨_,rfl,.inl ⟨rfl,_,SqL.of hw3⟩,wa,xs,y,rfl,rfl,hw3,hy,?_⟩
  have hw4:(upd H3 wa (.lst xs.dropLast)) wa=some (.lst xs.dropLast):=Zb
  have hf4:(upd H3 wa (.lst xs.dropLast)) f=some (.lst (ks.map V.int)):=by rw[Zj nfw];exact hf3
  have s4:Zn H (upd H3 wa (.lst xs.dropLast)):=fun b o h=>by rw[Zj (Zg h hwH)];exact s3 b o h
  have hTd4:=hTd.mono (Zb3 hw3 (.lst xs.dropLast))
  have hu4:=hu.mono (Zb3 hw3 (.lst xs.dropLast))
  generalize upd H3 wa (.lst xs.dropLast)=H4 at hw4 hf4 s4 hTd4 hu4 ⊢
  cases hu4 with
  | leaf k =>
   refine⟨_,rfl,_, "tuple",_,_,rfl,.int k,ZeO K,_,rfl,ZaB ?_⟩
   refine⟨_,rfl,.inl ⟨rfl,_,SqL.of hf4⟩,_,rfl,f,_,_,rfl,rfl,hf4,(by rw[Qb];exact ZB (by omega)),_,?_,xs.dropLast,l.dropLast,ks++[k],_,rfl,?_,?_,okd.1,by omega,?_,?_,?_,(by rw[← hlv,lvd,QG];rfl),?_,?_,rfl⟩
   ·have:tNo (.leaf k)=1:=rfl
    omega
   ·rw[Zj nfw.symm];exact hw4
   ·exact hTd4.mono (Zb3 hf4 _)
   ·rw[Zb,Qh];rfl
   ·intro z hz
    rcases Qt.mp hz with hz|hz
    ·exact hks z hz
    ·rw[Qg.mp hz];exact okd.2
   ·rw[Qh,List.sum_append]
    have:tSz ns (.leaf k)=ns.getD k.toNat 0:=rfl
    simp only[List.map_cons,List.map_nil,List.sum_cons,List.sum_nil]
    omega
   ·have:tNo (.leaf k)=1:=rfl
    rw[Qe,Qy];omega
   ·intro b o h
    rw[Zj (Zg h hf)];exact s4 b o h
  | node ha hs =>
   rename_i a' ys l'
   have hno':tNo (.node l')=Z1 l'+1:=rfl
   have hdp':tDp (.node l')=Zaw l'+1:=rfl
   have hsz':tSz ns (.node l')=Zap ns l':=rfl
   refine⟨_,rfl,_, "tuple",_,_,rfl,.tup ha,Zey K,_,rfl,ZY ?_⟩
   refine⟨_,rfl,.inl ⟨rfl,_,SqL.of hw4⟩,_,rfl,_,rfl,_,rfl,_,rfl,a',ys,rfl,SqT.of ha,rfl,rfl,rfl,fun tp htp=>?_⟩
   have hw5:=Zd htp (.tup ys.reverse) _ _ hw4
   have st:=Zd htp (.tup ys.reverse)
   have l1:=hTd4.len
   have l2:=hs.len
   have l3:=Zch l.dropLast
   have l4:=Zch l'
   refine⟨wa,tp,_,_,rfl,rfl,hw5,Zb,(ZlC (by rw[List.length_reverse];omega)),_,?_,xs.dropLast++ys.reverse,l.dropLast++l'.reverse,ks,_,rfl,Zb,?_,?_,?_,?_,hks,?_,(by rw[Qas,List.reverse_reverse,Zd8,← hlv,lvd];rfl),?_,?_,rfl⟩
   ·rw[Za4,Zd4];omega
   ·exact((hTd4.mono (ZX st)).app (hs.rev.mono (ZX st))).mono (Zb3 hw5 _)
   ·rw[ZbX,Zf0];exact okd
   ·rw[Zb1,ZfW];omega
   ·rw[Zj nfw];exact st _ _ hf4
   ·rw[Zc1,ZfI];omega
   ·rw[Za4,Zd4];omega
   ·intro b o h
    rw[Zj (Zg h hwH)];exact st _ _ (s4 b o h)
def ZgJ(K:PySem.W.Frag):Sp:=fun vs H Q _=>∃ (a:Addr) (ns:List Int) (x:V) (t:PT),vs=[.ref a,x]∧SqL K H a (ns.map V.int)∧ns.length≤100∧(∀v∈ns,0≤v∧v≤10000000000)∧TV H x t∧tOk ns.length t∧tDp t≤30∧tNo t≤200∧∀H',Zn H H'→Q (.int (tCo ns t)) H'
theorem ZkG(T:Zar K mg)(f_l_rows_in:Df P w K mg base 1 "_law_rows_in" ["_law_tree"] Ze8):Df P w K mg base 2 "_law_cost" ["_law_sizes_here", "_law_tree"] (ZgJ K):=by
 refine T.t_l_cost.df ZbN (fun vs H Q E h=>?_) (fun cdv f A outer s H vs Q E hr h=>?_)
 ·obtain⟨a,ns,x,t,rfl,_⟩:=h
  rfl
 obtain⟨a,ns,x,t,rfl,hS,hn,hbd,hT,hok,hdp,hno,q⟩:=h
 refine⟨_,#[Zh,#[Zw,2,ZbN.nd,(Or.inl rfl),#[Ze]],#[Zh,#[Zw,3,ZbN.nd,(Or.inl rfl),#[ZG,#[Za,‹1›,#[Zc]]]],#[Zh,(@ZdZ _ _ _ _ _ _ PassesOwn.never #[ZA,(@neD _ K _ hr (by rfl)),‹3›,#[ZG,#[Zc]],(ZF _)] #[Zh,#[Zw,4,ZbN.nd,(Or.inl rfl),(@Zhk _ _ _ _ _ _ _ _ _ QF PySem.F.slot_list_pop PySem.F.type_list_pop ZgM ‹3› (by rfl) (by rfl))],#[Zi,#[ZZ,#[Zaf,#[Zk,(Zcs K),(by rfl),T.b.n_isinstance,boot_isinstance,#[Za,‹4›,#[Za,#[Za6,T.b.n_tuple,boot_tuple,(by rfl)],#[Zc]]]]],#[Zh,#[Zw,2,ZbN.nd,(Or.inl rfl),#[Zq,ZM,‹2›,#[Zk,(Zkm K),(by rfl),T.b.n_sum,boot_sum,#[Za,#[ZaU,Zk7,#[iL,K,#[Zs,f_l_rows_in,hr,#[Za,‹4›,#[Zc]],(by rfl)]],(fun _ _ _ _=>#[cg,5,Zk7]),(fun _ _ _ _=>(@ZaI _)),(fun _ _ _ _=>#[ZI,(ixL K),#[cv,0,Zk7],#[cw,5,Zk7]])],#[Zc]]]]],#[Zi,#[Zbz,#[ZdL,QF,Qan,Qao,(ZmG K),‹3›,#[Za,‹4›,#[Zc]]]]]],#[ZD]]]]),#[Zi,#[Zl,‹2›]]]]],?_⟩
 refine⟨_,rfl,(by show 1≤sizeLine;decide),fun wa hwa=>?_⟩
 have s0:Zn H (upd H wa (.lst [x])):=Zd hwa _
 refine⟨fun m σ H2=>∃ (xs:List V) (l:List PT) (tot:Int) (v4:Option V),σ=[some (.ref a),some x,some (.int tot),some (.ref wa),v4]∧H2 wa=some (.lst xs)∧TVs H2 xs l∧Zbx ns.length l∧Zaw l≤30∧tot+Zaq ns l=tCo ns t∧Z1 l≤200∧Zn H H2∧m=Z1 l,
  ⟨_,[x],[t],0,none,rfl,Zb,.cons (hT.mono (ZX s0)) .nil,⟨hok,trivial⟩,?_,?_,?_,s0,rfl⟩,?_⟩
 ·show max (tDp t) 0≤30;omega
 ·show (0:Int)+(tCo ns t+0)=tCo ns t;omega
 ·show tNo t+0≤200;omega
 rintro m σ H2 ⟨xs,l,tot,v4,rfl,hw2,hT2,ok2,dp2,hsum,hcnt,s2,rfl⟩
 refine⟨_,rfl,(by show 0≤sizeLine;decide),fun e he=>?_⟩
 have se:=Zd he (.lst [])
 refine⟨.list (Z0 l),.list [],.lst (SqL.of (se _ _ hw2)) (hT2.mono (ZX se)).dv,.lst (SqL.of Zb) .nil,ZcU (by omega) ok2 dp2,(by ac_rfl),_,rfl,?_⟩
 rw[Zj6]
 have hw3:=se _ _ hw2
 have s3:=s2.trans se
 have hT3:=hT2.mono (ZX se)
 generalize upd H2 e (.lst [])=H3 at hw3 s3 hT3 ⊢
 cases hl:l.isEmpty with
 | true =>
  have e0:l=[]:=List.isEmpty_iff.mp hl
  subst e0
  have e1:tot=tCo ns t:=by have:tot+0=tCo ns t:=hsum;omega
  subst e1
  exact ZaB ⟨_,rfl,q H3 s3⟩
 | false =>
  have lpos:0<l.length:=by
   cases l with
   | nil=>cases hl
   | cons a r=>simp
  obtain⟨y,u,hy,hu,hTd,el⟩:=hT3.last lpos
  have okd:Zbx ns.length l.dropLast∧tOk ns.length u:=by
   have:=ok2;rw[el,ZbX]at this;exact⟨this.1,this.2.1⟩
  have cod:Zaq ns l=Zaq ns l.dropLast+tCo ns u:=by
   have:Zaq ns (l.dropLast++[u])=_:=Zde ns _ _
   rw[← el]at this;rw[this];show _+(tCo ns u+0)=_;omega
  have nod:Z1 l=Z1 l.dropLast+tNo u:=by
   have:Z1 (l.dropLast++[u])=_:=Za4 _ _
   rw[← el]at this;rw[this];show _+(tNo u+0)=_;omega
  have dpd:Zaw l=max (Zaw l.dropLast) (tDp u):=by
   have:Zaw (l.dropLast++[u])=_:=Zb1 _ _
   rw[← el]at this;rw[this];show max _ (max (tDp u) 0)=_;omega
  have hup:=ZdR u
  refine ZY ⟨_,fun σ' H' h=>h,?_⟩
  refine⟨_,rfl,.inl ⟨rfl,_,SqL.of hw3⟩,wa,xs,y,rfl,rfl,hw3,hy,?_⟩
  have hw4:(upd H3 wa (.lst xs.dropLast)) wa=some (.lst xs.dropLast):=Zb
  have s4:Zn H (upd H3 wa (.lst xs.dropLast)):=fun b o h=>by rw[Zj (Zg h hwa)];exact s3 b o h
  have hTd4:=hTd.mono (Zb3 hw3 (.lst xs.dropLast))
  have hu4:=hu.mono (Zb3 hw3 (.lst xs.dropLast))
  generalize upd H3 wa (.lst xs.dropLast)=H4 at hw4 s4 hTd4 hu4 ⊢
  have hu4':=id hu4
  cases hu4 with
  | leaf k =>
   refine⟨_,rfl,_, "tuple",_,_,rfl,.int k,ZeO K,_,rfl,ZaB ?_⟩
   have e1:tNo (.leaf k)=1:=rfl
   have e2:tCo ns (.leaf k)=0:=rfl
   exact⟨_,by show Z1 l.dropLast<Z1 l;omega,xs.dropLast,l.dropLast,tot,_,rfl,hw4,hTd4,okd.1,by omega,by omega,by omega,s4,rfl⟩
  | node ha hs =>
   rename_i a' ys l'
   have hno':tNo (.node l')=Z1 l'+1:=rfl
   have hdp':tDp (.node l')=Zaw l'+1:=rfl
   have hco':tCo ns (.node l')=Zaq ns l'+Zap ns l':=rfl
   have hsz':tSz ns (.node l')=Zap ns l':=rfl
   refine⟨_,rfl,_, "tuple",_,_,rfl,.tup ha,Zey K,_,rfl,ZY ?_⟩
   refine⟨_,rfl,_,rfl,.ref a',.node l',ns,ns.length,rfl,hu4',rfl,by omega,okd.2,by omega,by omega,fun r ks H5 hr0 hr5 hks hsumr _ hkl s5=>⟨r,rfl,⟨_,SqL.of hr5⟩,fun D hD=>?_⟩⟩
   have hS5:=(s4.trans s5).seq hS
   refine ZcA (K:=K) (a:=r) (xs:=ks.map V.int) (fun i zs σ H6=>(∃v:Option V,σ=[some (.ref a),some x,some (.int tot),some (.ref wa),some (.ref a'),v])∧zs=((ks.take i).map fun k=>ns.getD k.toNat 0).map V.int∧i≤ks.length∧H6 D=some (.lst zs)∧Zn H5 H6) ?_ (fun _ _ _ _ h=>SqL.of (h.2.2.2.2 _ _ hr5)) ?_ ?_
   ·exact⟨⟨none,rfl⟩,rfl,Ql _,Zb,Zd hD _⟩
   ·rintro i z zs σ H6 hz ⟨⟨v,rfl⟩,rfl,hi,hD6,s6⟩
    rw[Qr]at hz
    cases hk:ks[i]? with
    | none=>rw[hk]at hz;cases hz
    | some k =>
     rw[hk]at hz
     cases hz
     have hil:i<ks.length:=(Qn.mp hk).1
     refine⟨_,rfl,_,rfl,a,_,_,_,rfl,rfl,s6.seq hS5,Zjr (hks k (QA hk)),hD6,(by rw[Qb,Qb,Qu];exact ZB (by omega)),⟨_,rfl⟩,?_,hil,Zb,fun b o h=>?_⟩
     ·rw[Qw,hk];simp
     ·rw[Zj (Zg h hD)];exact s6 b o h
   ·rintro zs σ H6 ⟨⟨v,rfl⟩,rfl,hi,hD6,s6⟩
    rw[Qb,Qq (Qd _)]at hD6
    refine⟨D,ks.map fun k=>ns.getD k.toNat 0,rfl,SqL.of hD6,by rw[Qb];omega,fun v hv=>?_,_,_,rfl,rfl,?_⟩
    ·obtain⟨k,hk,rfl⟩:=QC.mp hv
     have hk2:=hks k hk
     have hkn:k.toNat<ns.length:=by omega
     rw[QT,Qc hkn]
     have h9:=hbd _ (QW hkn);exact⟨h9.1,Int.le_trans h9.2 (by decide)⟩
    rw[hsumr]
    have s46:=s5.trans s6
    have hw6:=s46 _ _ hw4
    have l1:=hTd4.len
    have l2:=hs.len
    have l3:=Zch l.dropLast
    have l4:=Zch l'
    refine⟨_,rfl,.inl ⟨rfl,_,SqL.of hw6⟩,_,rfl,wa,a',_,_,rfl,rfl,hw6,s46 _ _ ha,(ZlC (by omega)),_,?_,xs.dropLast++ys,l.dropLast++l',tot+tSz ns (.node l'),_,rfl,Zb,?_,?_,?_,?_,?_,?_,rfl⟩
    ·show Z1 (l.dropLast++l')<Z1 l
     rw[Za4];omega
    ·exact((hTd4.app hs).mono (ZX s46)).mono (Zb3 hw6 _)
    ·rw[ZbX];exact okd
    ·rw[Zb1];omega
    ·rw[Zde];omega
    ·rw[Za4];omega
    ·intro b o h
     rw[Zj (Zg h hwa)];exact s46 _ _ (s4 b o h)
def Znd(K:PySem.W.Frag)(n:Nat):Sp:=fun vs H Q _=>∃ (a:Addr) (ns:List Int) (x:V) (t:PT),vs=[.ref a,x]∧SqL K H a (ns.map V.int)∧TV H x t∧tOk ns.length t∧tDp t<n ∧
 ∀ (r:Addr) (H':Hp),H' r=some (.tup [.int (tSz ns t),.int (tCo ns t)])→Zn H H'→Q (.ref r) H'
theorem ZlR(T:Zar K mg)(f_is_number:Df P w K mg base 1 "is_number" ["thing"] ZlP):∀n:Nat,Df P w K mg base (n+1) "size_and_cost" ["sizes", "tree"] (Znd K n)
 | 0=>by
  refine T.t_size_and_cost.df ZE (fun vs H Q E h=>?_) (fun cdv f A outer s H vs Q E hr h=>?_)
  ·obtain⟨a,ns,x,t,rfl,_⟩:=h
   rfl
  obtain⟨a,ns,x,t,rfl,hS,hT,hok,hdp,q⟩:=h
  exact absurd hdp (by omega)
 | n+1=>by
  have f_size_and_cost:=ZlR T f_is_number n
  refine T.t_size_and_cost.df ZE (fun vs H Q E h=>?_) (fun cdv f A outer s H vs Q E hr h=>?_)
  ·obtain⟨a,ns,x,t,rfl,_⟩:=h
   rfl
  obtain⟨a,ns,x,t,rfl,hS,hT,hok,hdp,q⟩:=h
  refine⟨_,#[Zh,#[ZZ,#[Zaf,#[Zs,f_is_number,hr,#[Za,‹1›,#[Zc]],(by rfl)]],#[Zi,#[Zl,#[Zv,#[Za,#[ZI,(ixL K),‹0›,‹1›],#[Za,#[Ze],#[Zc]]]]]],#[ZD]],#[Zh,#[Zw,2,ZE.nd,(Or.inl rfl),#[Ze]],#[Zh,#[Zw,3,ZE.nd,(Or.inl rfl),#[Ze]],#[Zh,#[Zao,PassesOwn.never,(@iT _ K _ _ _ ‹1› (by rfl)),#[Zx,4,ZE.nd,(Or.inl rfl)],#[Zh,#[Zcf,#[Zs,f_size_and_cost,hr,#[Za,‹0›,#[Za,‹4›,#[Zc]]],(by rfl)],#[gT,K,2,#[Zz,#[Zx,5,ZE.nd,(Or.inl rfl)],#[Zz,#[Zx,6,ZE.nd,(Or.inl rfl)],(@ZaH _)]]]],#[Zh,(@Zjc _ _ 2 _ _ _ _ _ _ ZE.nd rfl (Or.inl rfl) ‹5› ZjS (by trivial)),#[Zi,(@Zjc _ _ 3 _ _ _ _ _ _ ZE.nd rfl (Or.inl rfl) ‹6› ZjS (by trivial))]]]],#[Zi,#[Zl,#[Zv,#[Za,‹2›,#[Za,#[Zq,ZM,‹3›,‹2›],#[Zc]]]]]]]]]],?_⟩
  cases hT with
  | leaf k =>
   refine⟨_,rfl,.inl ⟨k,rfl,_,rfl,ZY ⟨_,rfl,_,rfl,a,_,_,_,rfl,rfl,hS,Zjr hok,(by show 2≤sizeLine;decide),fun r hr0=>?_⟩⟩⟩
   exact q r _ Zb (Zd hr0 _)
  | node h hs =>
   rename_i b xs l
   refine⟨_,rfl,.inr ⟨b,xs,rfl,h,_,rfl,ZaB ?_⟩⟩
   refine⟨_,rfl,b,rfl,⟨_,SqT.of h⟩,?_⟩
   refine Ze0 (K:=K) (a:=b) (xs:=xs) (fun i σ H2=>∃v4 v5 v6:Option V,σ=[some (.ref a),some (.ref b),some (.int ((l.take i).map (tSz ns)).sum),some (.int ((l.take i).map (tCo ns)).sum),v4,v5,v6]∧Zn H H2) ⟨_,_,_,rfl,Zn.refl _⟩ (fun _ _ _ _ ⟨_,_,_,_,s2⟩=>SqT.of (s2 _ _ h)) ?_ ?_
   ·rintro i x σ H2 hx ⟨v4,v5,v6,rfl,s2⟩
    obtain⟨t,ht,hv⟩:=hs.at hx
    have hd':Zaw l+1<n+1:=hdp
    have hd2:=ZhM l i t ht
    refine⟨_,rfl,_,rfl,a,ns,x,t,rfl,s2.seq hS,hv.mono (ZX s2),Zhr _ l i t hok ht,by omega,fun r H3 hr3 s3=>?_⟩
    refine⟨r,_,rfl,SqT.of hr3,rfl,_,_,rfl,_,_,rfl,rfl,?_⟩
    refine⟨_,rfl,_,rfl,_,_,rfl,rfl,_,rfl,_,rfl,_,_,rfl,rfl,some x,some (.int (tSz ns t)),some (.int (tCo ns t)),by rw[Zgs l i t ht,Zgs l i t ht];rfl,s2.trans s3⟩
   ·rintro σ H2 ⟨v4,v5,v6,rfl,s2⟩
    rw[hs.len,Qq (Qd _),ZhL,Zhm]
    refine⟨_,rfl,_,rfl,_,rfl,_,_,rfl,rfl,(by show 2≤sizeLine;decide),fun r hr0=>?_⟩
    exact q r _ Zb (s2.trans (Zd hr0 _))
def Zgv(K:PySem.W.Frag)(n:Nat):Sp:=fun vs H Q _=>∃ (a:Addr) (ns:List Int) (x:V) (t:PT),vs=[.ref a,x]∧SqL K H a (ns.map V.int)∧TV H x t∧tOk ns.length t∧tDp t<n∧∀H',Zn H H'→Q (.int (tCo ns t)) H'
theorem Zh4(T:Zar K mg)(f_size_and_cost:Df P w K mg base 14 "size_and_cost" ["sizes", "tree"] (Znd K 13)):Df P w K mg base 15 "cost_of" ["sizes", "tree"] (Zgv K 13):=by
 refine T.t_cost_of.df ZgN (fun vs H Q E h=>?_) (fun cdv f A outer s H vs Q E hr h=>?_)
 ·obtain⟨a,ns,x,t,rfl,_⟩:=h
  rfl
 obtain⟨a,ns,x,t,rfl,hS,hT,hok,hdp,q⟩:=h
 refine⟨_,#[Zi,#[Zl,#[ZI,(ixT K),#[Zs,f_size_and_cost,hr,#[Za,‹0›,#[Za,‹1›,#[Zc]]],(by rfl)],#[Ze]]]],?_⟩
 refine⟨_,rfl,_,rfl,a,ns,x,t,rfl,hS,hT,hok,hdp,fun r H' hr' s'=>⟨r,_,_,_,rfl,rfl,SqT.of hr',rfl,q _ s'⟩⟩
def Zhs:Sp:=fun vs H Q _=>∃ (p:Addr) (c mo:Int),vs=[.ref p,.int mo]∧1≤mo∧mo≤12∧Z9 H p c∧c<2 ^ 40 ∧
 ∀ (r:Addr) (ns:List Int) (c':Int) (H':Hp),H r=none→H' r=some (.lst (ns.map V.int))→1≤ns.length→ns.length≤12→(∀v∈ns,0≤v∧v≤1000000000)→Z9 H' p c'→c≤c'→c'≤c+100→But p H H'→Q (.ref r) H'
theorem Zkd(T:Zar K mg)(f_l_pick:Df P w K mg base 2 "_law_pick" ["_law_left_here", "_law_many_here"] ZcN)(f_l_many:Df P w K mg base 3 "_law_many" ["_law_left_here"] ZjY):Df P w K mg base 4 "_law_sizes" ["_law_left_here", "_law_most"] Zhs:=by
 refine T.t_l_sizes.df ZaZ (fun vs H Q E h=>?_) (fun cdv f A outer s H vs Q E hr h=>?_)
 ·obtain⟨p,c,mo,rfl,_⟩:=h
  rfl
 obtain⟨p,c,mo,rfl,mo1,mo2,hL,c1,q⟩:=h
 refine⟨_,#[Zh,#[Zw,2,ZaZ.nd,(Or.inl rfl),#[Zk,(Zid rfl),(by rfl),T.b.n_max,boot_max,#[Za,#[Ze],#[Za,#[Zk,(Zez rfl),(by rfl),T.b.n_min,boot_min,#[Za,‹1›,#[Za,#[Zs,f_l_many,hr,#[Za,‹0›,#[Zc]],(by rfl)],#[Zc]]]],#[Zc]]]]],#[Zh,#[Zw,3,ZaZ.nd,(Or.inl rfl),#[Zs,f_l_pick,hr,#[Za,‹0›,#[Za,#[Ze],#[Zc]]],(by rfl)]],#[Zh,#[Zw,4,ZaZ.nd,(Or.inl rfl),#[ZG,#[Zc]]],#[Zh,#[Zao,PassesOwn.never,#[Zav,T.b.n_range,#[Za,‹2›,#[Zc]]],#[Zx,5,ZaZ.nd,(Or.inl rfl)],#[Zh,#[Zw,6,ZaZ.nd,(Or.inl rfl),#[ZG,#[Za,#[Zs,f_l_pick,hr,#[Za,‹0›,#[Za,#[Ze],#[Zc]]],(by rfl)],#[Za,#[Zq,Zcr,#[Zs,f_l_pick,hr,#[Za,‹0›,#[Za,#[Ze],#[Zc]]],(by rfl)],#[Zs,f_l_pick,hr,#[Za,‹0›,#[Za,#[Ze],#[Zc]]],(by rfl)]],#[Za,#[Ze],#[Za,#[Zq,ZM,#[Ze],#[Zq,Zcr,‹5›,‹5›]],#[Zc]]]]]]],#[Zi,#[Zbz,#[ZdL,QF,Qap,Qaq,Zbg,‹4›,#[Za,#[ZI,(ixL K),#[Zq,Zdq,‹6›,#[ZG,#[Za,#[Zq,ZbL,#[Zq,ZgA,#[Ze],#[Ze]],#[Zs,f_l_pick,hr,#[Za,‹0›,#[Za,#[Ze],#[Zc]]],(by rfl)]],#[Za,#[Zs,f_l_pick,hr,#[Za,‹0›,#[Za,#[Zq,ZM,#[Zq,ZgA,#[Ze],#[Ze]],#[Ze]],#[Zc]]],(by rfl)],#[Zc]]]]],‹3›],#[Zc]]]]]]],#[Zi,#[Zl,‹4›]]]]]],?_⟩
 have c0:=hL.ge
 refine⟨_,rfl,_,rfl,p,c,rfl,hL,by omega,fun mv c' H1 m0 m1 L1 a1 a2 B1=>⟨_,_,rfl,_,_,rfl,?_⟩⟩
 obtain⟨many,hmany,hm0,hm1⟩:∃many:Int,(if (if mv<mo then mv else mo)>1 then (if mv<mo then mv else mo) else 1)=many∧1≤many∧many≤12:=⟨_,rfl,by split<;>split at *<;>omega,by split<;>split at *<;>omega⟩
 simp only[hmany]
 refine⟨_,rfl,p,c',_,rfl,L1,by omega,by decide,by decide,fun wy H2 w0 w1 L2 B2=>⟨(by show 0≤sizeLine;decide),fun r hr0=>?_⟩⟩
 have npr:p≠r:=by obtain⟨o,ho⟩:=L2.here;exact Zg ho hr0
 have B02:=B1.trans B2
 have hrn:H r=none:=Zk4 B02 npr hr0
 refine⟨_,rfl,_,rfl,by omega,by omega,?_⟩
 refine Zam (fun i σ H3=>∃ (ns:List Int) (v5 v6:Option V) (c3:Int),σ=[some (.ref p),some (.int mo),some (.int many),some (.int wy),some (.ref r),v5,v6]∧H3 r=some (.lst (ns.map V.int))∧ns.length=i∧(∀v∈ns,0≤v∧v≤1000000000)∧Z9 H3 p c3∧c'+1≤c3∧c3≤c'+1+5*i∧(∀b o,H b=some o→b≠p→H3 b=some o))
  ⟨[],none,none,c'+1,rfl,Zb,rfl,(fun v hv=>by cases hv),L2.new hr0,by omega,by omega,fun b o h n=>Zd hr0 _ _ _ (B02 b o h n)⟩ ?_ ?_
 ·rintro i σ H3 hi ⟨ns,v5,v6,c3,rfl,hr3,hn,hb,L3,b1,b2,B3⟩
  have hi12:(i:Int)<12:=by omega
  have ei:(0+(i:Int))=(i:Int):=by omega
  have hii:(0+(i:Int))*(0+(i:Int))≤144:=by rw[ei];exact Int.le_trans (Int.mul_le_mul (show (i:Int)≤12 by omega) (show (i:Int)≤12 by omega) (by omega) (by omega)) (by decide)
  have hi0:0≤(0+(i:Int))*(0+(i:Int)):=by rw[ei];exact Int.mul_nonneg (by omega) (by omega)
  refine⟨_,rfl,p,c3,_,rfl,L3,by omega,by decide,by decide,fun d1 H4 d10 d11 L4 B4=>?_⟩
  refine⟨_,rfl,p,c3+1,_,rfl,L4,by omega,by decide,by decide,fun d2 H5 d20 d21 L5 B5=>?_⟩
  refine⟨_,rfl,p,c3+1+1,_,rfl,L5,by omega,by decide,by decide,fun d3 H6 d30 d31 L6 B6=>⟨_,_,rfl,rfl,.inl ⟨by omega,by omega⟩,?_⟩⟩
  have h23a:0≤d2*d3:=Int.mul_nonneg d20 d30
  have h23b:d2*d3≤2*100:=Int.mul_le_mul (by omega) (by omega) d30 (by omega)
  refine⟨_,rfl,_,rfl,_,_,rfl,rfl,.inl ⟨by omega,by omega⟩,_,_,rfl,rfl,(by show 4≤sizeLine;decide),fun e he=>?_⟩
  have B36:=(B4.trans B5).trans B6
  have hr6:=B36 r _ hr3 npr.symm
  have nre:r≠e:=Zg hr6 he
  have npe:p≠e:=by obtain⟨o,ho⟩:=L6.here;exact Zg ho he
  have hr7:(upd H6 e (.lst (([d1,d2*d3,5,1+(0+(i:Int))*(0+(i:Int))]:List Int).map V.int))) r=some (.lst (ns.map V.int)):=by rw[Zj nre];exact hr6
  have he7:(upd H6 e (.lst (([d1,d2*d3,5,1+(0+(i:Int))*(0+(i:Int))]:List Int).map V.int))) e=some (.lst (([d1,d2*d3,5,1+(0+(i:Int))*(0+(i:Int))]:List Int).map V.int)):=Zb
  have L7:Z9 (upd H6 e (.lst (([d1,d2*d3,5,1+(0+(i:Int))*(0+(i:Int))]:List Int).map V.int))) p (c3+1+1+1):=L6.new he
  have B37:But p H3 (upd H6 e (.lst (([d1,d2*d3,5,1+(0+(i:Int))*(0+(i:Int))]:List Int).map V.int))):=B36.trans (But.same (Zd he _))
  change ∃_,_
  have pw:ZmL 10 9:=⟨by decide,by decide,by decide⟩
  refine⟨_,rfl,.inl ⟨rfl,_,SqL.of hr7⟩,_,rfl,_,_,rfl,rfl,pw,_,rfl,p,c3+1+1+1,_,rfl,L7,by omega,by decide,by decide,fun d4 H8 d40 d41 L8 B8=>⟨_,_,rfl,rfl,?_⟩⟩
  refine⟨_,rfl,_,_,rfl,rfl,pw,_,_,rfl,rfl,p,c3+1+1+1+1,_,rfl,L8,by omega,by decide,by decide,fun d5 H9 d50 d51 L9 B9=>⟨(by show 2≤sizeLine;decide),fun g hg=>?_⟩⟩
  have d51':d5<1000000001:=d51
  have he9:=B9 e _ (B8 e _ he7 npe.symm) npe.symm
  have hr9:=B9 r _ (B8 r _ hr7 npr.symm) npr.symm
  have neg:e≠g:=Zg he9 hg
  refine⟨e,g,_,_,rfl,rfl,(by rw[Zj neg];exact he9),Zb,(by show 6≤sizeLine;decide),fun z hz=>?_⟩
  obtain⟨v,hv,hat⟩:=Zfu (ns:=[d1,d2*d3,5,1+(0+(i:Int))*(0+(i:Int)),10 ^ 9-d4,d5]) w0 w1
  have hv1:0≤v∧v≤1000000000:=by
   simp only[List.mem_cons,List.not_mem_nil,or_false]at hv
   omega
  have sg:Zn H9 (upd H9 g (.lst [.int (10 ^ 9-d4),.int d5])):=Zd hg _
  have hrz:(upd (upd H9 g (.lst [.int (10 ^ 9-d4),.int d5])) z (.lst (([d1,d2*d3,5,1+(0+(i:Int))*(0+(i:Int)),10 ^ 9-d4,d5]:List Int).map V.int))) r=some (.lst (ns.map V.int)):=Zd hz _ _ _ (sg _ _ hr9)
  have Lz:Z9 (upd (upd H9 g (.lst [.int (10 ^ 9-d4),.int d5])) z (.lst (([d1,d2*d3,5,1+(0+(i:Int))*(0+(i:Int)),10 ^ 9-d4,d5]:List Int).map V.int))) p (c3+1+1+1+1+1):=(L9.new hg).new hz
  have Bz:But p H3 (upd (upd H9 g (.lst [.int (10 ^ 9-d4),.int d5])) z (.lst (([d1,d2*d3,5,1+(0+(i:Int))*(0+(i:Int)),10 ^ 9-d4,d5]:List Int).map V.int))):=((B37.trans B8).trans B9).trans (But.same (sg.trans (Zd hz _)))
  have hzz:(upd (upd H9 g (.lst [.int (10 ^ 9-d4),.int d5])) z (.lst (([d1,d2*d3,5,1+(0+(i:Int))*(0+(i:Int)),10 ^ 9-d4,d5]:List Int).map V.int))) z=some (.lst (([d1,d2*d3,5,1+(0+(i:Int))*(0+(i:Int)),10 ^ 9-d4,d5]:List Int).map V.int)):=Zb
  refine⟨_,rfl,z,_,_,_,rfl,rfl,SqL.of hzz,hat,r,_,_,rfl,rfl,hrz,(by rw[Qb,hn];exact ZB (by omega)),ns++[v],_,_,c3+1+1+1+1+1,rfl,?_,by rw[Qe,hn];rfl,fun u hu=>?_,Lz.at npr,by omega,by omega,fun b o h n=>?_⟩
  ·rw[Zb,Qh];rfl
  ·rcases Qt.mp hu with hu|hu
   ·exact hb u hu
   ·rw[Qg.mp hu];exact hv1
  ·rw[Zj (Zg h hrn)];exact Bz b o (B3 b o h n) n
 ·rintro σ H3 ⟨ns,v5,v6,c3,rfl,hr3,hn,hb,L3,b1,b2,B3⟩
  exact⟨_,rfl,q r ns c3 H3 hrn hr3 (by omega) (by omega) hb L3 (by omega) (by omega) B3⟩
def ZhB(K:PySem.W.Frag):Sp:=fun vs H Q _=>∃ (a:Addr) (ns:List Int),vs=[.ref a]∧SqL K H a (ns.map V.int)∧ns.length≤63∧∀H',Q (.bl true) H'
def toI(c:List Nat):List Int:=c.map fun x:Nat=>(x:Int)
theorem Zcy(c:List Nat):(toI c).length=c.length:=by unfold toI;rw[Qb]
def ZbA(b e w:Nat)(c:List Nat):Prop:=c.head? = some b∧c.Pairwise (·<·)∧(∀x∈c,x<e)∧c.length≤w
theorem Zex{b w:Nat}{c:List Nat}(hw:1≤w):ZbA b (b+1) w c↔c=[b]:=by
 constructor
 ·rintro⟨h1,h2,h3,h4⟩
  cases c with
  | nil=>cases h1
  | cons x r =>
   cases h1
   cases r with
   | nil=>rfl
   | cons y r =>
    have a:=QaN h2 (Qp (a:=y) (l:=r))
    have b:=h3 y (by simp)
    omega
 ·rintro rfl
  exact⟨rfl,Qay _ _,fun x hx=>by rw[Qg.mp hx];omega,hw⟩
theorem Zkf{b e w:Nat}{c:List Nat}(hbe:b<e):ZbA b (e+1) w c↔ZbA b e w c∨∃c0,c=c0++[e]∧ZbA b e w c0∧c0.length<w:=by
 constructor
 ·rintro⟨h1,h2,h3,h4⟩
  by_cases he:e∈c
  ·right
   have hne:c≠[]:=fun z=>by rw[z]at he;cases he
   have hsp:c=c.dropLast++[c.getLast hne]:=(QaA hne).symm
   rw[hsp]at h2
   obtain⟨p1,_,p3⟩:=QaJ.mp h2
   have hl:c.getLast hne=e:=by
    have a:=h3 _ (List.getLast_mem hne)
    rw[hsp]at he
    rcases Qt.mp he with h|h
    ·have:=p3 e h (c.getLast hne) (Qg.mpr rfl);omega
    ·exact(Qg.mp h).symm
   rw[hl]at hsp p3
   refine⟨c.dropLast,hsp,⟨?_,p1,fun x hx=>p3 x hx e (by simp),?_⟩,?_⟩
   ·cases hd:c.dropLast with
    | nil=>rw[hd]at hsp;rw[hsp]at h1;cases h1;omega
    | cons x r=>rw[hd]at hsp;rw[hsp]at h1;exact h1
   ·rw[QaI];omega
   ·rw[QaI]
    have:=QaP.mpr hne
    omega
  ·left
   refine⟨h1,h2,fun x hx=>?_,h4⟩
   have a:=h3 x hx
   have b:x≠e:=fun z=>he (z ▸ hx)
   omega
 ·rintro(⟨h1,h2,h3,h4⟩|⟨c0,rfl,⟨h1,h2,h3,h4⟩,h5⟩)
  ·exact⟨h1,h2,fun x hx=>by have:=h3 x hx;omega,h4⟩
  ·refine⟨?_,?_,fun x hx=>?_,by rw[Qe,Qy];omega⟩
   ·cases c0 with
    | nil=>cases h1
    | cons x r=>exact h1
   ·rw[List.pairwise_append]
    exact⟨h2,Qay _ _,fun x hx y hy=>by rw[Qg.mp hy];exact h3 x hx⟩
   ·rcases Qt.mp hx with h|h
    ·have:=h3 x h;omega
    ·rw[Qg.mp h];omega
def ZaY(pf:Nat→Nat→Int):List Nat→Nat→Int
 | [],_=>0
 | [x],e=>pf x e
 | x::y::r,e=>pf x y+ZaY pf (y::r) e
theorem Zea(pf:Nat→Nat→Int)(e:Nat):∀c:List Nat,((c.zip (c.tail++[e])).map fun p=>pf p.1 p.2).sum=ZaY pf c e
 | []=>rfl
 | [x]=>by show (pf x e+0:Int)=pf x e;omega
 | x::y::r=>by
  have ih:=Zea pf e (y::r)
  show (pf x y::(((y::r).zip ((y::r).tail++[e])).map fun p=>pf p.1 p.2)).sum=_
  rw[List.sum_cons,ih]
  rfl
theorem ZeX{e:Nat}:∀ (r:List Nat) (x:Nat),(x::r).Pairwise (·<·)→(∀y∈x::r,y<e)→∀y z,(y,z)∈(x::r).zip (r++[e])→x≤y∧y<z∧z≤e∧(r≠[]→y=x→z<e)
 | [],x,_,h,y,z,hm=>by
  have:(y,z)=(x,e):=by simpa using hm
  cases this
  exact⟨Qd _,h x (by simp),Qd _,fun h=>absurd rfl h⟩
 | u::r,x,hp,h,y,z,hm=>by
  have hxu:=QaN hp (Qp (a:=u) (l:=r))
  rw[List.cons_append,List.zip_cons_cons]at hm
  rcases QM.mp hm with hm|hm
  ·cases hm
   have:=h u (by simp)
   exact⟨Qd _,hxu,by omega,fun _ _=>this⟩
  ·obtain⟨a,b,c,d⟩:=ZeX r u (List.Pairwise.of_cons hp) (fun w hw=>h w (Qi _ hw)) y z hm
   exact⟨by omega,b,c,fun _ e'=>by omega⟩
def Rd(H:Hp):List Addr→List (List Int)→Prop
 | [],[]=>True
 | l::ls,d::ds=>H l=some (.lst (d.map V.int))∧Rd H ls ds
 | _,_=>False
theorem Rd.len{H:Hp}:∀ {ls:List Addr} {ds:List (List Int)},Rd H ls ds→ls.length=ds.length
 | [],[],_=>rfl
 | [],_::_,h=>h.elim
 | _::_,[],h=>h.elim
 | _::ls,_::ds,h=>by rw[QE,QE,Rd.len h.2]
theorem Rd.mono{H H':Hp}:∀ {ls:List Addr} {ds:List (List Int)},(∀l∈ls,∀o,H l=some o→H' l=some o)→Rd H ls ds→Rd H' ls ds
 | [],[],_,_=>trivial
 | [],_::_,_,h=>h.elim
 | _::_,[],_,h=>h.elim
 | l::ls,_::ds,k,h=>⟨k l (by simp) _ h.1,Rd.mono (fun x hx=>k x (Qi _ hx)) h.2⟩
theorem Rd.app{H:Hp}:∀ {ls:List Addr} {ds:List (List Int)} {ms:List Addr} {es:List (List Int)},Rd H ls ds→Rd H ms es→Rd H (ls++ms) (ds++es)
 | [],[],_,_,_,h=>h
 | [],_::_,_,_,h,_=>h.elim
 | _::_,[],_,_,h,_=>h.elim
 | _::ls,_::ds,_,_,h,g=>⟨h.1,Rd.app h.2 g⟩
theorem Rd.at{H:Hp}:∀ {ls:List Addr} {ds:List (List Int)} {i:Nat} {l:Addr},Rd H ls ds→ls[i]? = some l→∃d,ds[i]? = some d∧H l=some (.lst (d.map V.int))
 | [],_,i,l,_,h=>by simp at h
 | _::_,[],_,_,h,_=>h.elim
 | l::ls,d::ds,0,x,h,e=>⟨d,rfl,by simp at e;subst e;exact h.1⟩
 | l::ls,d::ds,i+1,x,h,e=>by simpa using Rd.at (i:=i) h.2 (by simpa using e)
theorem ZeC(xs:List V):Zbw xs (some 1) none=xs.tail:=by
 unfold Zbw HT.sIx
 simp only[]
 rw[if_neg (by omega)]
 cases xs with
 | nil=>rfl
 | cons x r =>
  have e:min ((1:Int).toNat) (x::r).length=1:=by rw[QE];show min 1 (r.length+1)=1;omega
  rw[show (min (1:Int).toNat (x::r).length)=1 from e]
  simp
theorem ZT(ts:ZaX):(ZS ts).length=ts.length:=by unfold ZS;rw[Qb]
theorem Zkn{x y:Int}{r s:List Key}(h:Zbm (.inl x::r) (.inl y::s)=false):y≤x:=by
 rw[ZeE]at h
 by_cases e:(Sum.inl x:Key)=.inl y
 ·injection e with e;omega
 ·rw[if_neg e]at h
  have:¬ x<y:=of_decide_eq_false h
  omega
def Kb(b e m:Nat):List Key:=[.inl (b:Int),.inl (e:Int),.inl (m:Int)]
theorem Zl7{b e m b' e' m':Nat}(h:Kb b e m=Kb b' e' m'):b=b'∧e=e'∧m=m':=by
 unfold Kb at h
 injection h with h1 h2
 injection h2 with h2 h3
 injection h3 with h3 _
 injection h1 with h1
 injection h2 with h2
 injection h3 with h3
 omega
def Zep(H:Hp)(v:V)(p:Int)(ts:List PT):Prop:=∃ (a t:Addr) (xs:List V),v=.ref a∧H a=some (.tup [.int p,.ref t])∧H t=some (.tup xs)∧TVs H xs ts
theorem Zep.mono{H H':Hp}{v:V}{p:Int}{ts:List PT}(h:Zep H v p ts)(s:∀a xs,H a=some (.tup xs)→H' a=some (.tup xs)):Zep H' v p ts:=by
 obtain⟨a,t,xs,e,h1,h2,h3⟩:=h
 exact⟨a,t,xs,e,s _ _ h1,s _ _ h2,h3.mono s⟩
def Has(ns:List Int)(w:Nat)(H:Hp)(kvs:List (List Key×V))(b e:Nat):Prop:=∀m,1≤m→m<w→∃v p ts,ZU kvs (Kb b e m)=some v∧Zep H v p ts∧Gr ns w b e m p ts
theorem Has.mono{ns:List Int}{w:Nat}{H H':Hp}{kvs:List (List Key×V)}{b e:Nat}(h:Has ns w H kvs b e)(s:∀a xs,H a=some (.tup xs)→H' a=some (.tup xs)):Has ns w H' kvs b e:=fun m h1 h2=>by
 obtain⟨v,p,ts,a,c,g⟩:=h m h1 h2
 exact⟨v,p,ts,a,c.mono s,g⟩
def Zjl(ns:List Int)(wy:Nat):Sp:=fun vs H Q _=>∃ (d:Addr) (kvs:List (List Key×V)) (b e m:Nat),vs=[.ref d,.int b,.int e,.int m]∧H d=some (.dT kvs)∧b+1<e∧e≤12∧2≤m∧m≤wy∧(∀k,b<k→k<e→Has ns wy H kvs b k∧Has ns wy H kvs k e) ∧
 ∀ (r:Addr) (p:Int) (ts:List PT) (H':Hp),Zep H' (.ref r) p ts→Gc ns wy b e m p ts→Zn H H'→Q (.ref r) H'
def PS(ns:List Int)(wy b e m k:Nat)(s:Int):Prop:=∃q1 q2 u1 u2,Gr ns wy b k 1 q1 u1∧Gr ns wy k e (m-1) q2 u2∧s=q1+q2
theorem ZjU(T:Zar K mg)(ns:List Int)(wy:Nat):Df P w K mg base 1 "least_cut" ["groves", "begin", "end", "most"] (Zjl ns wy):=by
 refine T.t_least_cut.df Zb5 (fun vs H Q E h=>?_) (fun cdv f A outer s H vs Q E hr h=>?_)
 ·obtain⟨d,kvs,b,e,m,rfl,_⟩:=h
  rfl
 obtain⟨d,kvs,b,e,m,rfl,hd,hbe,he12,hm2,hmw,hall,q⟩:=h
 refine⟨_,#[Zh,#[Zcf,#[Zk,(ZnG K hr),(by rfl),T.b.n_min,boot_min,#[Za,#[ZaU,Zeu,#[Zay,rfl,T.b.n_range,#[Za,#[Zq,ZM,#[pv,1,(Or.inr (Or.inl rfl))],#[Ze]],#[Za,#[pv,2,(Or.inr (Or.inl rfl))],#[Zc]]]],(fun _ _ _ _=>#[cg,6,Zeu]),(fun _ _ _ _=>(@ZaI _)),(fun _ _ _ _=>#[Zv,#[Za,#[Zq,ZM,#[ZI,(ixT K),#[ZI,(ixD hr),#[cv,0,Zeu],#[Zv,#[Za,#[cv,1,Zeu],#[Za,#[cw,6,Zeu],#[Za,#[Ze],#[Zc]]]]]],#[Ze]],#[ZI,(ixT K),#[ZI,(ixD hr),#[cv,0,Zeu],#[Zv,#[Za,#[cw,6,Zeu],#[Za,#[cv,2,Zeu],#[Za,#[Zq,ZbL,#[cv,3,Zeu],#[Ze]],#[Zc]]]]]],#[Ze]]],#[Za,#[cw,6,Zeu],#[Zc]]]])],#[Zc]]],#[gT,K,2,#[Zz,#[Zx,4,Zb5.nd,(Or.inl rfl)],#[Zz,#[Zx,5,Zb5.nd,(Or.inl rfl)],(@ZaH _)]]]],#[Zi,#[Zl,#[Zv,#[Za,‹4›,#[Za,#[Zq,Zkq,#[ZI,(ixT K),#[ZI,(ixD hr),#[pv,0,(Or.inr (Or.inl rfl))],#[Zv,#[Za,#[pv,1,(Or.inr (Or.inl rfl))],#[Za,‹5›,#[Za,#[Ze],#[Zc]]]]]],#[Ze]],#[ZI,(ixT K),#[ZI,(ixD hr),#[pv,0,(Or.inr (Or.inl rfl))],#[Zv,#[Za,‹5›,#[Za,#[pv,2,(Or.inr (Or.inl rfl))],#[Za,#[Zq,ZbL,#[pv,3,(Or.inr (Or.inl rfl))],#[Ze]],#[Zc]]]]]],#[Ze]]],#[Zc]]]]]]],?_⟩
 refine⟨_,rfl,_,_,rfl,rfl,_,rfl,_,_,rfl,⟨by omega,by omega,by omega,by omega⟩,fun D hD=>?_⟩
 rw[show ((e:Int)-((b:Int)+1)).toNat=e-(b+1) by omega]
 refine Zb7 (fun i zs σ H2=>(∃v:Option V,σ=[some (.ref d),some (.int b),some (.int e),some (.int m),none,none,v])∧(∃tl:ZaX,zs=ZS tl∧AtT H2 tl∧tl.length=i∧∀ (j:Nat) (t:Addr×List Key),tl[j]? = some t→∃s,t.2=[.inl s,.inl ((b+1+j:Nat):Int)]∧PS ns wy b e m (b+1+j) s)∧i≤e-(b+1)∧H2 D=some (.lst zs)∧Zn H H2) ?_ ?_ ?_
 ·exact⟨⟨none,rfl⟩,⟨[],rfl,(fun t h=>by cases h),rfl,fun j t h=>by cases h⟩,Ql _,Zb,Zd hD _⟩
 ·rintro i zs σ H2 hi ⟨⟨v,rfl⟩,⟨tl,rfl,hat,htl,hk⟩,hi',hD2,s2⟩
  rw[show ((b:Int)+1+(i:Int))=((b+1+i:Nat):Int) by omega]
  obtain⟨A1,A2⟩:=hall (b+1+i) (by omega) (by omega)
  obtain⟨v1,p1,t1,l1,⟨a1,y1,x1,rfl,ha1,hy1,tv1⟩,g1⟩:=A1 1 (by omega) (by omega)
  obtain⟨v2,p2,t2,l2,⟨a2,y2,x2,rfl,ha2,hy2,tv2⟩,g2⟩:=A2 (m-1) (by omega) (by omega)
  refine⟨_,rfl,_,rfl,_,rfl,(by show 3≤sizeLine;decide),fun k1 hk1=>?_⟩
  have s3:=s2.trans (Zd hk1 (.tup ((Kb b (b+1+i) 1).map kV)))
  have hD3:=Zd hk1 (.tup ((Kb b (b+1+i) 1).map kV)) _ _ hD2
  have hat3:=AtT.mono hat (Zd hk1 (.tup ((Kb b (b+1+i) 1).map kV)))
  have f3:(upd H2 k1 (.tup ((Kb b (b+1+i) 1).map kV))) k1=some (.tup ((Kb b (b+1+i) 1).map kV)):=Zb
  change Zen _ _ (upd H2 k1 (.tup ((Kb b (b+1+i) 1).map kV))) _
  generalize upd H2 k1 (.tup ((Kb b (b+1+i) 1).map kV))=H3 at s3 hD3 hat3 f3 ⊢
  refine⟨d,kvs,k1,Kb b (b+1+i) 1,_,rfl,rfl,s3 _ _ hd,f3,l1,a1,_,_,_,rfl,rfl,SqT.of (s3 _ _ ha1),rfl,?_⟩
  refine⟨_,rfl,_,rfl,_,rfl,_,rfl,_,_,rfl,rfl,(by show 3≤sizeLine;decide),fun k2 hk2=>?_⟩
  have s4:=s3.trans (Zd hk2 (.tup ((Kb (b+1+i) e (m-1)).map kV)))
  have hD4:=Zd hk2 (.tup ((Kb (b+1+i) e (m-1)).map kV)) _ _ hD3
  have hat4:=AtT.mono hat3 (Zd hk2 (.tup ((Kb (b+1+i) e (m-1)).map kV)))
  have f4:(upd H3 k2 (.tup ((Kb (b+1+i) e (m-1)).map kV))) k2=some (.tup ((Kb (b+1+i) e (m-1)).map kV)):=Zb
  change Zen _ _ (upd H3 k2 (.tup [V.int ((b+1+i:Nat):Int),V.int (e:Int),V.int ((m:Int)-1)])) _
  rw[show ((m:Int)-1)=((m-1:Nat):Int) by omega]
  change Zen _ _ (upd H3 k2 (.tup ((Kb (b+1+i) e (m-1)).map kV))) _
  generalize upd H3 k2 (.tup ((Kb (b+1+i) e (m-1)).map kV))=H4 at s4 hD4 hat4 f4 ⊢
  refine⟨d,kvs,k2,Kb (b+1+i) e (m-1),_,rfl,rfl,s4 _ _ hd,f4,l2,a2,_,_,_,rfl,rfl,SqT.of (s4 _ _ ha2),rfl,_,_,rfl,rfl,_,rfl,(by show 2≤sizeLine;decide),fun n hn=>?_⟩
  have sn:=Zd hn (.tup [.int (p1+p2),.int ((b+1+i:Nat):Int)])
  have hD5:=sn _ _ hD4
  have nDn:D≠n:=Zg hD4 hn
  refine⟨hD5,(by rw[ZT,htl];exact ZB (by omega)),⟨_,rfl⟩,⟨tl++[(n,[.inl (p1+p2),.inl ((b+1+i:Nat):Int)])],by unfold ZS;rw[Qh];rfl,fun t ht=>?_,by rw[Qe,Qy];omega,fun j t hj=>?_⟩,by omega,Zb,fun b' o hb=>?_⟩
  ·rcases Qt.mp ht with ht|ht
   ·exact Zau hD5 _ _ _ (sn _ _ (hat4 t ht))
   ·rw[Qg.mp ht,Zj nDn.symm];exact Zb
  ·by_cases hjl:j<tl.length
   ·rw[Qai hjl]at hj
    exact hk j t hj
   ·have hj2:=(Qn.mp hj).1
    rw[Qe,Qy]at hj2
    have ej:j=i:=by omega
    subst ej
    rw[QZ (by omega),htl,Nat.sub_self]at hj
    cases hj
    exact⟨p1+p2,rfl,p1,p2,t1,t2,g1,g2,rfl⟩
  ·rw[Zj (Zg hb hD)];exact sn _ _ (s4 b' o hb)
 rintro zs σ H2 ⟨⟨v,rfl⟩,⟨tl,rfl,hat,htl,hk⟩,_,hD2,s2⟩
 have hsh:∀t∈tl,Zbu t.2=[true,true]:=fun t ht=>by
  obtain⟨j,hj⟩:=List.mem_iff_getElem?.mp ht
  obtain⟨s,e1,_⟩:=hk j t hj
  rw[e1];rfl
 refine⟨D,tl,[true,true],rfl,SqL.of hD2,hat,(fun z=>by rw[z]at htl;simp at htl;omega),hsh,fun t ht hmin=>?_⟩
 obtain⟨j,hj⟩:=List.mem_iff_getElem?.mp ht
 have hjl:=(Qn.mp hj).1
 obtain⟨sm,et,q1,q2,u1,u2,g1,g2,es⟩:=hk j t hj
 have htt:=hat t ht
 rw[et]at htt
 refine⟨t.1,_,rfl,SqT.of htt,rfl,_,_,rfl,_,_,rfl,rfl,?_⟩
 have hmid1:b<b+1+j:=by omega
 have hmid2:b+1+j<e:=by omega
 obtain⟨A1,A2⟩:=hall (b+1+j) hmid1 hmid2
 obtain⟨v1,p1,t1,l1,⟨a1,y1,x1,rfl,ha1,hy1,tv1⟩,g1'⟩:=A1 1 (by omega) (by omega)
 obtain⟨v2,p2,t2,l2,⟨a2,y2,x2,rfl,ha2,hy2,tv2⟩,g2'⟩:=A2 (m-1) (by omega) (by omega)
 have e1:=ZcR g1 g1'
 have e2:=ZcR g2 g2'
 have hcut:Gc ns wy b e m (p1+p2) (t1++t2):=by
  refine Zmz hm2 hmid1 hmid2 g1' g2' (fun k r1 r2 w1 w2 k1 k2 f1 f2=>?_) (fun k k1 k2=>?_)
  ·have hkl:k-(b+1)<tl.length:=by omega
   obtain⟨s',e3,r1',r2',w1',w2',f1',f2',es'⟩:=hk (k-(b+1)) _ (Qc hkl)
   have hm':=hmin _ (QW hkl)
   rw[e3,et]at hm'
   have:=Zkn hm'
   rw[show b+1+(k-(b+1))=k by omega]at f1' f2'
   have e4:=ZcR f1 f1'
   have e5:=ZcR f2 f2'
   omega
  ·obtain⟨B1,B2⟩:=hall k k1 k2
   obtain⟨_,r1,w1,_,_,f1⟩:=B1 1 (by omega) (by omega)
   obtain⟨_,r2,w2,_,_,f2⟩:=B2 (m-1) (by omega) (by omega)
   exact⟨r1,r2,w1,w2,f1,f2⟩
 refine⟨_,rfl,_,rfl,_,rfl,_,rfl,(by show 3≤sizeLine;decide),fun k1 hk1=>?_⟩
 have s3:=s2.trans (Zd hk1 (.tup ((Kb b (b+1+j) 1).map kV)))
 have f3:(upd H2 k1 (.tup ((Kb b (b+1+j) 1).map kV))) k1=some (.tup ((Kb b (b+1+j) 1).map kV)):=Zb
 change Zen _ _ (upd H2 k1 (.tup ((Kb b (b+1+j) 1).map kV))) _
 generalize upd H2 k1 (.tup ((Kb b (b+1+j) 1).map kV))=H3 at s3 f3 ⊢
 refine⟨d,kvs,k1,Kb b (b+1+j) 1,_,rfl,rfl,s3 _ _ hd,f3,l1,a1,_,_,_,rfl,rfl,SqT.of (s3 _ _ ha1),rfl,?_⟩
 refine⟨_,rfl,_,rfl,_,rfl,_,rfl,_,_,rfl,rfl,(by show 3≤sizeLine;decide),fun k2 hk2=>?_⟩
 have s4:=s3.trans (Zd hk2 (.tup ((Kb (b+1+j) e (m-1)).map kV)))
 have f4:(upd H3 k2 (.tup ((Kb (b+1+j) e (m-1)).map kV))) k2=some (.tup ((Kb (b+1+j) e (m-1)).map kV)):=Zb
 change Zen _ _ (upd H3 k2 (.tup [V.int ((b+1+j:Nat):Int),V.int (e:Int),V.int ((m:Int)-1)])) _
 rw[show ((m:Int)-1)=((m-1:Nat):Int) by omega]
 change Zen _ _ (upd H3 k2 (.tup ((Kb (b+1+j) e (m-1)).map kV))) _
 generalize upd H3 k2 (.tup ((Kb (b+1+j) e (m-1)).map kV))=H4 at s4 f4 ⊢
 have tv1':TVs H4 x1 t1:=tv1.mono fun a xs e=>s4 _ _ e
 have tv2':TVs H4 x2 t2:=tv2.mono fun a xs e=>s4 _ _ e
 have n1:=tv1.len
 have n2:=tv2.len
 have c1:=g1'.l1
 have c2:=g2'.l1
 have c3:=g1'.lm
 have c4:=g2'.nf.len
 refine⟨d,kvs,k2,Kb (b+1+j) e (m-1),_,rfl,rfl,s4 _ _ hd,f4,l2,a2,_,_,_,rfl,rfl,SqT.of (s4 _ _ ha2),rfl,y1,y2,x1,x2,rfl,rfl,SqT.of (s4 _ _ hy1),SqT.of (s4 _ _ hy2),(fun z=>by rw[z]at n1;simp at n1;omega),Q7 (ZB (by omega)),(fun z=>by rw[z]at n2;simp at n2;omega),fun _ tt htt'=>?_⟩
 have s5:=s4.trans (Zd htt' (.tup (x1++x2)))
 have f5:(upd H4 tt (.tup (x1++x2))) tt=some (.tup (x1++x2)):=Zb
 have tv5:TVs (upd H4 tt (.tup (x1++x2))) (x1++x2) (t1++t2):=(tv1'.app tv2').mono fun a xs e=>Zd htt' _ _ _ e
 generalize upd H4 tt (.tup (x1++x2))=H5 at s5 f5 tv5 ⊢
 refine⟨(by show 2≤sizeLine;decide),fun r hr0=>?_⟩
 have esum:sm=p1+p2:=by omega
 rw[esum]
 have s6:=Zd hr0 (.tup [.int (p1+p2),.ref tt])
 exact q r (p1+p2) (t1++t2) _ ⟨r,tt,x1++x2,rfl,Zb,s6 _ _ f5,tv5.mono fun a xs e=>s6 _ _ e⟩ hcut (s5.trans s6)
def ZjX(K:PySem.W.Frag)(ns:List Int)(wy:Nat):Sp:=fun vs H Q _=>∃ (d a:Addr) (kvs:List (List Key×V)) (b e:Nat),vs=[.ref d,.ref a,.int wy,.int b,.int e]∧H d=some (.dT kvs)∧SqL K H a (ns.map V.int)∧b<e∧e≤ns.length∧ns.length≤12∧(∀v∈ns,0≤v∧v≤1000000000)∧2≤wy∧(∀k,b<k→k<e→Has ns wy H kvs b k∧Has ns wy H kvs k e) ∧
 ∀ (r:Addr) (p:Int) (ts:List PT) (H':Hp),Zep H' (.ref r) p ts→Gr ns wy b e 1 p ts→Zn H H'→Q (.ref r) H'
theorem ZkK(T:Zar K mg)(ns:List Int)(wy:Nat)(f_least_cut:Df P w K mg base 1 "least_cut" ["groves", "begin", "end", "most"] (Zjl ns wy)):Df P w K mg base 2 "least_tree" ["groves", "sizes", "ways", "begin", "end"] (ZjX K ns wy):=by
 refine T.t_least_tree.df ZbD (fun vs H Q E h=>?_) (fun cdv f A outer s H vs Q E hr h=>?_)
 ·obtain⟨d,a,kvs,b,e,rfl,_⟩:=h
  rfl
 obtain⟨d,a,kvs,b,e,rfl,hd,hS,hbe,hen,hn12,hns,w2,hall,q⟩:=h
 refine⟨_,#[Zh,#[ZZ,#[ZA,ZdK,#[Zq,ZbL,‹4›,‹3›],#[Ze],(ZF _)],#[Zi,#[Zl,#[Zv,#[Za,#[Ze],#[Za,#[Zv,#[Za,‹3›,#[Zc]]],#[Zc]]]]]],#[ZD]],#[Zh,#[Zcf,#[Zs,f_least_cut,hr,#[Za,‹0›,#[Za,‹3›,#[Za,‹4›,#[Za,‹2›,#[Zc]]]]],(by rfl)],#[gT,K,2,#[Zz,#[Zx,5,ZbD.nd,(Or.inl rfl)],#[Zz,#[Zx,6,ZbD.nd,(Or.inl rfl)],(@ZaH _)]]]],#[Zi,#[Zl,#[Zv,#[Za,#[Zq,ZM,‹5›,#[Zk,(Zkm K),(by rfl),T.b.n_sum,boot_sum,#[Za,#[Zbv,(slL K),‹1›,#[ZaQ,‹3›],#[ZaQ,‹4›]],#[Zc]]]],#[Za,#[Zv,#[Za,‹6›,#[Zc]]],#[Zc]]]]]]]],?_⟩
 have hnn:∀v∈ns,0≤v:=fun v hv=>(hns v hv).1
 refine⟨_,rfl,_,rfl,_,_,rfl,rfl,rfl,_,rfl,ZdN (fun d0=>?_) (fun d0=>?_)⟩
 ·have d':=V.int.inj (of_decide_eq_true d0)
  have ee:e=b+1:=by omega
  subst ee
  refine⟨_,rfl,(by show 1≤sizeLine;decide),fun t1 ht1=>⟨(by show 2≤sizeLine;decide),fun r hr0=>?_⟩⟩
  have s2:=Zd hr0 (.tup [.int 0,.ref t1])
  exact q r 0 [.leaf (b:Int)] _ ⟨r,t1,_,rfl,Zb,s2 _ _ Zb,.cons (.leaf _) .nil⟩ (Zk1 hnn wy b 1 (Qd 1)) ((Zd ht1 _).trans s2)
 ·have hne:¬ e=b+1:=fun z=>d0 (decide_eq_true (show V.int ((e:Int)-(b:Int))=V.int 1 from by rw[show ((e:Int)-(b:Int))=1 by omega]))
  refine⟨_,rfl,_,rfl,_,rfl,_,rfl,d,kvs,b,e,wy,rfl,hd,by omega,by omega,w2,Qd _,hall,fun r p ts H1 hC hG s1=>?_⟩
  obtain⟨r',t,xs,er,h1,h2,h3⟩:=hC
  cases er
  refine⟨r,_,rfl,SqT.of h1,rfl,_,_,rfl,_,_,rfl,rfl,?_⟩
  refine⟨_,rfl,_,rfl,_,rfl,_,rfl,_,rfl,_,rfl,a,_,rfl,s1.seq hS,fun sl hsl=>?_⟩
  rw[ZjH (ns.map V.int) b e (by rw[Qb];omega) (by rw[Qb];exact hen),← List.map_drop,← List.map_take]
  have s2:=Zd hsl (.lst (((ns.drop b).take (e-b)).map V.int))
  have f2:(upd H1 sl (.lst (((ns.drop b).take (e-b)).map V.int))) sl=some (.lst (((ns.drop b).take (e-b)).map V.int)):=Zb
  generalize upd H1 sl (.lst (((ns.drop b).take (e-b)).map V.int))=H2 at s2 f2 ⊢
  refine⟨sl,(ns.drop b).take (e-b),rfl,SqL.of f2,by rw[Qu,QN];omega,fun v hv=>?_,_,_,rfl,rfl,_,rfl,(by show 1≤sizeLine;decide),fun t2 ht2=>⟨(by show 2≤sizeLine;decide),fun r2 hr2=>?_⟩⟩
  ·have:=hns v (Qad (Qac hv))
   omega
  have s3:=Zd ht2 (.tup [.ref t])
  have s4:=Zd hr2 (.tup [.int (p+((ns.drop b).take (e-b)).sum),.ref t2])
  have s14:=(s2.trans s3).trans s4
  exact q r2 (p+seg ns b e) [.node ts] _ ⟨r2,t2,_,rfl,Zb,s4 _ _ Zb,.cons (.node (s14 _ _ h2) (h3.mono fun a xs e=>s14 _ _ e)) .nil⟩ (Zko hG (by omega) hen) (s1.trans s14)
def ZhI(ns:List Int)(wy:Nat):Sp:=fun vs H Q _=>∃ (d al:Addr) (kvs:List (List Key×V)) (b e m:Nat) (p:Int) (ts:List PT),vs=[.ref d,.ref al,.int b,.int e,.int m]∧H d=some (.dT kvs)∧b<e∧e≤12∧1≤m∧m<wy∧Zep H (.ref al) p ts∧Gr ns wy b e 1 p ts∧(∀k,b<k→k<e→Has ns wy H kvs b k∧Has ns wy H kvs k e) ∧
 ∀ (r:Addr) (p:Int) (ts:List PT) (H':Hp),Zep H' (.ref r) p ts→Gr ns wy b e m p ts→Zn H H'→Q (.ref r) H'
theorem Zjx(T:Zar K mg)(ns:List Int)(wy:Nat)(f_least_cut:Df P w K mg base 1 "least_cut" ["groves", "begin", "end", "most"] (Zjl ns wy)):Df P w K mg base 2 "least_grove" ["groves", "alone", "begin", "end", "most"] (ZhI ns wy):=by
 refine T.t_least_grove.df Zcm (fun vs H Q E h=>?_) (fun cdv f A outer s H vs Q E hr h=>?_)
 ·obtain⟨d,al,kvs,b,e,m,p,ts,rfl,_⟩:=h
  rfl
 obtain⟨d,al,kvs,b,e,m,p,ts,rfl,hd,hbe,he12,m1,mw,hC,hG,hall,q⟩:=h
 refine⟨_,#[Zh,#[ZZ,(@PW.pt _ _ _ #[Zcd,#[ZA,ZdK,#[Zq,ZbL,‹3›,‹2›],#[Ze],(ZF _)],#[ZbJ,#[ZA,ZdK,‹4›,#[Ze],(ZF _)]]]),#[Zi,#[Zl,‹1›]],#[ZD]],#[Zh,#[Zw,5,Zcm.nd,(Or.inl rfl),#[Zs,f_least_cut,hr,#[Za,‹0›,#[Za,‹2›,#[Za,‹3›,#[Za,‹4›,#[Zc]]]]],(by rfl)]],#[Zi,#[Zl,(@Zf5 _ _ _ _ _ _ _ _ #[ZA,ZfO,#[ZI,(ixT K),‹5›,#[Ze]],#[ZI,(ixT K),‹1›,#[Ze]],(ZF _)] ‹5› ‹1›)]]]],?_⟩
 refine⟨_,rfl,_,rfl,_,_,rfl,rfl,rfl,_,rfl,ZdN (fun d0=>ZY ⟨_,rfl,?_⟩) (fun d0=>⟨_,rfl,rfl,_,rfl,ZdN (fun d1=>⟨_,rfl,?_⟩) (fun d1=>?_)⟩)⟩
 ·have d':=V.int.inj (of_decide_eq_true d0)
  have ee:e=b+1:=by omega
  subst ee
  exact q al p ts H hC (Zmr hG m1) (Zn.refl H)
 ·have d':=V.int.inj (of_decide_eq_true d1)
  have em:m=1:=by omega
  subst em
  exact q al p ts H hC hG (Zn.refl H)
 ·have hne:¬ e=b+1:=fun z=>d0 (decide_eq_true (show V.int ((e:Int)-(b:Int))=V.int 1 from by rw[show ((e:Int)-(b:Int))=1 by omega]))
  have hm1:¬ m=1:=fun z=>d1 (decide_eq_true (by rw[z];rfl))
  refine⟨_,rfl,_,rfl,_,rfl,_,rfl,d,kvs,b,e,m,rfl,hd,by omega,he12,by omega,by omega,hall,fun r p2 ts2 H1 hC2 hG2 s1=>?_⟩
  obtain⟨g1,g2⟩:=ZkQ m1 hG hG2
  obtain⟨r',t,xs,er,h1,h2,h3⟩:=id hC2
  cases er
  obtain⟨al',t',xs',ea,k1,k2,k3⟩:=id hC
  cases ea
  refine⟨_,rfl,r,_,_,_,rfl,rfl,SqT.of h1,rfl,_,rfl,al,_,_,_,rfl,rfl,SqT.of (s1 _ _ k1),rfl,_,_,rfl,rfl,_,rfl,ZdN (fun d2=>⟨_,rfl,?_⟩) (fun d2=>⟨_,rfl,?_⟩)⟩
  ·exact q r p2 ts2 H1 hC2 (g1 (of_decide_eq_true d2)) s1
  ·exact q al p ts H1 (hC.mono fun a xs e=>s1 _ _ e) (g2 fun z=>d2 (decide_eq_true z)) s1
theorem Zhy{H:Hp}{d:Addr}{kvs:List (List Key×V)}(h:H d=some (.dT kvs))(o:HO):∀a xs,H a=some (.tup xs)→(upd H d o) a=some (.tup xs):=fun a xs e=>by
 rw[Zj (Zj8 e h (fun z=>nomatch z))];exact e
structure St (ns:List Int) (wy:Nat) (H0 H:Hp) (d:Addr) (kvs:List (List Key×V)) (i j:Nat):Prop where
 hd:H d=some (.dT kvs)
 has:∀b e,b<e→e≤ns.length→(e-b≤i∨(e-b=i+1∧b<j))→Has ns wy H kvs b e
 only:∀b e m,ZU kvs (Kb b e m)≠none→e-b≤i∨(e-b=i+1∧b<j)
 len:kvs.length≤72*i+6*j
 sm:Zn H0 H
 d0:H0 d=none
def ZcT(K:PySem.W.Frag)(ns:List Int)(wy:Nat):Sp:=fun vs H Q _=>∃ (a:Addr),vs=[.ref a,.int wy]∧SqL K H a (ns.map V.int)∧1≤ns.length∧ns.length≤12∧(∀v∈ns,0≤v∧v≤1000000000)∧2≤wy∧wy≤6 ∧
 ∀ (d:Addr) (kvs:List (List Key×V)) (H':Hp),H' d=some (.dT kvs)→(∀b e,b<e→e≤ns.length→Has ns wy H' kvs b e)→Zn H H'→Q (.ref d) H'
theorem ZiC(T:Zar K mg)(ns:List Int)(wy:Nat)(f_least_tree:Df P w K mg base 2 "least_tree" ["groves", "sizes", "ways", "begin", "end"] (ZjX K ns wy))(f_least_grove:Df P w K mg base 2 "least_grove" ["groves", "alone", "begin", "end", "most"] (ZhI ns wy)):Df P w K mg base 3 "least_groves" ["sizes", "ways"] (ZcT K ns wy):=by
 refine T.t_least_groves.df ZR (fun vs H Q E h=>?_) (fun cdv f A outer s H vs Q E hr h=>?_)
 ·obtain⟨a,rfl,_⟩:=h
  rfl
 obtain⟨a,rfl,hS,n1,n12,hns,w2,w6,q⟩:=h
 refine⟨_,#[Zh,#[Zw,2,ZR.nd,(Or.inl rfl),(@Zkw _ _)],#[Zh,#[Zao,PassesOwn.never,#[Zay,rfl,T.b.n_range,#[Za,#[Ze],#[Za,#[Zq,ZM,#[Zk,(ZbC K),(by rfl),T.b.n_len,QB,#[Za,‹0›,#[Zc]]],#[Ze]],#[Zc]]]],#[Zx,3,ZR.nd,(Or.inl rfl)],#[Zi,#[Zao,PassesOwn.never,#[Zav,T.b.n_range,#[Za,#[Zq,ZM,#[Zq,ZbL,#[Zk,(ZbC K),(by rfl),T.b.n_len,QB,#[Za,‹0›,#[Zc]]],‹3›],#[Ze]],#[Zc]]],#[Zx,4,ZR.nd,(Or.inl rfl)],#[Zh,#[Zw,5,ZR.nd,(Or.inl rfl),#[Zq,ZM,‹4›,‹3›]],#[Zh,#[Zw,6,ZR.nd,(Or.inl rfl),#[Zs,f_least_tree,hr,#[Za,‹2›,#[Za,‹0›,#[Za,‹1›,#[Za,‹4›,#[Za,‹5›,#[Zc]]]]]],(by rfl)]],#[Zi,#[Zao,PassesOwn.never,#[Zay,rfl,T.b.n_range,#[Za,#[Ze],#[Za,‹1›,#[Zc]]]],#[Zx,7,ZR.nd,(Or.inl rfl)],#[Zi,#[Zcf,#[Zs,f_least_grove,hr,#[Za,‹2›,#[Za,‹6›,#[Za,‹4›,#[Za,‹5›,#[Za,‹7›,#[Zc]]]]]],(by rfl)],(@ZgS _ _ _ _ _ _ _ ‹2› #[Zv,#[Za,‹4›,#[Za,‹5›,#[Za,‹7›,#[Zc]]]]] (ZnY hr) (by intro _;rfl))]]]]]]]]],#[Zi,#[Zl,‹2›]]]],?_⟩
 have hl:(((ns.map V.int).length:Nat):Int)=(ns.length:Int):=by rw[Qb]
 refine fun d hd0=>?_
 have st0:St ns wy H (upd H d (.dT [])) d [] 0 0:=⟨Zb,fun b e h1 h2 h3=>by omega,fun b e m h=>absurd rfl h,Ql _,Zd hd0 _,hd0⟩
 generalize upd H d (.dT [])=H1 at st0 ⊢
 refine⟨_,rfl,a,_,rfl,.inl (st0.sm.seq hS),_,_,rfl,rfl,_,_,rfl,⟨by omega,by omega,by omega,by omega⟩,?_⟩
 rw[show ((((ns.map V.int).length:Nat):Int)+1-1).toNat=ns.length by omega]
 refine Zam (fun i σ H2=>∃ (kvs:List (List Key×V)) (v3 v4 v5 v6 v7:Option V),σ=[some (.ref a),some (.int wy),some (.ref d),v3,v4,v5,v6,v7]∧St ns wy H H2 d kvs i 0) ⟨[],_,_,_,_,_,rfl,st0⟩ ?_ ?_
 ·rintro i σ H2 hi ⟨kvs,v3,v4,v5,v6,v7,rfl,st2⟩
  rw[show ((1:Int)+(i:Int))=((1+i:Nat):Int) by omega]
  refine⟨_,rfl,a,_,rfl,.inl (st2.sm.seq hS),_,rfl,_,_,rfl,rfl,_,_,rfl,rfl,_,rfl,by omega,by omega,?_⟩
  rw[show ((((ns.map V.int).length:Nat):Int)-((1+i:Nat):Int)+1).toNat=ns.length-i by omega]
  refine Zam (fun j σ H3=>∃ (kvs:List (List Key×V)) (v4 v5 v6 v7:Option V),σ=[some (.ref a),some (.int wy),some (.ref d),some (.int ((1+i:Nat):Int)),v4,v5,v6,v7]∧St ns wy H H3 d kvs i j) ⟨kvs,_,_,_,_,rfl,st2⟩ ?_ ?_
  ·rintro j σ H3 hj ⟨kvs,v4,v5,v6,v7,rfl,st3⟩
   rw[show ((0:Int)+(j:Int))=(j:Int) by omega]
   refine⟨_,rfl,_,rfl,_,_,rfl,rfl,?_⟩
   simp only[show ((j:Int)+((1+i:Nat):Int))=((j+1+i:Nat):Int) by omega]
   have fam:∀k,j<k→k<j+1+i→Has ns wy H3 kvs j k∧Has ns wy H3 kvs k (j+1+i):=fun k h1 h2=>⟨st3.has j k h1 (by omega) (.inl (by omega)),st3.has k (j+1+i) h2 (by omega) (.inl (by omega))⟩
   refine⟨_,rfl,_,rfl,_,rfl,_,rfl,_,rfl,d,a,kvs,j,j+1+i,rfl,st3.hd,st3.sm.seq hS,by omega,by omega,n12,hns,w2,fam,fun al p ts H4 hC hG s4=>?_⟩
   refine⟨_,rfl,_,_,rfl,⟨by omega,by omega,by omega,by omega⟩,?_⟩
   rw[show ((wy:Int)-1).toNat=wy-1 by omega]
   refine Zam (fun l σ H5=>∃ (kvs:List (List Key×V)) (v7:Option V),σ=[some (.ref a),some (.int wy),some (.ref d),some (.int ((1+i:Nat):Int)),some (.int (j:Int)),some (.int ((j+1+i:Nat):Int)),some (.ref al),v7]∧H5 d=some (.dT kvs)∧(∀b e,b<e→e≤ns.length→(e-b≤i∨(e-b=i+1∧b<j))→Has ns wy H5 kvs b e)∧(∀m,1≤m→m≤l→∃v p ts,ZU kvs (Kb j (j+1+i) m)=some v∧Zep H5 v p ts∧Gr ns wy j (j+1+i) m p ts)∧(∀b e m,ZU kvs (Kb b e m)≠none→(e-b≤i∨(e-b=i+1∧b<j))∨(b=j∧e=j+1+i∧m≤l))∧kvs.length≤72*i+6*j+l∧Zn H H5∧Zep H5 (.ref al) p ts)
    ⟨kvs,_,rfl,s4 _ _ st3.hd,fun b e h1 h2 h3=>(st3.has b e h1 h2 h3).mono fun a xs e=>s4 _ _ e,fun m h1 h2=>by omega,fun b e m h=>.inl (st3.only b e m h),by have:=st3.len;omega,st3.sm.trans s4,hC⟩ ?_ ?_
   ·rintro l σ H5 hll ⟨kvs5,v7',rfl,hd5,has5,cur5,only5,len5,s5,hC5⟩
    rw[show ((1:Int)+(l:Int))=((1+l:Nat):Int) by omega]
    have fam5:∀k,j<k→k<j+1+i→Has ns wy H5 kvs5 j k∧Has ns wy H5 kvs5 k (j+1+i):=fun k h1 h2=>⟨has5 j k h1 (by omega) (.inl (by omega)),has5 k (j+1+i) h2 (by omega) (.inl (by omega))⟩
    refine⟨_,rfl,_,rfl,_,rfl,_,rfl,_,rfl,d,al,kvs5,j,j+1+i,1+l,p,ts,rfl,hd5,by omega,by omega,by omega,by omega,hC5,hG,fam5,fun r p6 ts6 H6 hC6 hG6 s6=>?_⟩
    have hd6:=s6 _ _ hd5
    refine⟨_,rfl,_,rfl,_,rfl,_,rfl,(by show 3≤sizeLine;decide),fun k1 hk1=>?_⟩
    have s7:=Zd hk1 (.tup ((Kb j (j+1+i) (1+l)).map kV))
    have f7:(upd H6 k1 (.tup ((Kb j (j+1+i) (1+l)).map kV))) k1=some (.tup ((Kb j (j+1+i) (1+l)).map kV)):=Zb
    change Zhg _ _ _ (upd H6 k1 (.tup ((Kb j (j+1+i) (1+l)).map kV))) _
    generalize upd H6 k1 (.tup ((Kb j (j+1+i) (1+l)).map kV))=H7 at s7 f7 ⊢
    have hd7:=s7 _ _ hd6
    have hnone:ZU kvs5 (Kb j (j+1+i) (1+l))=none:=by
     cases hx:ZU kvs5 (Kb j (j+1+i) (1+l)) with
     | none=>rfl
     | some v =>
      rcases only5 j (j+1+i) (1+l) (by rw[hx];simp) with h|h<;>omega
    have s57:=s6.trans s7
    have keepT:∀a xs,H5 a=some (.tup xs)→(upd H7 d (.dT (kvs5++[(Kb j (j+1+i) (1+l),.ref r)]))) a=some (.tup xs):=fun a xs e=>Zhy hd7 _ _ _ (s57 _ _ e)
    have keepT6:∀a xs,H6 a=some (.tup xs)→(upd H7 d (.dT (kvs5++[(Kb j (j+1+i) (1+l),.ref r)]))) a=some (.tup xs):=fun a xs e=>Zhy hd7 _ _ _ (s7 _ _ e)
    have old:∀k v,ZU kvs5 k=some v→ZU (kvs5++[(Kb j (j+1+i) (1+l),V.ref r)]) k=some v:=fun k v h=>by rw[Zdm,h];rfl
    refine⟨d,kvs5,k1,Kb j (j+1+i) (1+l),rfl,rfl,hd7,f7,hnone,ZB (by omega),?_⟩
    refine⟨_,_,rfl,Zb,fun b e h1 h2 h3 m m1 m2=>?_,fun m m1 m2=>?_,fun b e m h=>?_,by rw[Qe,Qy];omega,fun b o hb=>?_,hC5.mono keepT⟩
    ·obtain⟨v,p',ts',x1,x2,x3⟩:=has5 b e h1 h2 h3 m m1 m2
     exact⟨v,p',ts',old _ _ x1,x2.mono keepT,x3⟩
    ·by_cases hm:m≤l
     ·obtain⟨v,p',ts',x1,x2,x3⟩:=cur5 m m1 hm
      exact⟨v,p',ts',old _ _ x1,x2.mono keepT,x3⟩
     ·have em:m=1+l:=by omega
      subst em
      exact⟨.ref r,p6,ts6,by rw[Zdm,hnone,if_pos rfl];rfl,hC6.mono keepT6,hG6⟩
    ·rw[Zdm]at h
     by_cases hk:Kb j (j+1+i) (1+l)=Kb b e m
     ·obtain⟨x1,x2,x3⟩:=Zl7 hk
      exact .inr ⟨x1.symm,x2.symm,by omega⟩
     ·rw[if_neg hk]at h
      rcases only5 b e m (fun z=>h (by rw[z];rfl)) with h|h
      ·exact .inl h
      ·exact .inr ⟨h.1,h.2.1,by omega⟩
    ·rw[Zj (Zg hb st2.d0)];exact s57 _ _ (s5 b o hb)
   ·rintro σ H5 ⟨kvs5,v7',rfl,hd5,has5,cur5,only5,len5,s5,hC5⟩
    refine⟨kvs5,_,_,_,_,rfl,hd5,fun b e h1 h2 h3=>?_,fun b e m h=>?_,by omega,s5,st2.d0⟩
    ·by_cases hb:e-b≤i∨(e-b=i+1∧b<j)
     ·exact has5 b e h1 h2 hb
     ·have eb:b=j:=by omega
      have ee:e=j+1+i:=by omega
      subst eb ee
      exact fun m m1 m2=>cur5 m m1 (by omega)
    ·rcases only5 b e m h with h|h
     ·rcases h with h|h
      ·exact .inl h
      ·exact .inr ⟨h.1,by omega⟩
     ·exact .inr ⟨by omega,by omega⟩
  ·rintro σ H3 ⟨kvs,v4,v5,v6,v7,rfl,st3⟩
   refine⟨kvs,_,_,_,_,_,rfl,st3.hd,fun b e h1 h2 h3=>st3.has b e h1 h2 (by omega),fun b e m h=>?_,by have:=st3.len;omega,st3.sm,st3.d0⟩
   have:=st3.only b e m h
   omega
 ·rintro σ H2 ⟨kvs,v3,v4,v5,v6,v7,rfl,st2⟩
  exact⟨_,rfl,q d kvs H2 st2.hd (fun b e h1 h2=>st2.has b e h1 h2 (.inl (by omega))) st2.sm⟩
def ZjT(K:PySem.W.Frag):Sp:=fun vs H Q _=>∃ (a:Addr) (ns:List Int) (wy:Nat),vs=[.ref a,.int wy]∧SqL K H a (ns.map V.int)∧1≤ns.length∧ns.length≤12∧(∀v∈ns,0≤v∧v≤1000000000)∧2≤wy∧wy≤6 ∧
 ∀ (r:Addr) (x:V) (p:Int) (t:PT) (H':Hp),H r=none→H' r=some (.tup [.int p,x])→TV H' x t→Gr ns wy 0 ns.length 1 p [t]→Zn H H'→Q (.ref r) H'
theorem ZkU(T:Zar K mg)(f_least_groves':∀ns wy,Df P w K mg base 3 "least_groves" ["sizes", "ways"] (ZcT K ns wy)):Df P w K mg base 4 "near_plan" ["sizes", "ways"] (ZjT K):=by
 refine T.t_near_plan.df Zca (fun vs H Q E h=>?_) (fun cdv f A outer s H vs Q E hr h=>?_)
 ·obtain⟨a,ns,wy,rfl,_⟩:=h
  rfl
 obtain⟨a,ns,wy,rfl,hS,n1,n12,hns,w2,w6,q⟩:=h
 have f_least_groves:=f_least_groves' ns wy
 refine⟨_,#[Zh,#[Zcf,#[ZI,(ixD hr),#[Zs,f_least_groves,hr,#[Za,‹0›,#[Za,‹1›,#[Zc]]],(by rfl)],#[Zv,#[Za,#[Ze],#[Za,#[Zk,(ZbC K),(by rfl),T.b.n_len,QB,#[Za,‹0›,#[Zc]]],#[Za,#[Ze],#[Zc]]]]]],#[gT,K,2,#[Zz,#[Zx,2,Zca.nd,(Or.inl rfl)],#[Zz,#[Zx,3,Zca.nd,(Or.inl rfl)],(@ZaH _)]]]],#[Zi,#[Zl,#[Zv,#[Za,‹2›,#[Za,#[ZI,(ixT K),‹3›,#[Ze]],#[Zc]]]]]]],?_⟩
 have hl:(((ns.map V.int).length:Nat):Int)=(ns.length:Int):=by rw[Qb]
 refine⟨_,rfl,_,rfl,a,rfl,hS,n1,n12,hns,w2,w6,fun d kvs H1 hd hall s1=>?_⟩
 refine⟨_,rfl,a,_,rfl,.inl (s1.seq hS),(by show 3≤sizeLine;decide),fun k1 hk1=>?_⟩
 obtain⟨v,p,ts,hlk,⟨c,t,xs,rfl,hc,ht,tv⟩,hG⟩:=hall 0 ns.length (by omega) (Qd _) 1 (by omega) (by omega)
 have s2:=Zd hk1 (.tup ((Kb 0 ns.length 1).map kV))
 have f2:(upd H1 k1 (.tup ((Kb 0 ns.length 1).map kV))) k1=some (.tup ((Kb 0 ns.length 1).map kV)):=Zb
 rw[hl]
 change Zen _ _ (upd H1 k1 (.tup ((Kb 0 ns.length 1).map kV))) _
 generalize upd H1 k1 (.tup ((Kb 0 ns.length 1).map kV))=H2 at s2 f2 ⊢
 refine⟨d,kvs,k1,Kb 0 ns.length 1,_,rfl,rfl,s2 _ _ hd,f2,hlk,c,_,rfl,SqT.of (s2 _ _ hc),rfl,_,_,rfl,_,_,rfl,rfl,?_⟩
 have g1:=hG.l1
 have g2:=hG.lm
 have s12:=s1.trans s2
 cases tv with
 | nil=>simp at g1
 | @cons x u xs us hx hxs =>
  have:us=[]:=QV (by simp at g2;rw[g2];rfl)
  subst this
  refine⟨_,rfl,_,rfl,t,_,_,_,rfl,rfl,SqT.of (s2 _ _ ht),(Zc2 (j:=0) rfl),(by show 2≤sizeLine;decide),fun r hr0=>?_⟩
  have s3:=Zd hr0 (.tup [.int p,x])
  exact q r x p u _ (s12.free hr0) Zb (hx.mono fun a xs e=>s3 _ _ (s2 _ _ e)) hG (s12.trans s3)
def Zjb:Sp:=fun vs H Q _=>∃ (b e wy:Nat),vs=[.int b,.int e,.int wy]∧b<e∧e≤12∧2≤wy∧wy≤6 ∧
 ∀ (r:Addr) (ls:List Addr) (Cn:List (List Nat)) (H':Hp),H' r=some (.lst (ls.map V.ref))→Rd H' ls (Cn.map toI)→(∀c,c∈Cn↔ZbA b e wy c∧2≤c.length)→Cn.length≤2048→Zn H H'→Q (.ref r) H'
theorem Zg4{n:Nat}(h:n≤100000):n<sizeLine:=by rw[sizeLine_eq];omega
theorem Zlh(T:Zar K mg):Df P w K mg base 1 "_law_cuts" ["_law_begin", "_law_end", "_law_ways_here"] Zjb:=by
 refine T.t_l_cuts.df Zcw (fun vs H Q E h=>?_) (fun cdv f A outer s H vs Q E hr h=>?_)
 ·obtain⟨b,e,wy,rfl,_⟩:=h
  rfl
 obtain⟨b,e,wy,rfl,hbe,he12,w2,w6,q⟩:=h
 refine⟨_,#[Zh,#[Zw,3,Zcw.nd,(Or.inl rfl),#[ZG,#[Za,#[ZG,#[Za,‹0›,#[Zc]]],#[Zc]]]],#[Zh,#[Zao,PassesOwn.never,#[Zay,rfl,T.b.n_range,#[Za,#[Zq,ZM,‹0›,#[Ze]],#[Za,‹1›,#[Zc]]]],#[Zx,4,Zcw.nd,(Or.inr rfl)],#[Zi,#[Zw,3,Zcw.nd,(Or.inl rfl),#[Zq,Zdq,‹3›,#[ZaU,ZgW,#[iL,K,‹3›],(fun _ _ _ _=>#[cg,5,ZgW]),(fun _ _ _ _=>(@ZhV _ _ _ #[ZA,ZfO,#[Zk,(ZbC K),(Zad ZgW rfl (by ac_rfl)),T.b.n_len,QB,#[Za,#[cw,5,ZgW],#[Zc]]],#[cv,2,ZgW],(ZF _)])),(fun _ _ _ _=>#[Zq,Zdq,#[cw,5,ZgW],#[ZG,#[Za,#[cv,4,ZgW],#[Zc]]]])]]]]],#[Zi,#[Zl,#[ZaU,ZiY,#[iL,K,‹3›],(fun _ _ _ _=>#[cg,5,ZiY]),(fun _ _ _ _=>(@ZhV _ _ _ #[ZA,ZeM,#[Zk,(ZbC K),(Zad ZiY rfl (by ac_rfl)),T.b.n_len,QB,#[Za,#[cw,5,ZiY],#[Zc]]],#[Ze],(ZF _)])),(fun _ _ _ _=>#[cw,5,ZiY])]]]]],?_⟩
 refine⟨_,rfl,(by show 1≤sizeLine;decide),fun l0 hl0=>⟨(by show 1≤sizeLine;decide),fun r0 hr0=>?_⟩⟩
 have s1:Zn H (upd (upd H l0 (.lst [.int (b:Int)])) r0 (.lst [.ref l0])):=(Zd hl0 _).trans (Zd hr0 _)
 have f1:(upd (upd H l0 (.lst [.int (b:Int)])) r0 (.lst [.ref l0])) r0=some (.lst ([l0].map V.ref)):=Zb
 have g1:Rd (upd (upd H l0 (.lst [.int (b:Int)])) r0 (.lst [.ref l0])) [l0] ([[b]].map toI):=⟨Zd hr0 _ _ _ Zb,trivial⟩
 generalize upd (upd H l0 (.lst [.int (b:Int)])) r0 (.lst [.ref l0])=H1 at s1 f1 g1 ⊢
 refine⟨_,rfl,_,_,rfl,rfl,_,rfl,_,_,rfl,⟨by omega,by omega,by omega,by omega⟩,?_⟩
 rw[show ((e:Int)-((b:Int)+1)).toNat=e-(b+1) by omega]
 refine Zam (fun i σ H2=>∃ (r:Addr) (ls:List Addr) (Cn:List (List Nat)) (v4:Option V),σ=[some (.int b),some (.int e),some (.int wy),some (.ref r),v4]∧H2 r=some (.lst (ls.map V.ref))∧Rd H2 ls (Cn.map toI)∧(∀c,c∈Cn↔ZbA b (b+1+i) wy c)∧Cn.length≤2 ^ i∧Zn H H2) ⟨r0,[l0],[[b]],_,rfl,f1,g1,fun c=>by rw[Nat.add_zero,Zex (by omega),List.mem_singleton],Qd 1,s1⟩ ?_ ?_
 ·rintro i σ H2 hi ⟨r,ls,Cn,v4,rfl,hr2,rd2,hC,hlen,s2⟩
  rw[show ((b:Int)+1+(i:Int))=((b+1+i:Nat):Int) by omega]
  have hp2:2 ^ i≤2 ^ 10:=Nat.pow_le_pow_right (by omega) (by omega)
  have hCl:Cn.length≤1024:=QL hlen hp2
  have hls:ls.length=Cn.length:=by rw[rd2.len,Qb]
  refine⟨_,rfl,_,rfl,r,rfl,⟨_,SqL.of hr2⟩,fun D hD=>?_⟩
  refine Zek (K:=K) (a:=r) (xs:=ls.map V.ref) (fun j ys σ H3=>(∃v:Option V,σ=[some (.int b),some (.int e),some (.int wy),some (.ref r),some (.int ((b+1+i:Nat):Int)),v])∧(∃ms:List Addr,ys=ms.map V.ref∧Rd H3 ms ((((Cn.take j).filter fun c=>decide (c.length<wy)).map (·++[b+1+i])).map toI)∧D ∉ ms∧ms.length≤j)∧j≤ls.length∧H3 D=some (.lst ys)∧Zn H2 H3) ?_ (fun _ _ _ _ h=>SqL.of (h.2.2.2.2 _ _ hr2)) ?_ ?_
  ·exact⟨⟨none,rfl⟩,⟨[],rfl,trivial,(fun h=>by cases h),Qd _⟩,Ql _,Zb,Zd hD _⟩
  ·rintro j x ys σ H3 hx ⟨⟨v,rfl⟩,⟨ms,rfl,rd3,hDm,hml⟩,hj,hD3,s3⟩
   rw[Qr]at hx
   cases hz:ls[j]? with
   | none=>rw[hz]at hx;cases hx
   | some l =>
    rw[hz]at hx
    cases hx
    have hjl:j<ls.length:=(Qn.mp hz).1
    obtain⟨d,hd1,hd⟩:=rd2.at hz
    rw[Qr]at hd1
    cases hc:Cn[j]? with
    | none=>rw[hc]at hd1;cases hd1
    | some c =>
     rw[hc]at hd1
     cases hd1
     have hd3:=s3 _ _ hd
     have hlc:((((toI c).map V.int).length:Nat):Int)=(c.length:Int):=by rw[Qb,Zcy]
     have hcw:c.length≤wy:=((hC c).mp (QA hc)).2.2.2
     have nDl:D≠l:=(Zg hd hD).symm
     refine⟨_,rfl,l,_,rfl,.inl (SqL.of hd3),_,rfl,_,_,rfl,rfl,_,rfl,?_⟩
     by_cases hk:c.length<wy
     ·refine ZfT (by rw[hlc];omega) ?_
      refine⟨_,rfl,_,rfl,(by show 1≤sizeLine;decide),fun l1 hl1=>?_⟩
      have s4:=Zd hl1 (.lst [.int ((b+1+i:Nat):Int)])
      have f4:(upd H3 l1 (.lst [.int ((b+1+i:Nat):Int)])) l1=some (.lst [.int ((b+1+i:Nat):Int)]):=Zb
      generalize upd H3 l1 (.lst [.int ((b+1+i:Nat):Int)])=H4 at s4 f4 ⊢
      refine⟨l,l1,_,_,rfl,rfl,s4 _ _ hd3,f4,(by rw[Qb,Zcy];exact Q7 (ZB (by show c.length+1≤1000;omega))),fun p hp=>?_⟩
      have ecat:(toI c).map V.int++[V.int ((b+1+i:Nat):Int)]=(toI (c++[b+1+i])).map V.int:=by unfold toI;rw[Qh,Qh];rfl
      rw[ecat]
      have s5:=Zd hp (.lst ((toI (c++[b+1+i])).map V.int))
      have hD4:=s4 _ _ hD3
      have hD5:=s5 _ _ hD4
      have nDp:D≠p:=Zg hD4 hp
      refine⟨hD5,(by rw[Qb];exact Zg4 (by omega)),⟨_,rfl⟩,⟨ms++[p],by rw[Qh];rfl,?_,fun h=>?_,by rw[Qe,Qy];omega⟩,hjl,Zb,fun b' o hb=>?_⟩
      ·rw[Qw,hc,QaW,Qh,Qh]
       have ef:([c].filter fun c=>decide (c.length<wy))=[c]:=by simp[hk]
       show Rd _ _ (_++(([c].filter fun c=>decide (c.length<wy)).map (·++[b+1+i])).map toI)
       rw[ef]
       refine Rd.app (Rd.mono (fun l' hl' u hu=>?_) rd3) ⟨?_,trivial⟩
       ·rw[Zj (fun z:l'=D=>hDm (z ▸ hl'))];exact s5 _ _ (s4 _ _ hu)
       ·rw[Zj nDp.symm];exact Zb
      ·rcases Qt.mp h with h|h
       ·exact hDm h
       ·exact nDp (Qg.mp h)
      ·rw[Zj (Zg hb hD)];exact s5 _ _ (s4 _ _ (s3 b' o hb))
     ·refine ZdG (by rw[hlc];omega) ⟨⟨_,rfl⟩,⟨ms,rfl,?_,hDm,by omega⟩,hjl,hD3,s3⟩
      rw[Qw,hc,QaW]
      have ef:([c].filter fun c=>decide (c.length<wy))=[]:=by simp[hk]
      show Rd _ _ ((((_++[c].filter fun c=>decide (c.length<wy))).map (·++[b+1+i])).map toI)
      rw[ef,QH]
      exact rd3
  rintro ys σ H3 ⟨⟨v,rfl⟩,⟨ms,rfl,rd3,hDm,hml⟩,_,hD3,s3⟩
  rw[Qb]at hml rd3
  rw[Qq (by omega)]at rd3
  refine⟨r,D,_,_,rfl,rfl,s3 _ _ hr2,hD3,(by rw[Qb,Qb];exact Q7 (Zg4 (by omega))),fun r2 hr2'=>?_⟩
  rw[← Qh]
  have s4:=Zd hr2' (.lst ((ls++ms).map V.ref))
  refine⟨r2,ls++ms,Cn++(Cn.filter fun c=>decide (c.length<wy)).map (·++[b+1+i]),_,rfl,Zb,?_,fun c=>?_,?_,(s2.trans s3).trans s4⟩
  ·have em:(Cn++(Cn.filter fun c=>decide (c.length<wy)).map (·++[b+1+i])).map toI=Cn.map toI++((Cn.filter fun c=>decide (c.length<wy)).map (·++[b+1+i])).map toI:=Qh
   rw[em]
   exact Rd.app (Rd.mono (fun l _ u hu=>s4 _ _ (s3 _ _ hu)) rd2) (Rd.mono (fun l _ u hu=>s4 _ _ hu) rd3)
  ·rw[show b+1+(i+1)=b+1+i+1 by omega,Zkf (by omega),List.mem_append,hC c]
   refine or_congr Iff.rfl ⟨fun h=>?_,fun ⟨c0,e1,e2,e3⟩=>?_⟩
   ·obtain⟨c0,h0,rfl⟩:=QC.mp h
    obtain⟨h1,h2⟩:=List.mem_filter.mp h0
    exact⟨c0,rfl,(hC c0).mp h1,of_decide_eq_true h2⟩
   ·rw[e1]
    exact QC.mpr ⟨c0,List.mem_filter.mpr ⟨(hC c0).mpr e2,decide_eq_true e3⟩,rfl⟩
  ·rw[Qe,Qb,Nat.pow_succ]
   have:=List.length_filter_le (fun c=>decide (c.length<wy)) Cn
   omega
 ·rintro σ H2 ⟨r,ls,Cn,v4,rfl,hr2,rd2,hC,hlen,s2⟩
  rw[show b+1+(e-(b+1))=e by omega]at hC
  have hp2:2 ^ (e-(b+1))≤2 ^ 11:=Nat.pow_le_pow_right (by omega) (by omega)
  have hCl:Cn.length≤2048:=QL hlen hp2
  have hls:ls.length=Cn.length:=by rw[rd2.len,Qb]
  refine⟨_,rfl,r,rfl,⟨_,SqL.of hr2⟩,fun D hD=>?_⟩
  refine Zek (K:=K) (a:=r) (xs:=ls.map V.ref) (fun j ys σ H3=>(∃v:Option V,σ=[some (.int b),some (.int e),some (.int wy),some (.ref r),v4,v])∧(∃ms:List Addr,ys=ms.map V.ref∧Rd H3 ms (((Cn.take j).filter fun c=>decide (1<c.length)).map toI)∧D ∉ ms∧ms.length≤j)∧j≤ls.length∧H3 D=some (.lst ys)∧Zn H2 H3) ?_ (fun _ _ _ _ h=>SqL.of (h.2.2.2.2 _ _ hr2)) ?_ ?_
  ·exact⟨⟨none,rfl⟩,⟨[],rfl,trivial,(fun h=>by cases h),Qd _⟩,Ql _,Zb,Zd hD _⟩
  ·rintro j x ys σ H3 hx ⟨⟨v,rfl⟩,⟨ms,rfl,rd3,hDm,hml⟩,hj,hD3,s3⟩
   rw[Qr]at hx
   cases hz:ls[j]? with
   | none=>rw[hz]at hx;cases hx
   | some l =>
    rw[hz]at hx
    cases hx
    have hjl:j<ls.length:=(Qn.mp hz).1
    obtain⟨d,hd1,hd⟩:=rd2.at hz
    rw[Qr]at hd1
    cases hc:Cn[j]? with
    | none=>rw[hc]at hd1;cases hd1
    | some c =>
     rw[hc]at hd1
     cases hd1
     have hd3:=s3 _ _ hd
     have hlc:((((toI c).map V.int).length:Nat):Int)=(c.length:Int):=by rw[Qb,Zcy]
     have nDl:D≠l:=(Zg hd hD).symm
     refine⟨_,rfl,l,_,rfl,.inl (SqL.of hd3),_,_,rfl,rfl,_,rfl,?_⟩
     by_cases hk:1<c.length
     ·refine ZfT (by rw[hlc];omega) ⟨_,rfl,hD3,(by rw[Qb];exact Zg4 (by omega)),⟨_,rfl⟩,⟨ms++[l],by rw[Qh];rfl,?_,fun h=>?_,by rw[Qe,Qy];omega⟩,hjl,Zb,fun b' o hb=>?_⟩
      ·rw[Qw,hc,QaW,Qh]
       have ef:([c].filter fun c=>decide (1<c.length))=[c]:=by simp[hk]
       show Rd _ _ (_++([c].filter fun c=>decide (1<c.length)).map toI)
       rw[ef]
       refine Rd.app (Rd.mono (fun l' hl' u hu=>?_) rd3) ⟨?_,trivial⟩
       ·rw[Zj (fun z:l'=D=>hDm (z ▸ hl'))];exact hu
       ·rw[Zj nDl.symm];exact hd3
      ·rcases Qt.mp h with h|h
       ·exact hDm h
       ·exact nDl (Qg.mp h)
      ·rw[Zj (Zg hb hD)];exact s3 b' o hb
     ·refine ZdG (by rw[hlc];omega) ⟨⟨_,rfl⟩,⟨ms,rfl,?_,hDm,by omega⟩,hjl,hD3,s3⟩
      rw[Qw,hc,QaW]
      have ef:([c].filter fun c=>decide (1<c.length))=[]:=by simp[hk]
      show Rd _ _ ((_++[c].filter fun c=>decide (1<c.length)).map toI)
      rw[ef,QH]
      exact rd3
  rintro ys σ H3 ⟨⟨v,rfl⟩,⟨ms,rfl,rd3,hDm,hml⟩,_,hD3,s3⟩
  rw[Qb,Qq (by omega)]at rd3
  refine q D ms _ H3 hD3 rd3 (fun c=>?_) (QL (List.length_filter_le _ _) hCl) (s2.trans s3)
  rw[List.mem_filter,hC c]
  exact and_congr Iff.rfl ⟨fun h=>of_decide_eq_true h,fun h=>decide_eq_true h⟩
def Kp(x y:Nat):List Key:=[.inl (x:Int),.inl (y:Int)]
theorem ZgQ{b e b' e':Nat}(h:Kp b e=Kp b' e'):b=b'∧e=e':=by
 unfold Kp at h
 injection h with h1 h2
 injection h2 with h2 _
 injection h1 with h1
 injection h2 with h2
 omega
mutual
theorem ZhA{n:Nat}:∀t:PT,(∀k∈tLv t,0≤k∧k<(n:Int))→tOk n t
 | .leaf k,h=>h k (by simp[tLv])
 | .node l,h=>ZiV l h
theorem ZiV{n:Nat}:∀l:List PT,(∀k∈ZaC l,0≤k∧k<(n:Int))→Zbx n l
 | [],_=>trivial
 | t::r,h=>⟨ZhA t fun k hk=>h k (by show k∈tLv t++ZaC r;exact QO _ hk),ZiV r fun k hk=>h k (by show k∈tLv t++ZaC r;exact Qf _ hk)⟩
end
mutual
theorem ZeT{w:Nat}:∀t:PT,tPl w t→tGd t∧tLf t=(tLv t).length
 | .leaf k,_=>⟨⟨Qd 1,Qd 2⟩,rfl⟩
 | .node l,h=>by
  obtain⟨h1,h2,h3⟩:2≤l.length∧l.length≤w∧Zb4 w l:=h
  obtain⟨g1,g2⟩:=ZjE l h3
  exact⟨Zjw g1 h1,g2⟩
theorem ZjE{w:Nat}:∀l:List PT,Zb4 w l→ZkV l∧ZbY l=(ZaC l).length
 | [],_=>⟨trivial,rfl⟩
 | t::r,h=>by
  obtain⟨a1,a2⟩:=ZeT t h.1
  obtain⟨b1,b2⟩:=ZjE r h.2
  refine⟨⟨a1,b1⟩,?_⟩
  show tLf t+ZbY r=(tLv t++ZaC r).length
  rw[Qe,a2,b2]
end
theorem Zl5{ns:List Int}{w:Nat}{p:Int}{t:PT}(hn:ns.length≤12)(g:Gr ns w 0 ns.length 1 p [t]):tLv t=Zby 0 ns.length∧tPl w t∧tCo ns t=p∧tOk ns.length t∧tDp t<13∧tNo t≤30:=by
 have e1:tLv t=Zby 0 ns.length:=by
  have h9:tLv t++[]=Zby 0 ns.length:=g.nf.1
  rw[QH]at h9
  exact h9
 have e2:tPl w t:=g.nf.2.1
 have e3:tCo ns t=p:=by
  have h9:tCo ns t+0=p:=g.co
  omega
 obtain⟨⟨c1,c2⟩,c3⟩:=ZeT t e2
 rw[e1,ZaG]at c3
 refine⟨e1,e2,e3,ZhA t fun k hk=>?_,by omega,by omega⟩
 rw[e1]at hk
 unfold Zby at hk
 obtain⟨i,hi,rfl⟩:=QC.mp hk
 have:=QK.mp hi
 omega
def Zm(n b:Nat):List (Nat×Nat):=(List.range b).flatMap fun x=>(List.range (n-x)).map fun i=>(x,x+1+i)
theorem ZbB(n b:Nat):Zm n (b+1)=Zm n b++(List.range (n-b)).map fun i=>(b,b+1+i):=by
 unfold Zm
 rw[QaT,List.flatMap_append]
 simp
theorem Zbi(n:Nat):∀b,(Zm n b).length≤n*b
 | 0=>Qd 0
 | b+1=>by
  have:=Zbi n b
  rw[ZbB,Qe,Qb,QaZ,Nat.mul_succ]
  omega
theorem Za5{n x y:Nat}:(x,y)∈Zm n n↔x<y∧y≤n:=by
 unfold Zm
 rw[List.mem_flatMap]
 constructor
 ·rintro⟨a,h1,h2⟩
  obtain⟨i,h3,h4⟩:=QC.mp h2
  have a1:=QK.mp h1
  have a2:=QK.mp h3
  injection h4 with h5 h6
  omega
 ·rintro⟨h1,h2⟩
  exact⟨x,QK.mpr (by omega),QC.mpr ⟨y-x-1,QK.mpr (by omega),by rw[show x+1+(y-x-1)=y by omega]⟩⟩
def ltP(p q:Nat×Nat):Prop:=p.1<q.1∨(p.1=q.1∧p.2<q.2)
theorem Zk0(n b:Nat):(Zm n b).Pairwise ltP:=by
 unfold Zm
 rw[List.pairwise_flatMap]
 refine⟨fun a _=>?_,?_⟩
 ·refine List.Pairwise.map _ (fun i j h=>.inr ⟨rfl,?_⟩) List.pairwise_lt_range
  show a+1+i<a+1+j
  omega
 ·refine List.pairwise_lt_range.imp fun {a c} h x hx y hy=>?_
  obtain⟨i,_,rfl⟩:=QC.mp hx
  obtain⟨j,_,rfl⟩:=QC.mp hy
  exact .inl h
def tri(pf:Nat→Nat→Int)(p:Nat×Nat):Int×Int×Int:=((p.1:Int),(p.2:Int),pf p.1 p.2)
def q3(e:Int×Int×Int):List Key:=[.inl e.1,.inl e.2.1,.inl e.2.2]
def q2(p:Nat×Nat):List Key:=Kp p.1 p.2
def ZmX(K:PySem.W.Frag):Sp:=fun vs H Q _=>∃ (a:Addr) (ns:List Int) (wy:Nat),vs=[.ref a,.int wy]∧SqL K H a (ns.map V.int)∧1≤ns.length∧ns.length≤12∧(∀v∈ns,0≤v∧v≤1000000000)∧2≤wy∧wy≤6 ∧
 ∀ (r:Addr) (ts:ZaX) (pf:Nat→Nat→Int) (H':Hp),H r=none→H' r=some (.lst (ZS ts))→AtT H' ts→ts.map (·.2)=((Zm ns.length ns.length).map (tri pf)).map q3→(∀b e,b<e→e≤ns.length→∃t,Gr ns wy b e 1 (pf b e) [t])→Zn H H'→Q (.ref r) H'
theorem Znf(T:Zar K mg)(f_least_groves':∀ns wy,Df P w K mg base 3 "least_groves" ["sizes", "ways"] (ZcT K ns wy)):Df P w K mg base 4 "prices_for" ["sizes", "ways"] (ZmX K):=by
 refine T.t_prices_for.df ZbK (fun vs H Q E h=>?_) (fun cdv f A outer s H vs Q E hr h=>?_)
 ·obtain⟨a,ns,wy,rfl,_⟩:=h
  rfl
 obtain⟨a,ns,wy,rfl,hS,n1,n12,hns,w2,w6,q⟩:=h
 have f_least_groves:=f_least_groves' ns wy
 refine⟨_,#[Zh,#[Zw,2,ZbK.nd,(Or.inr rfl),#[Zs,f_least_groves,hr,#[Za,‹0›,#[Za,‹1›,#[Zc]]],(by rfl)]],#[Zh,#[Zw,3,ZbK.nd,(Or.inr rfl),#[Zk,(ZbC K),(by rfl),T.b.n_len,QB,#[Za,‹0›,#[Zc]]]],#[Zi,#[Zl,(@Zgn _ _ _ _ _ _ _ _ _ _ _ _ _ _ _ _ Zd5 rfl rfl rfl #[Zav,T.b.n_range,#[Za,#[pv,3,(Or.inr (Or.inl rfl))],#[Zc]]] (fun _ _ _ _=>#[cg,4,Zd5]) (fun _ _ _ _=>#[Zay,(Zad Zd5 rfl (by ac_rfl)),T.b.n_range,#[Za,#[Zq,ZM,#[cw,4,Zd5],#[Ze]],#[Za,#[Zq,ZM,#[cv,3,Zd5],#[Ze]],#[Zc]]]]) (fun _ _ _ _=>#[cg,5,Zd5]) (fun _ _ _ _=>#[Zv,#[Za,#[cw,4,Zd5],#[Za,#[cw,5,Zd5],#[Za,#[ZI,(ixT K),#[ZI,(ixD hr),#[cv,2,Zd5],#[Zv,#[Za,#[cw,4,Zd5],#[Za,#[cw,5,Zd5],#[Za,#[Ze],#[Zc]]]]]],#[Ze]],#[Zc]]]]]) (by intro _;rfl) (by intro _ _ _ _ _;rfl))]]]],?_⟩
 have hl:(((ns.map V.int).length:Nat):Int)=(ns.length:Int):=by rw[Qb]
 refine⟨_,rfl,_,rfl,a,rfl,hS,n1,n12,hns,w2,w6,fun d kvs H1 hd hall s1=>?_⟩
 refine⟨_,rfl,a,_,rfl,.inl (s1.seq hS),?_⟩
 simp only[hl]
 obtain⟨pf,hpf⟩:∃pf:Nat→Nat→Int,∀b e,b<e→e≤ns.length→∃ (c y:Addr) (t:PT),ZU kvs (Kb b e 1)=some (.ref c)∧H1 c=some (.tup [.int (pf b e),.ref y])∧Gr ns wy b e 1 (pf b e) [t]:=by
  have hx:∀b e,b<e→e≤ns.length→∃p:Int,∃ (c y:Addr) (t:PT),ZU kvs (Kb b e 1)=some (.ref c)∧H1 c=some (.tup [.int p,.ref y])∧Gr ns wy b e 1 p [t]:=fun b e h1 h2=>by
   obtain⟨v,p,ts,x1,⟨c,y,xs,rfl,x2,_,_⟩,x3⟩:=hall b e h1 h2 1 (Qd 1) (by omega)
   have l1:=x3.l1
   have l2:=x3.lm
   cases ts with
   | nil=>simp at l1
   | cons t r =>
    have:r=[]:=by simpa using l2
    subst this
    exact⟨p,c,y,t,x1,x2,x3⟩
  refine⟨fun b e=>if h:b<e∧e≤ns.length then Classical.choose (hx b e h.1 h.2) else 0,fun b e h1 h2=>?_⟩
  have e9:(if h:b<e∧e≤ns.length then Classical.choose (hx b e h.1 h.2) else 0)=Classical.choose (hx b e h1 h2):=dif_pos ⟨h1,h2⟩
  simp only[e9]
  exact Classical.choose_spec (hx b e h1 h2)
 refine⟨_,rfl,_,rfl,by omega,by omega,fun D hD=>?_⟩
 rw[QaF]
 refine ZdH (fun b ys σ H2=>(∃v1 v2:Option V,σ=[some (.ref a),some (.int wy),some (.ref d),some (.int (ns.length:Int)),v1,v2])∧(∃ts:ZaX,ys=ZS ts∧AtT H2 ts∧ts.map (·.2)=((Zm ns.length b).map (tri pf)).map q3)∧b≤ns.length∧H2 D=some (.lst ys)∧Zn H1 H2) ?_ ?_ ?_
 ·exact⟨⟨none,none,rfl⟩,⟨[],rfl,(fun t h=>by cases h),rfl⟩,Ql _,Zb,Zd hD _⟩
 ·rintro b ys σ H2 hb ⟨⟨v1,v2,rfl⟩,⟨ts,rfl,hat,hE⟩,hb',hD2,s2⟩
  rw[show ((0:Int)+(b:Int))=(b:Int) by omega]
  refine⟨_,rfl,_,_,rfl,rfl,_,rfl,_,_,rfl,rfl,_,_,rfl,⟨by omega,by omega,by omega,by omega⟩,?_⟩
  rw[show ((ns.length:Int)+1-((b:Int)+1)).toNat=ns.length-b by omega]
  refine ZdI (fun i ys σ H3=>(∃v2:Option V,σ=[some (.ref a),some (.int wy),some (.ref d),some (.int (ns.length:Int)),some (.int (b:Int)),v2])∧(∃ts:ZaX,ys=ZS ts∧AtT H3 ts∧ts.map (·.2)=((Zm ns.length b++(List.range i).map fun i=>(b,b+1+i)).map (tri pf)).map q3)∧i≤ns.length-b∧H3 D=some (.lst ys)∧Zn H1 H3) ⟨⟨_,rfl⟩,⟨ts,rfl,hat,by rw[hE];simp⟩,Ql _,hD2,s2⟩ ?_ ?_
  ·rintro i ys σ H3 hi ⟨⟨v2',rfl⟩,⟨ts3,rfl,hat3,hE3⟩,hi',hD3,s3⟩
   rw[show ((b:Int)+1+(i:Int))=((b+1+i:Nat):Int) by omega]
   obtain⟨c,y,t,x1,x2,x3⟩:=hpf b (b+1+i) (by omega) (by omega)
   have htl:ts3.length≤156:=by
    have h9:=congrArg List.length hE3
    rw[Qb,Qb,Qb,Qe,Qb,QaZ]at h9
    have h8:=Zbi ns.length b
    have h7:ns.length*b≤12*12:=Nat.mul_le_mul n12 (by omega)
    omega
   refine⟨_,rfl,_,rfl,_,rfl,_,rfl,_,rfl,(by show 3≤sizeLine;decide),fun k1 hk1=>?_⟩
   have s4:=Zd hk1 (.tup ((Kb b (b+1+i) 1).map kV))
   have f4:(upd H3 k1 (.tup ((Kb b (b+1+i) 1).map kV))) k1=some (.tup ((Kb b (b+1+i) 1).map kV)):=Zb
   change Zen _ _ (upd H3 k1 (.tup ((Kb b (b+1+i) 1).map kV))) _
   generalize upd H3 k1 (.tup ((Kb b (b+1+i) 1).map kV))=H4 at s4 f4 ⊢
   have s14:=s3.trans s4
   refine⟨d,kvs,k1,Kb b (b+1+i) 1,_,rfl,rfl,s14 _ _ hd,f4,x1,c,_,_,_,rfl,rfl,SqT.of (s14 _ _ x2),rfl,(by show 3≤sizeLine;decide),fun n hn=>?_⟩
   have sn:=Zd hn (.tup [.int (b:Int),.int ((b+1+i:Nat):Int),.int (pf b (b+1+i))])
   have hD4:=s4 _ _ hD3
   have hD5:=sn _ _ hD4
   have nDn:D≠n:=Zg hD4 hn
   refine⟨hD5,(by rw[ZT];exact ZB (by omega)),⟨_,rfl⟩,⟨ts3++[(n,q3 (tri pf (b,b+1+i)))],by unfold ZS;rw[Qh];rfl,fun t ht=>?_,?_⟩,by omega,Zb,fun b' o hb=>?_⟩
   ·rcases Qt.mp ht with ht|ht
    ·exact Zau hD5 _ _ _ (sn _ _ (s4 _ _ (hat3 t ht)))
    ·rw[Qg.mp ht,Zj nDn.symm];exact Zb
   ·rw[Qh,hE3,QaT]
    simp[List.map_append]
   ·rw[Zj (Zg hb hD)];exact sn _ _ (s14 b' o hb)
  ·rintro ys σ H3 ⟨⟨v2',rfl⟩,⟨ts3,rfl,hat3,hE3⟩,_,hD3,s3⟩
   exact⟨⟨_,_,rfl⟩,⟨ts3,rfl,hat3,by rw[ZbB];exact hE3⟩,hb,hD3,s3⟩
 ·rintro ys σ H2 ⟨⟨v1,v2,rfl⟩,⟨ts,rfl,hat,hE⟩,_,hD2,s2⟩
  exact q D ts pf H2 (s1.free hD) hD2 hat hE (fun b e h1 h2=>by obtain⟨_,_,t,_,_,g⟩:=hpf b e h1 h2;exact⟨t,g⟩) (s1.trans s2)
def ZjF:Sp:=fun vs H Q _=>∃ (n:Nat),vs=[.int n]∧n≤12 ∧
 ∀ (r:Addr) (ts:ZaX) (H':Hp),H r=none→H' r=some (.lst (ZS ts))→AtT H' ts→ts.map (·.2)=(Zm n n).map q2→Zn H H'→Q (.ref r) H'
theorem Zlx(T:Zar K mg):Df P w K mg base 1 "_law_stretches" ["_law_many_here"] ZjF:=by
 refine T.t_l_stretches.df Zbk (fun vs H Q E h=>?_) (fun cdv f A outer s H vs Q E hr h=>?_)
 ·obtain⟨n,rfl,_⟩:=h
  rfl
 obtain⟨n,rfl,n12,q⟩:=h
 refine⟨_,#[Zh,#[Zw,1,Zbk.nd,(Or.inl rfl),#[ZG,#[Zc]]],#[Zh,#[Zao,PassesOwn.never,#[Zav,T.b.n_range,#[Za,‹0›,#[Zc]]],#[Zx,2,Zbk.nd,(Or.inr rfl)],#[Zi,#[Zbz,#[ZdL,QF,Qan,Qao,ZiD,‹1›,#[Za,#[ZaU,Zlo,#[Zay,rfl,T.b.n_range,#[Za,#[Zq,ZM,#[pv,2,(Or.inr (Or.inl rfl))],#[Ze]],#[Za,#[Zq,ZM,‹0›,#[Ze]],#[Zc]]]],(fun _ _ _ _=>#[cg,3,Zlo]),(fun _ _ _ _=>(@ZaI _)),(fun _ _ _ _=>#[Zv,#[Za,#[cv,2,Zlo],#[Za,#[cw,3,Zlo],#[Zc]]]])],#[Zc]]]]]],#[Zi,#[Zl,‹1›]]]],?_⟩
 refine⟨(by show 0≤sizeLine;decide),fun fo hfo=>?_⟩
 have s1:=Zd hfo (.lst [])
 have f1:(upd H fo (.lst [])) fo=some (.lst (ZS [])):=Zb
 generalize upd H fo (.lst [])=H1 at s1 f1 ⊢
 refine⟨_,rfl,_,rfl,by omega,by omega,?_⟩
 rw[QaF]
 refine Zam (fun b σ H2=>∃ (v2:Option V) (ts:ZaX),σ=[some (.int (n:Int)),some (.ref fo),v2]∧H2 fo=some (.lst (ZS ts))∧AtT H2 ts∧ts.map (·.2)=(Zm n b).map q2∧Zn H H2) ⟨_,[],rfl,f1,(fun t h=>by cases h),rfl,s1⟩ ?_ ?_
 ·rintro b σ H2 hb ⟨v2,ts,rfl,f2,hat,hE,s2⟩
  rw[show ((0:Int)+(b:Int))=(b:Int) by omega]
  have htl:ts.length≤144:=by
   have h9:=congrArg List.length hE
   rw[Qb,Qb]at h9
   have h8:=Zbi n b
   have h7:n*b≤12*12:=Nat.mul_le_mul n12 (by omega)
   omega
  refine⟨_,rfl,.inl ⟨rfl,_,SqL.of f2⟩,_,rfl,_,_,rfl,rfl,_,rfl,_,_,rfl,rfl,_,_,rfl,⟨by omega,by omega,by omega,by omega⟩,fun D hD=>?_⟩
  rw[show ((n:Int)+1-((b:Int)+1)).toNat=n-b by omega]
  have nfD:fo≠D:=Zg f2 hD
  refine Zb7 (fun i ys σ H3=>(∃v:Option V,σ=[some (.int (n:Int)),some (.ref fo),some (.int (b:Int)),v])∧(∃us:ZaX,ys=ZS us∧AtT H3 us∧us.length=i∧us.map (·.2)=((List.range i).map fun i=>(b,b+1+i)).map q2)∧i≤n-b∧H3 D=some (.lst ys)∧Zn H2 H3) ?_ ?_ ?_
  ·exact⟨⟨none,rfl⟩,⟨[],rfl,(fun t h=>by cases h),rfl,rfl⟩,Ql _,Zb,Zd hD _⟩
  ·rintro i ys σ H3 hi ⟨⟨v,rfl⟩,⟨us,rfl,hau,hul,hEu⟩,hi',hD3,s3⟩
   rw[show ((b:Int)+1+(i:Int))=((b+1+i:Nat):Int) by omega]
   refine⟨_,rfl,_,rfl,(by show 2≤sizeLine;decide),fun m hm=>?_⟩
   have sn:=Zd hm (.tup [.int (b:Int),.int ((b+1+i:Nat):Int)])
   have hD4:=sn _ _ hD3
   have nDm:D≠m:=Zg hD3 hm
   refine⟨hD4,(by rw[ZT,hul];exact ZB (by omega)),⟨_,rfl⟩,⟨us++[(m,q2 (b,b+1+i))],by unfold ZS;rw[Qh];rfl,fun t ht=>?_,by rw[Qe,Qy];omega,?_⟩,by omega,Zb,fun b' o hb=>?_⟩
   ·rcases Qt.mp ht with ht|ht
    ·exact Zau hD4 _ _ _ (sn _ _ (hau t ht))
    ·rw[Qg.mp ht,Zj nDm.symm];exact Zb
   ·rw[Qh,hEu,QaT,Qh,Qh]
    rfl
   ·rw[Zj (Zg hb hD)];exact sn _ _ (s3 b' o hb)
  rintro ys σ H3 ⟨⟨v,rfl⟩,⟨us,rfl,hau,hul,hEu⟩,_,hD3,s3⟩
  have f3:=s3 _ _ f2
  refine⟨fo,D,_,_,rfl,rfl,f3,hD3,(by rw[ZT,ZT];exact Q7 (ZB (by omega))),?_⟩
  have e9:ZS ts++ZS us=ZS (ts++us):=by unfold ZS;rw[Qh]
  rw[e9]
  refine⟨_,ts++us,rfl,Zb,fun t ht=>?_,?_,fun b' o hb=>by rw[Zj (Zg hb hfo)];exact s3 _ _ (s2 b' o hb)⟩
  ·rcases Qt.mp ht with ht|ht
   ·exact Zau f3 _ _ _ (s3 _ _ (hat t ht))
   ·exact Zau f3 _ _ _ (hau t ht)
  ·rw[Qh,hE,hEu,ZbB,Qh]
 ·rintro σ H2 ⟨v2,ts,rfl,f2,hat,hE,s2⟩
  exact⟨_,rfl,q fo ts H2 hfo f2 hat hE s2⟩
theorem ZdS{n:Nat}(h:n≤12):(Zm n n).length≤144:=by
 have h8:=Zbi n n
 have h7:n*n≤12*12:=Nat.mul_le_mul h h
 omega
theorem Znb{fs:List Int}{k:Int}(h:k ∉ fs):((fs.map PyData.int).any fun e=>PyData.eqv e (.int k))=false:=by
 rw[List.any_eq_false]
 intro e he
 obtain⟨x,hx,rfl⟩:=QC.mp he
 have:x≠k:=fun z=>h (z ▸ hx)
 simp[PyData.eqv,this]
theorem ZhJ{n d:Nat}(h:d<n):¬ (HT.sIx n 0 none=0∧HT.sIx n n (some (d:Int))=n):=by
 rw[HT.sIx_nat,HT.sIx_none];omega
theorem ZlV{c A B:Prop}[Decidable c](hc:¬ c)(h:A):if (!decide c)=true then A else B:=by
 rw[if_pos (by rw[decide_eq_false hc];rfl)];exact h
mutual
def okD(w:Nat):PyData→Prop
 | .int _=>True
 | .tuple l=>2≤l.length∧l.length≤w∧Za7 w l
 | _=>False
def Za7(w:Nat):List PyData→Prop
 | []=>True
 | d::r=>okD w d∧Za7 w r
end
mutual
def lvD:PyData→List Int
 | .int k=>[k]
 | .tuple l=>Za2 l
 | _=>[]
def Za2:List PyData→List Int
 | []=>[]
 | d::r=>lvD d++Za2 r
end
mutual
def lfD:PyData→Nat
 | .list l=>Za8 l
 | .tuple l=>Za8 l
 | _=>1
def Za8:List PyData→Nat
 | []=>0
 | d::r=>lfD d+Za8 r
end
mutual
def ndD:PyData→Nat
 | .list l=>Zbs l+1
 | .tuple l=>Zbs l+1
 | _=>1
def Zbs:List PyData→Nat
 | []=>0
 | d::r=>ndD d+Zbs r
end
theorem Zcj:∀a b:List PyData,Za2 (a++b)=Za2 a++Za2 b
 | [],b=>rfl
 | d::r,b=>by show lvD d++Za2 (r++b)=(lvD d++Za2 r)++Za2 b;rw[Zcj r b,QG]
theorem Zd1:∀a b:List PyData,Za8 (a++b)=Za8 a+Za8 b
 | [],b=>by show Za8 b=0+Za8 b;omega
 | d::r,b=>by show lfD d+Za8 (r++b)=lfD d+Za8 r+Za8 b;rw[Zd1 r b];omega
theorem Zc4:∀a b:List PyData,Zbs (a++b)=Zbs a+Zbs b
 | [],b=>by show Zbs b=0+Zbs b;omega
 | d::r,b=>by show ndD d+Zbs (r++b)=ndD d+Zbs r+Zbs b;rw[Zc4 r b];omega
theorem ZbS(w:Nat):∀a b:List PyData,Za7 w (a++b)↔Za7 w a∧Za7 w b
 | [],b=>by show Za7 w b↔True∧Za7 w b;simp
 | d::r,b=>by show okD w d∧Za7 w (r++b)↔(okD w d∧Za7 w r)∧Za7 w b;rw[ZbS w r b,and_assoc]
mutual
theorem ZmS:∀d:PyData,(lvD d).length≤lfD d
 | .int k=>Qd 1
 | .tuple l=>ZiR l
 | .none=>Ql _
 | .bool _=>Ql _
 | .str _=>Ql _
 | .list _=>Ql _
 | .dict _=>Ql _
theorem ZiR:∀l:List PyData,(Za2 l).length≤Za8 l
 | []=>Qd 0
 | d::r=>by
  have:=ZmS d
  have:=ZiR r
  show (lvD d++Za2 r).length≤lfD d+Za8 r
  rw[Qe];omega
end
theorem ZjO(d:PyData):1≤ndD d:=by cases d<;>(first|exact Qd 1|exact QaB 1 _)
def InR(n:Nat)(l:List Int):Prop:=∀k∈l,0≤k∧k<(n:Int)
theorem ZhN{n:Nat}{l:List Int}(nd:l.Nodup)(h:InR n l):l.length≤n:=by
 have:=List.Nodup.length_le_of_subset nd (l₂:=(List.range n).map fun i:Nat=>(i:Int)) fun k hk=>by
  obtain⟨h1,h2⟩:=h k hk
  exact QC.mpr ⟨k.toNat,QK.mpr (by omega),by omega⟩
 simpa using this
def ZgY:Sp:=fun vs H Q _=>∃ (x:V) (d:PyData),vs=[x]∧DH H x d∧Q (.bl (ZJ d)) H
theorem Zh0(T:Zar K mg):Df P w K mg base 1 "is_number" ["thing"] ZgY:=by
 refine T.t_is_number.df Zda (fun vs H Q E h=>?_) (fun cdv f A outer s H vs Q E hr h=>?_)
 ·obtain⟨x,d,rfl,_⟩:=h
  rfl
 obtain⟨x,d,rfl,hd,q⟩:=h
 refine⟨_,#[Zi,#[Zl,#[Zdt,#[Zk,(Zcs K),(by rfl),T.b.n_isinstance,boot_isinstance,#[Za,‹0›,#[Za,#[Za6,T.b.n_int,boot_int,(by rfl)],#[Zc]]]],(@Zej _ _ _ _ _ (@Zhd _ _ _ _ #[Zk,(Zcs K),(by rfl),T.b.n_isinstance,boot_isinstance,#[Za,‹0›,#[Za,#[Za6,T.b.n_bool,boot_bool,(by rfl)],#[Zc]]]]))]]],?_⟩
 refine⟨_,rfl,_, "int",_,_,rfl,hd.ty,hd.kI K,_,rfl,?_⟩
 cases hI:ZJ d with
 | true =>
  have hB:Zcc d=false:=by cases d<;>first|rfl|cases hI
  rw[hI]at q
  refine ZY ⟨_,rfl,_, "bool",_,_,rfl,hd.ty,hd.kB K,_,rfl,?_⟩
  rw[hB];exact q
 | false =>
  rw[hI]at q
  cases hB:Zcc d with
  | true =>
   refine ZY ⟨_,rfl,_, "bool",_,_,rfl,hd.ty,hd.kB K,_,rfl,?_⟩
   rw[hB];exact q
  | false=>exact ZaB q
def Znt(n:Nat):Sp:=fun vs H Q _=>∃ (a fo:Addr) (ns fs:List Int) (wy:Nat) (x:V) (d:PyData),vs=[.ref a,.int wy,x,.ref fo]∧H a=some (.lst (ns.map V.int))∧H fo=some (.lst (fs.map V.int))∧a≠fo∧ns.length≤100∧DH (off fo H) x d∧d.depth<n∧fs.Nodup∧InR ns.length fs ∧
 ∀ (b:Bool) (fs':List Int) (H':Hp),H' fo=some (.lst (fs'.map V.int))→(∀c o,H c=some o→c≠fo→H' c=some o)→fs'.Nodup→InR ns.length fs'→(b=true↔okD wy d∧(fs++lvD d).Nodup∧InR ns.length (lvD d))→(b=true→fs'=fs++lvD d)→Q (.bl b) H'
theorem ZmP(fs:List Int)(k:Int):((fs.map PyData.int).any fun e=>PyData.eqv e (.int k))=decide (k∈fs):=by
 by_cases h:k∈fs
 ·rw[decide_eq_true h,List.any_eq_true]
  exact⟨.int k,QC.mpr ⟨k,h,rfl⟩,by simp[PyData.eqv]⟩
 ·rw[decide_eq_false h,Znb h]
theorem Zgc:∀ {l:List PyData} {i:Nat} {d:PyData},l[i]? = some d→d.depth≤PyData.depthAll l
 | [],i,d,h=>by simp at h
 | a::r,0,d,h=>by
  have:a=d:=by simpa using h
  subst this
  show a.depth≤max a.depth (PyData.depthAll r)
  omega
 | a::r,i+1,d,h=>by
  have:=Zgc (l:=r) (i:=i) (by simpa using h)
  show d.depth≤max a.depth (PyData.depthAll r)
  omega
theorem ZlF(T:Zar K mg)(f_is_number:Df P w K mg base 1 "is_number" ["thing"] ZgY):∀n:Nat,Df P w K mg base (n+1) "finds_rows" ["sizes", "ways", "thing", "found"] (Znt n)
 | 0=>by
  refine T.t_finds_rows.df ZbI (fun vs H Q E h=>?_) (fun cdv f A outer s H vs Q E hr h=>?_)
  ·obtain⟨a,fo,ns,fs,wy,x,d,rfl,_⟩:=h
   rfl
  obtain⟨a,fo,ns,fs,wy,x,d,rfl,hS,hF,naf,n12,hT,hdp,_⟩:=h
  exact absurd hdp (by omega)
 | n+1=>by
  have f_finds_rows:=ZlF T f_is_number n
  refine T.t_finds_rows.df ZbI (fun vs H Q E h=>?_) (fun cdv f A outer s H vs Q E hr h=>?_)
  ·obtain⟨a,fo,ns,fs,wy,x,d,rfl,_⟩:=h
   rfl
  obtain⟨a,fo,ns,fs,wy,x,d,rfl,hS,hF,naf,n12,hT,hdp,nd,inr,q⟩:=h
  refine⟨_,#[Zh,#[ZZ,#[Zaf,#[Zs,f_is_number,hr,#[Za,‹2›,#[Zc]],(by rfl)]],#[Zh,#[ZZ,(@PW.pt _ _ _ #[Zcd,#[ZA,ZfO,‹2›,#[Ze],(ZF _)],#[Zcd,#[ZA,ZlE,‹2›,#[Zk,(ZbC K),(by rfl),T.b.n_len,QB,#[Za,‹0›,#[Zc]]],(ZF _)],#[ZbJ,#[ZA,(inD K hr),‹2›,‹3›,(by with_unfolding_all rfl)]]]]),#[Zi,#[Zl,#[Zae]]],#[ZD]],#[Zh,#[Zbz,#[ZdL,QF,Qap,Qaq,Zbg,‹3›,#[Za,‹2›,#[Zc]]]],#[Zi,#[Zl,#[Zae]]]]],#[ZD]],#[Zh,#[ZZ,(@PW.pt _ _ _ #[Zcd,#[ZaO,#[Zaf,#[Zk,(Zcs K),(by rfl),T.b.n_isinstance,boot_isinstance,#[Za,‹2›,#[Za,#[Za6,T.b.n_tuple,boot_tuple,(by rfl)],#[Zc]]]]]],#[Zcd,#[ZA,ZfO,#[Zk,(ZbC K),(by rfl),T.b.n_len,QB,#[Za,‹2›,#[Zc]]],#[Ze],(ZF _)],#[ZbJ,#[ZA,ZeM,#[Zk,(ZbC K),(by rfl),T.b.n_len,QB,#[Za,‹2›,#[Zc]]],‹1›,(ZF _)]]]]),#[Zi,#[Zl,#[Zae]]],#[ZD]],#[Zh,#[Zao,PassesOwn.never,(@iT _ K _ _ _ ‹2› (by rfl)),#[Zx,4,ZbI.nd,(Or.inl rfl)],#[Zi,#[ZZ,#[ZaO,#[Zaf,#[Zs,f_finds_rows,hr,#[Za,‹0›,#[Za,‹1›,#[Za,‹4›,#[Za,‹3›,#[Zc]]]]],(by rfl)]]],#[Zi,#[Zl,#[Zae]]],#[ZD]]]],#[Zi,#[Zl,#[Zae]]]]]],?_⟩
  have hD:DH H x d:=hT.on
  have fl:=ZhN nd inr
  have hls:(((ns.map V.int).length:Nat):Int)=(ns.length:Int):=by rw[Qb]
  refine⟨_,rfl,x,d,rfl,hD,_,rfl,?_⟩
  cases hI:ZJ d with
  | true =>
   obtain⟨k,rfl,rfl⟩:=hD.int_inv hI
   have no:¬ (0≤k∧k<(ns.length:Int))∨k∈fs→Q (.bl false) H:=fun h=>q false fs H hF (fun c o hc _=>hc) nd inr ⟨fun z=>(by cases z),fun ⟨_,z1,z2⟩=>by
    rcases h with h|h
    ·exact absurd (z2 k (by show k∈[k];simp)) h
    ·have:=(List.nodup_append.mp z1).2.2 k h k (by show k∈[k];simp)
     exact absurd rfl this⟩ (fun z=>(by cases z))
   refine ZY ⟨_,rfl,_,_,rfl,rfl,_,rfl,?_⟩
   by_cases h1:k<0
   ·exact ZfT h1 (ZY (no (.inl (by omega))))
   refine ZdG h1 ⟨_,rfl,_,rfl,a,_,rfl,.inl (SqL.of hS),_,_,rfl,rfl,_,rfl,?_⟩
   by_cases h2:k≥(((ns.map V.int).length:Nat):Int)
   ·exact ZfT h2 (ZY (no (.inl (by rw[hls]at h2;omega))))
   refine ZdG h2 ⟨_,rfl,_,rfl,fo,_,fs.map PyData.int,.int k,rfl,SqL.of hF,ZdT fs,.int k,Zel fs,(by simp[SeqAt.shaped,PyData.canLay0,PyData.depth]),(by simp[PyData.depth]),_,rfl,?_⟩
   rw[ZmP]
   by_cases h3:k∈fs
   ·exact ZfT h3 (no (.inr h3))
   refine ZdG h3 ⟨_,rfl,.inl ⟨rfl,_,SqL.of hF⟩,_,rfl,fo,_,_,rfl,rfl,hF,(by rw[Qb];exact ZB (by omega)),?_⟩
   rw[hls]at h2
   have nd2:(fs++[k]).Nodup:=List.nodup_append.mpr ⟨nd,by simp,fun x hx y hy e=>h3 (by rw[Qg.mp hy]at e;exact e ▸ hx)⟩
   have in2:InR ns.length (fs++[k]):=fun z hz=>by
    rcases Qt.mp hz with hz|hz
    ·exact inr z hz
    ·rw[Qg.mp hz];omega
   refine q true (fs++[k]) _ ?_ (fun c o hc nc=>by rw[Zj nc];exact hc) nd2 in2 ⟨fun _=>⟨trivial,nd2,fun z hz=>in2 z (Qf _ hz)⟩,fun _=>rfl⟩ (fun _=>rfl)
   rw[Zb,Qh];rfl
  | false =>
   refine ZaB ?_
   refine⟨_,rfl,_, "tuple",_,_,rfl,hD.ty,hD.kT K,_,rfl,?_⟩
   cases hTu:ZcP d with
   | false =>
    refine ZY (ZY (q false fs H hF (fun c o hc _=>hc) nd inr ⟨fun z=>(by cases z),fun ⟨z,_⟩=>?_⟩ (fun z=>(by cases z))))
    cases d with
    | int _=>cases hI
    | tuple _=>cases hTu
    | none=>exact z.elim
    | bool _=>exact z.elim
    | str _=>exact z.elim
    | list _=>exact z.elim
    | dict _=>exact z.elim
   | true =>
    obtain⟨b,xs,ds,rfl,rfl,hb,hs⟩:=hT.tup_inv hTu
    have hb':=Zfk _ _ hb
    have hxl:=hs.length
    have no:(¬ (2≤ds.length∧ds.length≤wy))→Q (.bl false) H:=fun h=>q false fs H hF (fun c o hc _=>hc) nd inr ⟨fun z=>(by cases z),fun ⟨z,_⟩=>absurd ⟨z.1,z.2.1⟩ h⟩ (fun z=>(by cases z))
    refine ZaB ⟨_,rfl,b,_,rfl,.inr (SqT.of hb'),_,_,rfl,rfl,_,rfl,?_⟩
    by_cases h1:((xs.length:Nat):Int)<2
    ·exact ZfT h1 (ZY (no (by omega)))
    refine ZdG h1 ⟨_,rfl,b,_,rfl,.inr (SqT.of hb'),_,rfl,_,_,rfl,rfl,_,rfl,?_⟩
    by_cases h2:((xs.length:Nat):Int)>(wy:Int)
    ·exact ZfT h2 (no (by omega))
    refine ZdG h2 ?_
    refine⟨_,rfl,b,rfl,⟨_,SqT.of hb'⟩,?_⟩
    have nbf:b≠fo:=fun z=>by rw[z]at hb;unfold off at hb;rw[if_pos rfl]at hb;cases hb
    refine Ze0 (K:=K) (a:=b) (xs:=xs) (fun i σ H2=>∃ (fs2:List Int) (v:Option V),σ=[some (.ref a),some (.int wy),some (.ref b),some (.ref fo),v]∧i≤xs.length∧H2 fo=some (.lst (fs2.map V.int))∧fs2=fs++Za2 (ds.take i)∧fs2.Nodup∧InR ns.length fs2∧Za7 wy (ds.take i)∧(∀c o,H c=some o→c≠fo→H2 c=some o)) ⟨fs,_,rfl,Ql _,hF,by rw[Qax];show fs=fs++[];rw[QH],nd,inr,by rw[Qax];trivial,fun c o hc _=>hc⟩ (fun _ _ _ _ ⟨_,_,_,_,_,_,_,_,_,k2⟩=>SqT.of (k2 _ _ hb' nbf)) ?_ ?_
    ·rintro i z σ H2 hz ⟨fs2,v,rfl,hi,hF2,e2,nd2,in2,ok2,k2⟩
     obtain⟨dz,hdz,hv⟩:=hs.get hz
     have hil:=(Qn.mp hz).1
     have hdd:PyData.depthAll ds+1<n+1:=by
      have:(PyData.tuple ds).depth=PyData.depthAll ds+1:=by simp[PyData.depth]
      omega
     have hd2:=Zgc hdz
     have elv:Za2 (ds.take (i+1))=Za2 (ds.take i)++lvD dz:=by rw[Qw,hdz,Zcj];show _++(lvD dz++[])=_;rw[QH]
     have eok:Za7 wy (ds.take (i+1))↔Za7 wy (ds.take i)∧okD wy dz:=by rw[Qw,hdz,ZbS];show _∧(okD wy dz∧True)↔_;rw[and_true]
     have esp:Za2 ds=Za2 (ds.take (i+1))++Za2 (ds.drop (i+1)):=by rw[← Zcj,QI]
     have esok:Za7 wy ds↔Za7 wy (ds.take (i+1))∧Za7 wy (ds.drop (i+1)):=by rw[← ZbS,QI]
     refine⟨_,rfl,_,rfl,_,rfl,_,rfl,a,fo,ns,fs2,wy,z,dz,rfl,k2 _ _ hS naf,hF2,naf,n12,hv.mono (Zbb k2),by omega,nd2,in2,fun bo fs3 H3 hF3 k3 nd3 in3 hbo he3=>⟨_,rfl,?_⟩⟩
     have k03:∀c o,H c=some o→c≠fo→H3 c=some o:=fun c o hc nc=>k3 c o (k2 c o hc nc) nc
     cases bo with
     | false =>
      refine ZY (q false fs3 H3 hF3 k03 nd3 in3 ⟨fun z=>(by cases z),fun ⟨z1,z2,z3⟩=>?_⟩ (fun z=>(by cases z)))
      have z1:2≤ds.length∧ds.length≤wy∧Za7 wy ds:=z1
      have z2:(fs++Za2 ds).Nodup:=z2
      have z3:InR ns.length (Za2 ds):=z3
      have hok:=(eok.mp (esok.mp z1.2.2).1).2
      rw[esp,elv,← QG,← QG,← e2]at z2
      have hnd:=(List.nodup_append.mp z2).1
      have hin:InR ns.length (lvD dz):=fun k hk=>z3 k (by rw[esp,elv];exact QO _ (Qf _ hk))
      have:=hbo.mpr ⟨hok,hnd,hin⟩
      cases this
     | true =>
      obtain⟨y1,y2,y3⟩:=hbo.mp rfl
      have e3:=he3 rfl
      exact ZaB ⟨fs3,_,rfl,hil,hF3,by rw[e3,e2,elv,QG],nd3,in3,eok.mpr ⟨ok2,y1⟩,k03⟩
    ·rintro σ H2 ⟨fs2,v,rfl,hi,hF2,e2,nd2,in2,ok2,k2⟩
     rw[hxl,Qq (Qd _)]at e2 ok2
     exact q true fs2 H2 hF2 k2 nd2 in2 ⟨fun _=>⟨⟨by omega,by omega,ok2⟩,by show (fs++Za2 ds).Nodup;rw[← e2];exact nd2,fun k hk=>in2 k (by rw[e2];exact Qf _ hk)⟩,fun _=>rfl⟩ (fun _=>e2)
def Zi0(n wy:Nat)(d:PyData):Prop:=okD wy d∧(lvD d).Nodup∧InR n (lvD d)∧(lvD d).length=n
theorem ZfR{n:Nat}{l:List Int}:l.Perm (Z8 0 n)↔l.Nodup∧InR n l∧l.length=n:=by
 have e:∀k,k∈Z8 0 n↔0≤k∧k<(n:Int):=fun k=>by
  unfold Z8
  rw[List.mem_map]
  constructor
  ·rintro⟨i,hi,rfl⟩;have:=QK.mp hi;omega
  ·rintro⟨h1,h2⟩;exact⟨k.toNat,QK.mpr (by omega),by omega⟩
 have nd0:(Z8 0 n).Nodup:=by unfold Z8;exact Qa0.mpr (List.nodup_range.imp fun h g=>h (by omega))
 constructor
 ·intro h
  exact⟨h.nodup_iff.mpr nd0,fun k hk=>(e k).mp (h.mem_iff.mp hk),by rw[h.length_eq,Zc5]⟩
 ·rintro⟨h1,h2,h3⟩
  refine(List.perm_ext_iff_of_nodup h1 nd0).mpr fun k=>⟨fun hk=>(e k).mpr (h2 k hk),fun hk=>?_⟩
  by_cases hm:k∈l
  ·exact hm
  ·have hk:=(e k).mp hk
   have:=ZhN (n:=n) (l:=k::l) (List.nodup_cons.mpr ⟨hm,h1⟩) (fun z hz=>by
    rcases QM.mp hz with rfl|hz
    ·exact hk
    ·exact h2 z hz)
   rw[QE]at this
   omega
theorem ZeP:∀A B:List Int,PyData.eqvAll (A.map PyData.int) (B.map PyData.int)=decide (A=B)
 | [],[]=>by simp[PyData.eqvAll]
 | [],b::B=>by simp[PyData.eqvAll]
 | a::A,[]=>by simp[PyData.eqvAll]
 | a::A,b::B=>by
  simp only[List.map_cons,PyData.eqvAll,PyData.eqv,ZeP A B]
  by_cases h:a=b<;>by_cases g:A=B<;>simp[h,g]
theorem ZhQ{ms ks:List Int}{n:Nat}(p:ms.Perm ks)(h:ms.Pairwise (·≤·)):ms=Z8 0 n↔ks.Perm (Z8 0 n):=by
 constructor
 ·intro e;rw[← e];exact p.symm
 ·intro e
  have nd0:(Z8 0 n).Pairwise (·≤·):=by
   unfold Z8
   exact Qa0.mpr (List.pairwise_lt_range.imp fun h=>by omega)
  exact List.Perm.eq_of_pairwise (fun a b _ _ h1 h2=>Int.le_antisymm h1 h2) h nd0 (p.trans e)
theorem ZkZ{l:List PyData}(h:l≠[]):∃u,l=l.dropLast++[u]:=⟨l.getLast h,(QaA h).symm⟩
theorem ZjQ{H:Hp}{xs:List V}{l:List PyData}(h:DHs H xs l)(n:l≠[]):∃x u,xs[xs.length-1]? = some x∧DH H x u∧DHs H xs.dropLast l.dropLast∧l=l.dropLast++[u]:=by
 have hl:=h.length
 have lp:0<l.length:=QaP.mpr n
 have h1:xs[xs.length-1]? = some xs[xs.length-1]:=Qc (by omega)
 obtain⟨d,hd,hv⟩:=h.get h1
 refine⟨_,d,h1,hv,?_,?_⟩
 ·rw[QaE,QaE,hl]
  exact h.take _
 ·obtain⟨u,e⟩:=ZkZ n
  have e2:l[l.length-1]? = some u:=by
   have e3:(l.dropLast++[u])[l.dropLast.length]? = some u:=by simp
   rw[← e,QaI]at e3
   exact e3
  rw[hl,e2]at hd
  cases hd
  exact e
theorem ZcL:∀a b:List PyData,PyData.canLayAll0 (a++b)=(PyData.canLayAll0 a&&PyData.canLayAll0 b)
 | [],b=>by simp[PyData.canLayAll0]
 | d::r,b=>by simp[PyData.canLayAll0,ZcL r b,Bool.and_assoc]
theorem ZcO:∀a b:List PyData,PyData.depthAll (a++b)=max (PyData.depthAll a) (PyData.depthAll b)
 | [],b=>by simp[PyData.depthAll]
 | d::r,b=>by
  show max d.depth (PyData.depthAll (r++b))=max (max d.depth (PyData.depthAll r)) (PyData.depthAll b)
  rw[ZcO r b];omega
theorem Zkv(l:List PyData):(if true=true then !PyData.eqv (.list l) (.list []) else PyData.eqv (.list l) (.list [])) = !l.isEmpty:=by
 cases l with
 | nil=>ac_rfl
 | cons t r=>simp[PyData.eqv,PyData.eqvAll]
theorem Ze5:∀l:List PyData,l.length≤Zbs l
 | []=>Qd 0
 | d::r=>by have:=Ze5 r;have:=ZjO d;show r.length+1≤ndD d+Zbs r;omega
def ZlN(K:PySem.W.Frag):Sp:=fun vs H Q _=>∃ (a:Addr) (ns:List Int) (wy:Nat) (x:V) (d:PyData),vs=[.ref a,.int wy,x]∧H a=some (.lst (ns.map V.int))∧ns.length≤100∧DH H x d∧d.canLay0=true∧d.depth≤40∧lfD d<200∧ndD d≤100000 ∧
 ∀ (b:Bool) (H':Hp),(b=true↔Zi0 ns.length wy d)→Zn H H'→Q (.bl b) H'
theorem Ziq(T:Zar K mg):Df P w K mg base 1 "_law_is_plan" ["_law_sizes_here", "_law_ways_here", "_law_thing"] (ZlN K):=by
 refine T.t_l_is_plan.df Zbd (fun vs H Q E h=>?_) (fun cdv f A outer s H vs Q E hr h=>?_)
 ·obtain⟨a,ns,wy,x,t,rfl,_⟩:=h
  rfl
 obtain⟨a,ns,wy,x,d,rfl,hS,hn,hT,hlay,hdp,hlf,hno,q⟩:=h
 refine⟨_,#[Zh,#[Zw,3,Zbd.nd,(Or.inl rfl),#[ZG,#[Zc]]],#[Zh,#[Zw,4,Zbd.nd,(Or.inl rfl),#[ZG,#[Za,‹2›,#[Zc]]]],#[Zh,(@ZdZ _ _ _ _ _ _ PassesOwn.never #[ZA,(@neD _ K _ hr (by rfl)),‹4›,#[ZG,#[Zc]],(ZF _)] #[Zh,#[Zw,5,Zbd.nd,(Or.inl rfl),(@Zhk _ _ _ _ _ _ _ _ _ QF PySem.F.slot_list_pop PySem.F.type_list_pop ZgM ‹4› (by rfl) (by rfl))],#[Zi,#[ZZ,#[Zaf,#[Zk,(Zcs K),(by rfl),T.b.n_isinstance,boot_isinstance,#[Za,‹5›,#[Za,#[Za6,T.b.n_tuple,boot_tuple,(by rfl)],#[Zc]]]]],#[Zh,#[ZZ,#[ZaO,(@ZjD _ _ _ _ _ _ _ _ _ _ _ _ ZlT ZlT #[Ze] #[Zk,(ZbC K),(by rfl),T.b.n_len,QB,#[Za,‹5›,#[Zc]]] ‹1› (by with_unfolding_all rfl))],#[Zi,#[Zl,#[Zae]]],#[ZD]],#[Zi,#[Zbz,#[ZdL,QF,Qan,Qao,(ZmG K),‹4›,#[Za,‹5›,#[Zc]]]]]],#[Zi,#[ZZ,(@PW.pt _ _ _ #[Zcd,#[ZaO,#[Zaf,#[Zk,(Zcs K),(by rfl),T.b.n_isinstance,boot_isinstance,#[Za,‹5›,#[Za,#[Za6,T.b.n_int,boot_int,(by rfl)],#[Zc]]]]]],#[ZbJ,#[Zaf,#[Zk,(Zcs K),(by rfl),T.b.n_isinstance,boot_isinstance,#[Za,‹5›,#[Za,#[Za6,T.b.n_bool,boot_bool,(by rfl)],#[Zc]]]]]]]),#[Zi,#[Zl,#[Zae]]],#[Zi,#[Zbz,#[ZdL,QF,Qap,Qaq,Zbg,‹3›,#[Za,‹5›,#[Zc]]]]]]]]]]),#[Zi,#[Zl,(@Zc3 _ _ _ _ _ _ _ _ (@eqD _ K _ hr (by rfl)) #[Zk,(Zna K),(by rfl),T.b.n_sorted,boot_sorted,#[Za,‹3›,#[Zc]]] #[Zac,Zj0,T.b.n_list,boot_list,#[Za,#[Zac,Zmm,T.b.n_range,boot_range,#[Za,#[Zk,(ZbC K),(by rfl),T.b.n_len,QB,#[Za,‹0›,#[Zc]]],#[Zc]]],#[Zc]]] (ZF _))]]]]],?_⟩
 refine⟨(by show 0≤sizeLine;decide),fun f hf=>⟨_,rfl,(by show 1≤sizeLine;decide),fun wa hwa=>?_⟩⟩
 have hwH:H wa=none:=(Zd hf (.lst [])).free hwa
 have nfw:f≠wa:=Zg (H:=upd H f (.lst [])) Zb hwa
 have s0:Zn H (upd (upd H f (.lst [])) wa (.lst [x])):=(Zd hf _).trans (Zd hwa _)
 refine⟨fun m σ H2=>∃ (xs:List V) (l:List PyData) (ks:List Int) (v3:Option V),σ=[some (.ref a),some (.int wy),some x,some (.ref f),some (.ref wa),v3]∧H2 wa=some (.lst xs)∧DHs H xs l∧PyData.canLayAll0 l=true∧PyData.depthAll l≤40∧H2 f=some (.lst (ks.map V.int))∧(okD wy d↔Za7 wy l)∧(Za7 wy l→(lvD d).Perm (ks++Za2 l))∧ks.length+Za8 l<200∧Zbs l≤100000∧Zn H H2∧m=Zbs l,
  ⟨_,[x],[d],[],none,rfl,Zb,.cons hT .nil,by simp[PyData.canLayAll0,hlay],?_,?_,?_,?_,?_,?_,s0,rfl⟩,?_⟩
 ·show max d.depth 0≤40;omega
 ·rw[Zj nfw];exact Zb
 ·show okD wy d↔okD wy d∧True;rw[and_true]
 ·intro _;show (lvD d).Perm (lvD d++[]);rw[QH]
 ·show 0+(lfD d+0)<200;omega
 ·show ndD d+0≤100000;omega
 rintro m σ H2 ⟨xs,l,ks,v3,rfl,hw2,hT2,lay2,dp2,hf2,hok,hpm,hlf2,hnd2,s2,rfl⟩
 refine⟨_,rfl,(by show 0≤sizeLine;decide),fun e he=>?_⟩
 have se:=Zd he (.lst [])
 refine⟨.list l,.list [],.lst (SqL.of (se _ _ hw2)) (hT2.mono (s2.trans se)).dv,.lst (SqL.of Zb) .nil,?_,(by ac_rfl),_,rfl,?_⟩
 ·simp[SeqAt.shaped,PyData.canLay0,PyData.depth,lay2];omega
 rw[Zkv]
 have hw3:=se _ _ hw2
 have hf3:=se _ _ hf2
 have s3:=s2.trans se
 generalize upd H2 e (.lst [])=H3 at hw3 hf3 s3 ⊢
 cases hl:l.isEmpty with
 | true =>
  have e0:l=[]:=List.isEmpty_iff.mp hl
  subst e0
  have hpm':(lvD d).Perm ks:=by
   have h9:(lvD d).Perm (ks++[]):=hpm trivial
   rw[QH]at h9
   exact h9
  have okd:okD wy d:=hok.mpr trivial
  have hls:(((ns.map V.int).length:Nat):Int)=(ns.length:Int):=by rw[Qb]
  have hkl:ks.length<200:=by omega
  refine ZaB ⟨_,rfl,f,ks,rfl,SqL.of hf3,fun so ms hso pm pw=>?_⟩
  have s4:=Zd hso (.lst (ms.map V.int))
  have f4:(upd H3 so (.lst (ms.map V.int))) so=some (.lst (ms.map V.int)):=Zb
  generalize upd H3 so (.lst (ms.map V.int))=H4 at s4 f4 ⊢
  refine⟨_,rfl,a,_,rfl,.inl (SqL.of ((s3.trans s4) _ _ hS)),?_⟩
  simp only[hls]
  refine⟨_,rfl,fun rg hrg=>⟨rg,0,_,rfl,Zb,by omega,by omega,by omega,by omega,by omega,fun tr htr=>?_⟩⟩
  rw[show (((ns.length:Int)-0).toNat)=ns.length by omega]
  have s5:Zn H4 (upd (upd H4 rg (.rng 0 (ns.length:Int))) tr (.lst ((Z8 0 ns.length).map V.int))):=(Zd hrg _).trans (Zd htr _)
  have f5:(upd (upd H4 rg (.rng 0 (ns.length:Int))) tr (.lst ((Z8 0 ns.length).map V.int))) tr=some (.lst ((Z8 0 ns.length).map V.int)):=Zb
  generalize upd (upd H4 rg (.rng 0 (ns.length:Int))) tr (.lst ((Z8 0 ns.length).map V.int))=H5 at s5 f5 ⊢
  refine⟨_,_,.lst (SqL.of (s5 _ _ f4)) (ZdT _),.lst (SqL.of f5) (ZdT _),ZdE _,ZdE _,?_⟩
  rw[if_neg (by decide)]
  have ee:PyData.eqv (.list (ms.map PyData.int)) (.list ((Z8 0 ns.length).map PyData.int))=decide (ms=Z8 0 ns.length):=by rw[← ZeP];simp[PyData.eqv]
  rw[ee]
  refine q _ H5 ⟨fun z=>?_,fun z=>decide_eq_true ?_⟩ ((s3.trans s4).trans s5)
  ·have z:=(ZhQ pm pw).mp (of_decide_eq_true z)
   obtain⟨z1,z2,z3⟩:=ZfR.mp (hpm'.trans z)
   exact⟨okd,z1,z2,z3⟩
  ·exact(ZhQ pm pw).mpr (hpm'.symm.trans (ZfR.mpr z.2))
 | false =>
  have lne:l≠[]:=fun z=>by rw[z]at hl;cases hl
  obtain⟨y,u,hy,hu,hTd,el⟩:=ZjQ hT2 lne
  have layd:PyData.canLayAll0 l.dropLast=true∧u.canLay0=true:=by
   have:=lay2
   rw[el,ZcL]at this
   simpa [PyData.canLayAll0] using this
  have dpd:PyData.depthAll l.dropLast≤40∧u.depth≤40:=by
   have:=dp2
   rw[el,ZcO]at this
   have e9:PyData.depthAll [u]=u.depth:=by show max u.depth 0=_;omega
   rw[e9]at this
   omega
  have eok:Za7 wy l↔Za7 wy l.dropLast∧okD wy u:=by
   have:=ZbS wy l.dropLast [u]
   rw[← el]at this
   rw[this];show _∧(okD wy u∧True)↔_;rw[and_true]
  have lvd:Za2 l=Za2 l.dropLast++lvD u:=by
   have:Za2 (l.dropLast++[u])=_:=Zcj _ _
   rw[← el]at this;rw[this];show _++(lvD u++[])=_;rw[QH]
  have lfd:Za8 l=Za8 l.dropLast+lfD u:=by
   have:Za8 (l.dropLast++[u])=_:=Zd1 _ _
   rw[← el]at this;rw[this];show _+(lfD u+0)=_;omega
  have nod:Zbs l=Zbs l.dropLast+ndD u:=by
   have:Zbs (l.dropLast++[u])=_:=Zc4 _ _
   rw[← el]at this;rw[this];show _+(ndD u+0)=_;omega
  have hup:=ZjO u
  refine ZY ⟨_,fun σ' H' h=>h,?_⟩
  refine⟨_,rfl,.inl ⟨rfl,_,SqL.of hw3⟩,wa,xs,y,rfl,rfl,hw3,hy,?_⟩
  have hw4:(upd H3 wa (.lst xs.dropLast)) wa=some (.lst xs.dropLast):=Zb
  have hf4:(upd H3 wa (.lst xs.dropLast)) f=some (.lst (ks.map V.int)):=by rw[Zj nfw];exact hf3
  have s4:Zn H (upd H3 wa (.lst xs.dropLast)):=fun b o h=>by rw[Zj (Zg h hwH)];exact s3 b o h
  generalize upd H3 wa (.lst xs.dropLast)=H4 at hw4 hf4 s4 ⊢
  have hu4:=hu.mono s4
  have no:¬ okD wy u→Q (.bl false) H4:=fun h=>q false H4 ⟨fun z=>(by cases z),fun z=>absurd (eok.mp (hok.mp z.1)).2 h⟩ s4
  refine⟨_,rfl,_, "tuple",_,_,rfl,hu4.ty,hu4.kT K,_,rfl,?_⟩
  cases hTu:ZcP u with
  | true =>
   obtain⟨b,ys,ds,rfl,rfl,hb,hs⟩:=hu.tup_inv hTu
   have hb4:=s4 _ _ hb
   have l2:=hs.length
   refine ZY ⟨_,rfl,b,ys,rfl,.inr (SqT.of hb4),_,_,rfl,rfl,_,rfl,?_⟩
   by_cases h2:¬ (2:Int)≤((ys.length:Nat):Int)
   ·refine ZdG h2 ⟨_,rfl,ZY (no fun z=>?_)⟩
    have:2≤ds.length:=z.1
    omega
   have h2:=Decidable.not_not.mp h2
   refine ZfT h2 ⟨_,rfl,_,_,rfl,rfl,_,rfl,?_⟩
   by_cases h3:¬ ((ys.length:Nat):Int)≤(wy:Int)
   ·refine ZlV h3 (no fun z=>?_)
    have:ds.length≤wy:=z.2.1
    omega
   have h3:=Decidable.not_not.mp h3
   refine Zgf h3 ?_
   have l1:=hTd.length
   have l3:=Ze5 l.dropLast
   have l4:=Ze5 ds
   have e1:ndD (.tuple ds)=Zbs ds+1:=rfl
   have e2:lfD (.tuple ds)=Za8 ds:=rfl
   have e3:(PyData.tuple ds).depth=PyData.depthAll ds+1:=by simp[PyData.depth]
   have e4:PyData.canLayAll0 ds=true:=by simpa [PyData.canLay0] using layd.2
   have e5:okD wy (.tuple ds)↔Za7 wy ds:=⟨fun z=>z.2.2,fun z=>⟨by omega,by omega,z⟩⟩
   refine⟨_,rfl,.inl ⟨rfl,_,SqL.of hw4⟩,_,rfl,wa,b,_,_,rfl,rfl,hw4,hb4,by rw[sizeLine_eq];omega,_,?_,xs.dropLast++ys,l.dropLast++ds,ks,_,rfl,Zb,hTd.app hs,?_,?_,?_,?_,?_,?_,?_,?_,rfl⟩
   ·rw[Zc4];omega
   ·rw[ZcL,layd.1,e4];rfl
   ·rw[ZcO];omega
   ·rw[Zj nfw];exact hf4
   ·rw[hok,eok,ZbS,e5]
   ·intro z
    rw[ZbS]at z
    have:=hpm (eok.mpr ⟨z.1,e5.mpr z.2⟩)
    rw[lvd]at this
    rw[Zcj];exact this
   ·rw[Zd1];omega
   ·rw[Zc4];omega
   ·intro c o h
    rw[Zj (Zg h hwH)];exact s4 c o h
  | false =>
   refine ZaB ?_
   refine⟨_,rfl,_, "int",_,_,rfl,hu4.ty,hu4.kI K,_,rfl,?_⟩
   cases hI:ZJ u with
   | false =>
    have nok:¬ okD wy u:=fun z=>by
     cases u with
     | int _=>cases hI
     | tuple _=>cases hTu
     | none=>exact z
     | bool _=>exact z
     | str _=>exact z
     | list _=>exact z
     | dict _=>exact z
    cases hB:Zcc u with
    | false=>exact ZY (ZY (no nok))
    | true =>
     refine ZaB ⟨_,rfl,_, "bool",_,_,rfl,hu4.ty,hu4.kB K,_,rfl,?_⟩
     rw[hB]
     exact ZY (no nok)
   | true =>
    obtain⟨k,rfl,rfl⟩:=hu.int_inv hI
    refine ZaB ⟨_,rfl,_, "bool",_,_,rfl,.int k,Zf4 K,_,rfl,ZaB ?_⟩
    have e1:ndD (.int k)=1:=rfl
    have e2:lfD (.int k)=1:=rfl
    refine⟨_,rfl,.inl ⟨rfl,_,SqL.of hf4⟩,_,rfl,f,_,_,rfl,rfl,hf4,(by rw[Qb];exact ZB (by omega)),_,?_,xs.dropLast,l.dropLast,ks++[k],_,rfl,?_,hTd,layd.1,dpd.1,?_,?_,?_,?_,?_,?_,rfl⟩
    ·omega
    ·rw[Zj nfw.symm];exact hw4
    ·rw[Zb,Qh];rfl
    ·rw[hok,eok];exact⟨fun z=>z.1,fun z=>⟨z,trivial⟩⟩
    ·intro z
     refine(hpm (eok.mpr ⟨z,trivial⟩)).trans ?_
     rw[lvd,QG]
     exact QaD _ List.perm_append_comm
    ·rw[Qe,Qy];omega
    ·omega
    ·intro c o h
     rw[Zj (Zg h hf)];exact s4 c o h
structure Gd (D:Nat) (d:PyData):Prop where
 dp:d.depth≤D
 lay:d.canLay0=true
 sh:d.intsShort 22=true
 shw:d.showable=true
theorem Gd.mono{D D':Nat}{d:PyData}(h:Gd D d)(l:D≤D'):Gd D' d:=⟨QL h.dp l,h.lay,h.sh,h.shw⟩
theorem Ze1{D:Nat}:∀ {ds:List PyData},(∀d∈ds,Gd D d)→PyData.depthAll ds≤D∧PyData.canLayAll0 ds=true∧PyData.intsShortAll 22 ds=true∧PyData.showableAll ds=true
 | [],_=>⟨Ql _,rfl,rfl,rfl⟩
 | d::r,h=>by
  obtain⟨a,b,c,e⟩:=Ze1 (ds:=r) fun x hx=>h x (Qi _ hx)
  obtain⟨a',b',c',e'⟩:=h d (Qp ..)
  refine⟨?_,by simp[PyData.canLayAll0,b,b'],by simp[PyData.intsShortAll,c,c'],by simp[PyData.showableAll,e,e']⟩
  show max d.depth (PyData.depthAll r)≤D
  omega
theorem Zbc{D:Nat}{ds:List PyData}(h:∀d∈ds,Gd D d):Gd (D+1) (.list ds):=by
 obtain⟨a,b,c,e⟩:=Ze1 h
 refine⟨by simp[PyData.depth];exact a,by simpa [PyData.canLay0] using b,by simpa [PyData.intsShort] using c,by simpa [PyData.showable] using e⟩
theorem ZcI{D:Nat}{ds:List PyData}(h:∀d∈ds,Gd D d):Gd (D+1) (.tuple ds):=by
 obtain⟨a,b,c,e⟩:=Ze1 h
 refine⟨by simp[PyData.depth];exact a,by simpa [PyData.canLay0] using b,by simpa [PyData.intsShort] using c,by simpa [PyData.showable] using e⟩
theorem ZgV:∀a b:List PyData,PyData.weightAll (a++b)=PyData.weightAll a+PyData.weightAll b
 | [],b=>by simp[PyData.weightAll]
 | d::r,b=>by
  show d.weight+1+PyData.weightAll (r++b)=d.weight+1+PyData.weightAll r+PyData.weightAll b
  rw[ZgV r b];omega
theorem ZmR(a:List PyData)(k:Nat):PyData.weightAll (a.take k)+PyData.weightAll (a.drop k)=PyData.weightAll a:=by rw[← ZgV,QI]
mutual
theorem ZlD:∀d:PyData,ndD d≤d.weight+1
 | .list l=>by have:=ZgI l;show Zbs l+1≤PyData.weightAll l+1;omega
 | .tuple l=>by have:=ZgI l;show Zbs l+1≤PyData.weightAll l+1;omega
 | .none=>QaB 1 _
 | .bool _=>QaB 1 _
 | .int _=>QaB 1 _
 | .str _=>QaB 1 _
 | .dict _=>QaB 1 _
theorem ZgI:∀l:List PyData,Zbs l≤PyData.weightAll l
 | []=>Qd 0
 | d::r=>by
  have:=ZlD d
  have:=ZgI r
  show ndD d+Zbs r≤d.weight+1+PyData.weightAll r
  omega
end
mutual
theorem TV.dh{H:Hp}:∀ {x:V} {t:PT},TV H x t→DH H x (toD t)
 | _,_,.leaf k=>.int k
 | _,_,.node h hs=>.tup h hs.dh
theorem TVs.dh{H:Hp}:∀ {xs:List V} {l:List PT},TVs H xs l→DHs H xs (Z0 l)
 | _,_,.nil=>.nil
 | _,_,.cons h hs=>.cons h.dh hs.dh
end
mutual
theorem ZhX:∀t:PT,lfD (toD t)=tLf t
 | .leaf k=>rfl
 | .node l=>Zgl l
theorem Zgl:∀l:List PT,Za8 (Z0 l)=ZbY l
 | []=>rfl
 | t::r=>by show lfD (toD t)+Za8 (Z0 r)=tLf t+ZbY r;rw[ZhX t,Zgl r]
end
mutual
theorem Zgx:∀d:PyData,d.intsShort 13=true→d.intsShort 22=true
 | .none,_=>rfl
 | .bool _,_=>rfl
 | .str _,_=>rfl
 | .dict _,_=>rfl
 | .int i,h=>by
  simp only[PyData.intsShort,decide_eq_true_eq]at h ⊢
  omega
 | .list l,h=>Zdk l h
 | .tuple l,h=>Zdk l h
theorem Zdk:∀l:List PyData,PyData.intsShortAll 13 l=true→PyData.intsShortAll 22 l=true
 | [],_=>rfl
 | d::r,h=>by
  simp only[PyData.intsShortAll,Bool.and_eq_true]at h ⊢
  exact⟨Zgx d h.1,Zdk r h.2⟩
end
theorem Zlz{n:Nat}{t:PT}(hn:n≤1000)(hok:tOk n t):Gd (tDp t) (toD t)∧(toD t).weight+1≤42*tNo t:=by
 obtain⟨a,b,c,d,e⟩:=ZfE hn t hok
 exact⟨⟨by rw[b];exact Qd _,a,Zgx _ d,e⟩,c⟩
structure Th (L W D:Nat) (d:PyData):Prop where
 lf:lfD d≤L
 wt:d.weight≤W
 gd:Gd D d
theorem Th.mono{L W D L' W' D':Nat}{d:PyData}(h:Th L W D d)(a:L≤L')(b:W≤W')(c:D≤D'):Th L' W' D' d:=⟨QL h.lf a,QL h.wt b,h.gd.mono c⟩
theorem ZcJ{i:Int}(h:i.natAbs<10 ^ 21):Th 1 72 0 (.int i):=by
 have hlog:i.natAbs.log2<70:=by
  by_cases e:i.natAbs=0
  ·rw[e];decide
  ·exact(Nat.log2_lt e).mpr (Qx h (by decide))
 refine⟨Qd 1,?_,by simp[PyData.depth],by simp[PyData.canLay0],?_,?_⟩
 ·simp only[PyData.weight]
  split<;>omega
 ·simp only[PyData.intsShort]
  have e:=int_text_length_le10 (k:=21) (by decide) h
  exact decide_eq_true (by show (Str.ofString (toString i)).length≤22;rw[PySem.ofString_length];exact e)
 ·simp only[PyData.showable]
  exact decide_eq_true (by omega)
theorem Zg6:∀l:List PyData,l.length≤PyData.weightAll l
 | []=>Qd 0
 | d::r=>by have:=Zg6 r;show r.length+1≤d.weight+1+PyData.weightAll r;omega
theorem Zdf{xs:List V}{k:Int}(h0:0≤k)(h:k<(xs.length:Int)):∃v∈xs,atI xs k=some v:=by
 have hk:k.toNat<xs.length:=by omega
 have ek:k=((k.toNat:Nat):Int):=by omega
 have q:atI xs ((k.toNat:Nat):Int)=some xs[k.toNat]:=Zc2 (Qc hk)
 rw[← ek]at q
 exact⟨_,QW hk,q⟩
structure Eb (u e:PyData) (D:Nat):Prop where
 lf:lfD e≤2*lfD u+2
 wt:e.weight≤2*u.weight+400
 gd:Gd (D+2) e
theorem Zj9{K:PySem.W.Frag}{a:Addr}{xs:List V}{k:Nat}{D:Addr}{σ:L2.St}{H1:Hp}{g:TG}{te:TE}{Q:VK}(Pv:Nat→List V→L2.St→Hp→Prop)(h0:Pv 0 [] (σ++List.replicate k none) (upd H1 D (.lst [])))
  (hl:∀i ys σ H,Pv i ys σ H→SqT K H a xs)
  (hs:∀i x ys σ H,xs[i]? = some x→Pv i ys σ H→g x σ H fun σ4 H4=>te σ4 H4 fun y H6=>H6 D=some (.lst ys)∧ys.length<sizeLine∧Pv (i+1) (ys++[y]) σ4 (upd H6 D (.lst (ys++[y]))))
  (hd:∀ys σ H,Pv xs.length ys σ H→Q (.ref D) H):ZdB (Itt K a) D k σ H1 g Zdy te Q:=by
 refine⟨fun i m ys σ H=>m=xs.length-i∧i≤xs.length∧Pv i ys σ H,⟨xs.length,by simp,Ql _,h0⟩,?_⟩
 rintro i m ys σ H ⟨rfl,hi,p⟩
 have q1:=hl i ys σ H p
 by_cases hlt:i<xs.length
 ·refine .inr ⟨⟨xs,xs[i],q1,Qc hlt⟩,Pv (i+1),fun ys' σ' H' p'=>⟨xs.length-(i+1),by omega,rfl,hlt,p'⟩,fun x H' y=>?_⟩
  obtain⟨rfl,e⟩:=y
  simp only[Zdy,↓reduceIte]
  exact hs i x ys σ _ (e xs q1) p
 ·have e:i=xs.length:=by omega
  exact .inl ⟨⟨xs,q1,by omega⟩,hd ys σ H (e ▸ p)⟩
def Zg7:Key→PyData
 | .inl i=>.int i
 | .inr s=>.str s
def tD(k:List Key):PyData:=.tuple (k.map Zg7)
theorem Zfx{K:PySem.W.Frag}{H:Hp}:∀ks:List Key,DVs K H (ks.map kV) (ks.map Zg7)
 | []=>.nil
 | .inl i::r=>.cons (.int i) (Zfx r)
 | .inr s::r=>.cons (.str s) (Zfx r)
theorem Zc9{K:PySem.W.Frag}{H:Hp}:∀ts:ZaX,AtT H ts→DVs K H (ZS ts) (ts.map fun t=>tD t.2)
 | [],_=>.nil
 | t::r,h=>.cons (.tup (SqT.of (h t (by simp))) (Zfx t.2)) (Zc9 r fun x hx=>h x (Qi _ hx))
def Zdu:List Int→Int
 | []=>0
 | [x]=>x
 | x::y::r=>min x (Zdu (y::r))
theorem ZbR:∀l:List Int,l≠[]→Zdu l∈l∧∀a∈l,Zdu l≤a
 | [],h=>absurd rfl h
 | [x],_=>⟨Qg.mpr rfl,fun a h=>by rw[Qg.mp h];exact Qaa _⟩
 | x::y::r,_=>by
  obtain⟨a,b⟩:=ZbR (y::r) (by simp)
  show min x (Zdu (y::r))∈_∧∀a∈_,min x (Zdu (y::r))≤a
  refine⟨?_,fun c hc=>?_⟩
  ·by_cases h:x≤Zdu (y::r)
   ·rw[Int.min_eq_left h];exact Qp ..
   ·rw[Int.min_eq_right (by omega)];exact Qi _ a
  ·rcases QM.mp hc with rfl|hc
   ·omega
   ·have:=b c hc;omega
theorem Zgq{l:List Int}{M:Int}(h:M∈l)(g:∀a∈l,M≤a):M=Zdu l:=by
 have hne:l≠[]:=fun z=>by rw[z]at h;cases h
 obtain⟨a,b⟩:=ZbR l hne
 exact Int.le_antisymm (g _ a) (b _ h)
def Zfd(b e:Nat):List Nat:=(List.range (e-b-1)).map fun i=>b+1+i
theorem Zbo{b e m:Nat}:m∈Zfd b e↔b<m∧m<e:=by
 unfold Zfd
 rw[List.mem_map]
 constructor
 ·rintro⟨i,hi,rfl⟩
  have:=QK.mp hi
  omega
 ·rintro⟨h1,h2⟩
  exact⟨m-b-1,QK.mpr (by omega),by omega⟩
def psF(g c:Nat→Nat→Int)(b e:Nat):List Int:=(Zfd b e).map fun m=>g b m+c m e
def Zag(g:Nat→Nat→Int):Nat→Nat→Nat→Int
 | 0,b,e=>g b e
 | k+1,b,e=>Zdu (g b e::psF g (Zag g k) b e)
def Zce(ns:List Int)(g:Nat→Nat→Int)(wy b e:Nat):Int:=if e-b=1 then 0 else seg ns b e+Zdu (psF g (Zag g (wy-2)) b e)
theorem ZeZ{g g' c c':Nat→Nat→Int}{b e:Nat}(h:∀m,b<m→m<e→g b m=g' b m∧c m e=c' m e):psF g c b e=psF g' c' b e:=by
 unfold psF
 exact List.map_congr_left fun m hm=>by obtain⟨h1,h2⟩:=Zbo.mp hm;rw[(h m h1 h2).1,(h m h1 h2).2]
theorem Zeg{g g':Nat→Nat→Int}:∀ (k b e:Nat),(∀x y,b≤x→x<y→y≤e→g x y=g' x y)→b<e→Zag g k b e=Zag g' k b e
 | 0,b,e,h,hb=>h b e (Qd _) hb (Qd _)
 | k+1,b,e,h,hb=>by
  show Zdu (g b e::psF g (Zag g k) b e)=Zdu (g' b e::psF g' (Zag g' k) b e)
  rw[h b e (Qd _) hb (Qd _),ZeZ fun m h1 h2=>⟨h b m (Qd _) h1 (Q7 h2),Zeg k m e (fun x y a1 a2 a3=>h x y (by omega) a2 a3) h2⟩]
def Z6(n:Nat)(g:Nat→Nat→Int):List (List Key×V):=(Zm n n).map fun p=>(q2 p,V.int (g p.1 p.2))
theorem ZdU(n:Nat):(Zm n n).Nodup:=(Zk0 n n).imp fun {a b} h e=>by
 subst e
 rcases h with h|⟨_,h⟩<;>exact Q0 _ h
theorem ZhK{g:Nat→Nat→Int}:∀ {l:List (Nat×Nat)} {p:Nat×Nat},p∈l→ZU (l.map fun p=>(q2 p,V.int (g p.1 p.2))) (q2 p)=some (.int (g p.1 p.2))
 | [],p,h=>by cases h
 | a::l,p,h=>by
  unfold ZU
  rw[QD,List.find?_cons]
  by_cases e:a=p
  ·subst e;simp
  ·have:¬ q2 a=q2 p:=fun z=>e (by obtain⟨h1,h2⟩:=ZgQ z;exact Prod.ext h1 h2)
   simp only[this,decide_false]
   exact ZhK ((QM.mp h).resolve_left fun z=>e z.symm)
theorem Zei{g:Nat→Nat→Int}:∀ {l:List (Nat×Nat)} {p:Nat×Nat},p ∉ l→ZU (l.map fun p=>(q2 p,V.int (g p.1 p.2))) (q2 p)=none
 | [],p,_=>rfl
 | a::l,p,h=>by
  unfold ZU
  rw[QD,List.find?_cons]
  have:¬ q2 a=q2 p:=fun z=>h (by obtain⟨h1,h2⟩:=ZgQ z;rw[show a=p from Prod.ext h1 h2];exact Qp ..)
  simp only[this,decide_false]
  exact Zei fun z=>h (Qi _ z)
theorem Zb8{n b e:Nat}(g:Nat→Nat→Int)(hb:b<e)(he:e≤n):ZU (Z6 n g) (Kp b e)=some (.int (g b e)):=ZhK (p:=(b,e)) (Za5.mpr ⟨hb,he⟩)
theorem ZdX(b e:Nat):(Zfd b e).length=e-b-1:=by unfold Zfd;rw[Qb,QaZ]
def ZjZ:Sp:=fun vs H Q _=>∃ (n:Nat),vs=[.int n]∧n≤12 ∧
 ∀ (r:Addr) (ts:ZaX) (H':Hp),H r=none→H' r=some (.lst (ZS ts))→AtT H' ts→ts.map (·.2)=(Zm n n).map q2→Zn H H'→Q (.ref r) H'
theorem Zlq(T:Zar K mg):Df P w K mg base 1 "stretches_of" ["many"] ZjZ:=by
 refine T.t_stretches_of.df ZdO (fun vs H Q E h=>?_) (fun cdv f A outer s H vs Q E hr h=>?_)
 ·obtain⟨n,rfl,_⟩:=h
  rfl
 obtain⟨n,rfl,n12,q⟩:=h
 refine⟨_,#[Zi,#[Zl,(@Zgn _ _ _ _ _ _ _ _ _ _ _ _ _ _ _ _ Zf2 rfl rfl rfl #[Zav,T.b.n_range,#[Za,#[pv,0,(Or.inr (Or.inl rfl))],#[Zc]]] (fun _ _ _ _=>#[cg,1,Zf2]) (fun _ _ _ _=>#[Zay,(Zad Zf2 rfl (by ac_rfl)),T.b.n_range,#[Za,#[Zq,ZM,#[cw,1,Zf2],#[Ze]],#[Za,#[Zq,ZM,#[cv,0,Zf2],#[Ze]],#[Zc]]]]) (fun _ _ _ _=>#[cg,2,Zf2]) (fun _ _ _ _=>#[Zv,#[Za,#[cw,1,Zf2],#[Za,#[cw,2,Zf2],#[Zc]]]]) (by intro _;rfl) (by intro _ _ _ _ _;rfl))]],?_⟩
 refine⟨_,rfl,_,rfl,by omega,by omega,fun D hD=>?_⟩
 rw[QaF]
 refine ZdH (fun b ys σ H2=>(∃v1 v2:Option V,σ=[some (.int (n:Int)),v1,v2])∧(∃ts:ZaX,ys=ZS ts∧AtT H2 ts∧ts.map (·.2)=(Zm n b).map q2)∧b≤n∧H2 D=some (.lst ys)∧Zn H H2) ?_ ?_ ?_
 ·exact⟨⟨none,none,rfl⟩,⟨[],rfl,(fun t h=>by cases h),rfl⟩,Ql _,Zb,Zd hD _⟩
 ·rintro b ys σ H2 hb ⟨⟨v1,v2,rfl⟩,⟨ts,rfl,hat,hE⟩,hb',hD2,s2⟩
  rw[show ((0:Int)+(b:Int))=(b:Int) by omega]
  refine⟨_,rfl,_,_,rfl,rfl,_,rfl,_,_,rfl,rfl,_,_,rfl,⟨by omega,by omega,by omega,by omega⟩,?_⟩
  rw[show ((n:Int)+1-((b:Int)+1)).toNat=n-b by omega]
  refine ZdI (fun i ys σ H3=>(∃v2:Option V,σ=[some (.int (n:Int)),some (.int (b:Int)),v2])∧(∃ts:ZaX,ys=ZS ts∧AtT H3 ts∧ts.map (·.2)=(Zm n b++(List.range i).map fun i=>(b,b+1+i)).map q2)∧i≤n-b∧H3 D=some (.lst ys)∧Zn H H3) ⟨⟨_,rfl⟩,⟨ts,rfl,hat,by rw[hE];simp⟩,Ql _,hD2,s2⟩ ?_ ?_
  ·rintro i ys σ H3 hi ⟨⟨v2',rfl⟩,⟨ts3,rfl,hat3,hE3⟩,hi',hD3,s3⟩
   rw[show ((b:Int)+1+(i:Int))=((b+1+i:Nat):Int) by omega]
   have htl:ts3.length≤156:=by
    have h9:=congrArg List.length hE3
    rw[Qb,Qb,Qe,Qb,QaZ]at h9
    have h8:=Zbi n b
    have h7:n*b≤12*12:=Nat.mul_le_mul n12 (by omega)
    omega
   refine⟨_,rfl,_,rfl,(by show 2≤sizeLine;decide),fun m hm=>?_⟩
   have sn:=Zd hm (.tup [.int (b:Int),.int ((b+1+i:Nat):Int)])
   have hD5:=sn _ _ hD3
   have nDn:D≠m:=Zg hD3 hm
   refine⟨hD5,(by rw[ZT];exact ZB (by omega)),⟨_,rfl⟩,⟨ts3++[(m,q2 (b,b+1+i))],by unfold ZS;rw[Qh];rfl,fun t ht=>?_,?_⟩,by omega,Zb,fun b' o hb=>?_⟩
   ·rcases Qt.mp ht with ht|ht
    ·exact Zau hD5 _ _ _ (sn _ _ (hat3 t ht))
    ·rw[Qg.mp ht,Zj nDn.symm];exact Zb
   ·rw[Qh,hE3,QaT]
    simp[List.map_append]
   ·rw[Zj (Zg hb hD)];exact sn _ _ (s3 b' o hb)
  ·rintro ys σ H3 ⟨⟨v2',rfl⟩,⟨ts3,rfl,hat3,hE3⟩,_,hD3,s3⟩
   exact⟨⟨_,_,rfl⟩,⟨ts3,rfl,hat3,by rw[ZbB];exact hE3⟩,hb,hD3,s3⟩
 ·rintro ys σ H2 ⟨⟨v1,v2,rfl⟩,⟨ts,rfl,hat,hE⟩,_,hD2,s2⟩
  exact q D ts H2 hD hD2 hat hE s2
def Zkr:Sp:=fun vs H Q _=>∃ (d c:Addr) (k1 k2:List (List Key×V)) (b e:Nat) (g u:Nat→Nat→Int),vs=[.ref d,.ref c,.int b,.int e]∧L2.Rd H d (.dT k1)∧L2.Rd H c (.dT k2)∧b<e∧e≤12∧(∀m,b<m→m<e→ZU k1 (Kp b m)=some (.int (g b m))∧ZU k2 (Kp m e)=some (.int (u m e))) ∧
 ∀ (r:Addr) (H':Hp),H r=none→H' r=some (.lst ((psF g u b e).map V.int))→Zn H H'→Q (.ref r) H'
theorem Zdg{H H':Hp}{d:Addr}{o:HO}(h:L2.Rd H d o)(s:Zn H H'):L2.Rd H' d o:=by
 rcases h with h|⟨u,h⟩
 ·exact .inl (s _ _ h)
 ·exact .inr ⟨u,s _ _ h⟩
theorem ZlO(T:Zar K mg):Df P w K mg base 1 "part_sums" ["priced", "cut", "begin", "end"] Zkr:=by
 refine T.t_part_sums.df Ze9 (fun vs H Q E h=>?_) (fun cdv f A outer s H vs Q E hr h=>?_)
 ·obtain⟨d,c,k1,k2,b,e,g,u,rfl,_⟩:=h
  rfl
 obtain⟨d,c,k1,k2,b,e,g,u,rfl,hd,hc,hbe,he,hk,q⟩:=h
 refine⟨_,#[Zi,#[Zl,#[ZaU,Zf6,#[Zay,rfl,T.b.n_range,#[Za,#[Zq,ZM,#[pv,2,(Or.inr (Or.inl rfl))],#[Ze]],#[Za,#[pv,3,(Or.inr (Or.inl rfl))],#[Zc]]]],(fun _ _ _ _=>#[cg,4,Zf6]),(fun _ _ _ _=>(@ZaI _)),(fun _ _ _ _=>#[Zq,ZM,#[ZI,(@ZiI _ _ hr),#[cv,0,Zf6],#[Zv,#[Za,#[cv,2,Zf6],#[Za,#[cw,4,Zf6],#[Zc]]]]],#[ZI,(@ZiI _ _ hr),#[cv,1,Zf6],#[Zv,#[Za,#[cw,4,Zf6],#[Za,#[cv,3,Zf6],#[Zc]]]]]])]]],?_⟩
 refine⟨_,rfl,_,_,rfl,rfl,_,rfl,_,_,rfl,⟨by omega,by omega,by omega,by omega⟩,fun D hD=>?_⟩
 rw[show ((e:Int)-((b:Int)+1)).toNat=e-b-1 by omega]
 refine Zb7 (fun i ys σ H2=>(∃v:Option V,σ=[some (.ref d),some (.ref c),some (.int b),some (.int e),v])∧ys=(((Zfd b e).take i).map fun m=>g b m+u m e).map V.int∧H2 D=some (.lst ys)∧i≤e-b-1∧Zn H H2) ⟨⟨none,rfl⟩,rfl,Zb,Ql _,Zd hD _⟩ ?_ ?_
 ·rintro i ys σ H2 hi ⟨⟨v,rfl⟩,rfl,hD2,_,s2⟩
  rw[show ((b:Int)+1+(i:Int))=((b+1+i:Nat):Int) by omega]
  have hm:(Zfd b e)[i]? = some (b+1+i):=by unfold Zfd;rw[Qr,List.getElem?_range hi];rfl
  obtain⟨x1,x2⟩:=hk (b+1+i) (by omega) (by omega)
  refine⟨_,rfl,_,rfl,_,rfl,(by show 2≤sizeLine;decide),fun p1 hp1=>?_⟩
  have s3:=Zd hp1 (.tup ((Kp b (b+1+i)).map kV))
  have f3:(upd H2 p1 (.tup ((Kp b (b+1+i)).map kV))) p1=some (.tup ((Kp b (b+1+i)).map kV)):=Zb
  change ZeR _ _ (upd H2 p1 (.tup ((Kp b (b+1+i)).map kV))) _
  generalize upd H2 p1 (.tup ((Kp b (b+1+i)).map kV))=H3 at s3 f3 ⊢
  refine⟨d,k1,p1,_,_,rfl,rfl,Zdg hd (s2.trans s3),f3,x1,?_⟩
  refine⟨_,rfl,_,rfl,_,rfl,(by show 2≤sizeLine;decide),fun p2 hp2=>?_⟩
  have s4:=Zd hp2 (.tup ((Kp (b+1+i) e).map kV))
  have f4:(upd H3 p2 (.tup ((Kp (b+1+i) e).map kV))) p2=some (.tup ((Kp (b+1+i) e).map kV)):=Zb
  change ZeR _ _ (upd H3 p2 (.tup ((Kp (b+1+i) e).map kV))) _
  generalize upd H3 p2 (.tup ((Kp (b+1+i) e).map kV))=H4 at s4 f4 ⊢
  have s24:=s3.trans s4
  refine⟨c,k2,p2,_,_,rfl,rfl,Zdg hc (s2.trans s24),f4,x2,_,_,rfl,rfl,?_⟩
  have hD4:=s24 _ _ hD2
  refine⟨hD4,by rw[Qb,Qb,Qu,ZdX];exact ZB (by omega),⟨_,rfl⟩,?_,Zb,hi,fun x o hx=>?_⟩
  ·rw[Qw,hm,Qh,Qh];rfl
  ·rw[Zj (Zg hx hD)];exact s24 _ _ (s2 x o hx)
 ·rintro ys σ H2 ⟨⟨v,rfl⟩,rfl,hD2,_,s2⟩
  rw[show e-b-1=(Zfd b e).length by rw[ZdX],Qq (Qd _)]at hD2
  exact q D H2 hD hD2 s2
theorem Zgy{n i:Nat}{g:Nat→Nat→Int}{p:Nat×Nat}(h:(Zm n n)[i]? = some p):((Zm n n).take (i+1)).map (fun p=>(q2 p,V.int (g p.1 p.2)))=((Zm n n).take i).map (fun p=>(q2 p,V.int (g p.1 p.2)))++[(q2 p,V.int (g p.1 p.2))]:=by
 rw[Qw,h,Qh];rfl
theorem Zga{n i:Nat}{p:Nat×Nat}(h:(Zm n n)[i]? = some p):p ∉ (Zm n n).take i:=fun hm=>by
 obtain⟨j,hj,e⟩:=List.getElem_of_mem hm
 obtain⟨hi,e2⟩:=Qn.mp h
 rw[Qu]at hj
 rw[Qae]at e
 have:=Qaj.mp (ZdU n) j i (by omega) hi (by omega)
 rw[e,e2]at this
 exact this rfl
def ZjB:Sp:=fun vs H Q _=>∃ (d:Addr) (n wy:Nat) (g:Nat→Nat→Int),vs=[.ref d,.int ((wy:Int)-1)]∧H d=some (.dT (Z6 n g))∧n≤12∧2≤wy∧wy≤6 ∧
 ∀ (c:Addr) (H':Hp),H' c=some (.dT (Z6 n (Zag g (wy-2))))→Zn H H'→Q (.ref c) H'
theorem ZkH(T:Zar K mg)(f_part_sums:Df P w K mg base 1 "part_sums" ["priced", "cut", "begin", "end"] Zkr):Df P w K mg base 2 "cut_prices" ["priced", "most"] ZjB:=by
 refine T.t_cut_prices.df Za3 (fun vs H Q E h=>?_) (fun cdv f A outer s H vs Q E hr h=>?_)
 ·obtain⟨d,n,wy,g,rfl,_⟩:=h
  rfl
 obtain⟨d,n,wy,g,rfl,hd,n12,w2,w6,q⟩:=h
 refine⟨_,#[Zh,#[Zw,2,Za3.nd,(Or.inr rfl),#[pv,0,(Or.inr (Or.inl rfl))]],#[Zh,#[Zao,PassesOwn.never,#[Zay,rfl,T.b.n_range,#[Za,#[Ze],#[Za,#[Zq,ZM,‹1›,#[Ze]],#[Zc]]]],#[Zx,3,Za3.nd,(Or.inl rfl)],#[Zi,#[Zw,2,Za3.nd,(Or.inr rfl),(@Zlj _ _ _ (@Zj5 _ _ _ _ _ _ _ _ _ _ _ _ _ _ _ _ Zdr rfl rfl rfl (@Zh8 _ _ _ _ _ _ _ _ #[pv,0,(Or.inr (Or.inl rfl))] (by rfl) (by rfl)) (fun _ _ _ _=>#[gT,K,2,#[Zz,#[gT,K,2,#[Zz,#[cg,5,Zdr],#[Zz,#[cg,6,Zdr],(@ZaH _)]]],#[Zz,#[cg,4,Zdr],(@ZaH _)]]]) (fun _ _ _ _=>(@ZaI _)) (fun _ _ _ _=>#[Zv,#[Za,#[cw,5,Zdr],#[Za,#[cw,6,Zdr],#[Zc]]]]) (fun _ _ _ _=>#[Zk,(ZmZ K),(Zad Zdr rfl (by ac_rfl)),T.b.n_min,boot_min,#[Za,#[Zq,Zdq,#[ZG,#[Za,#[cw,4,Zdr],#[Zc]]],#[Zs,f_part_sums,hr,#[Za,#[cv,0,Zdr],#[Za,#[cv,2,Zdr],#[Za,#[cw,5,Zdr],#[Za,#[cw,6,Zdr],#[Zc]]]]],(Zad Zdr rfl (by ac_rfl))]],#[Zc]]]) (ZaM.units hr) (by intro _;rfl)))]]],#[Zi,#[Zl,#[pv,2,(Or.inr (Or.inl rfl))]]]]],?_⟩
 refine⟨_,rfl,_,rfl,_,_,rfl,rfl,_,_,rfl,⟨by omega,by omega,by omega,by omega⟩,?_⟩
 rw[show ((wy:Int)-1+1-2).toNat=wy-2 by omega]
 refine Zam (fun i σ H2=>∃ (c:Addr) (v:Option V),σ=[some (.ref d),some (.int ((wy:Int)-1)),some (.ref c),v]∧H2 c=some (.dT (Z6 n (Zag g i)))∧Zn H H2) ⟨d,none,rfl,hd,Zn.refl H⟩ ?_ ?_
 ·rintro i σ H2 hi ⟨c,v,rfl,hc,s2⟩
  have hd2:=s2 _ _ hd
  refine⟨d,_,hd2,True.intro,_,rfl,d,_,rfl,hd2,fun o D hD=>?_⟩
  have hds:∀x u,H2 x=some u→x≠d→(upd H2 d (.frz o (.dT (Z6 n g)))) x=some u:=fun x u hx nx=>by rw[Zj nx];exact hx
  have hf:(upd H2 d (.frz o (.dT (Z6 n g)))) d=some (.frz o (.dT (Z6 n g))):=Zb
  have hcr:L2.Rd (upd H2 d (.frz o (.dT (Z6 n g)))) c (.dT (Z6 n (Zag g i))):=by
   by_cases e:c=d
   ·subst e
    rw[hd2]at hc
    injection hc with hc
    injection hc with hc
    rw[← hc];exact .inr ⟨o,hf⟩
   ·exact .inl (hds _ _ hc e)
  generalize hH3:upd H2 d (.frz o (.dT (Z6 n g)))=H3 at hD hds hf hcr ⊢
  have nDd:d≠D:=Zg hf hD
  have lK:(Z6 n g).length=(Zm n n).length:=by unfold Z6;rw[Qb]
  have l144:=ZdS n12
  refine ZfJ (fun j ys σ H4=>(∃v1 v2 v3:Option V,σ=[some (.ref d),some (.int ((wy:Int)-1)),some (.ref c),some (.int (2+(i:Int))),v1,v2,v3])∧ys=((Zm n n).take j).map (fun p=>(q2 p,V.int (Zag g (i+1) p.1 p.2)))∧H4 D=some (.dT ys)∧j≤(Zm n n).length∧Zn H3 H4) ⟨⟨none,none,none,rfl⟩,rfl,Zb,Ql _,Zd hD _⟩ (fun _ _ _ _ h=>h.2.2.2.2 _ _ hf) ?_ ?_
  ·rintro j ks x ys σ H4 p b hj ⟨⟨v1,v2,v3,rfl⟩,rfl,hD4,_,s4⟩ hp hb
   unfold Z6 at hj
   rw[Qr]at hj
   cases hpj:(Zm n n)[j]? with
   | none=>rw[hpj]at hj;cases hj
   | some pr =>
   rw[hpj]at hj
   cases hj
   obtain⟨x,y⟩:=pr
   have hjl:=(Qn.mp hpj).1
   obtain⟨hxy,hyn⟩:=Za5.mp (QA hpj)
   have s5:=Zd hp (.tup [.ref b,.int (g x y)])
   have f5:(upd H4 p (.tup [.ref b,.int (g x y)])) p=some (.tup [.ref b,.int (g x y)]):=Zb
   generalize upd H4 p (.tup [.ref b,.int (g x y)])=H5 at s5 f5 ⊢
   have hb5:=s5 _ _ hb
   refine⟨p,_,rfl,SqT.of f5,rfl,_,_,rfl,b,_,rfl,SqT.of hb5,rfl,_,_,rfl,_,_,rfl,rfl,_,_,rfl,rfl,?_⟩
   refine⟨_,rfl,_,rfl,(by show 2≤sizeLine;decide),fun kp hkp=>?_⟩
   have s6:=Zd hkp (.tup ((q2 (x,y)).map kV))
   have f6:(upd H5 kp (.tup ((q2 (x,y)).map kV))) kp=some (.tup ((q2 (x,y)).map kV)):=Zb
   refine⟨_,rfl,(by show 1≤sizeLine;decide),fun l1 hl1=>?_⟩
   change (upd H5 kp (.tup ((q2 (x,y)).map kV))) l1=none at hl1
   have s7:=Zd hl1 (.lst [.int (g x y)])
   have f7:(upd (upd H5 kp (.tup ((q2 (x,y)).map kV))) l1 (.lst [.int (g x y)])) l1=some (.lst [.int (g x y)]):=Zb
   have f67:=s7 _ _ f6
   have s37:Zn H3 (upd (upd H5 kp (.tup ((q2 (x,y)).map kV))) l1 (.lst [.int (g x y)])):=fun z o hz=>s7 _ _ (s6 _ _ (s5 _ _ (s4 z o hz)))
   have hD7:=s7 _ _ (s6 _ _ (s5 _ _ hD4))
   change Zkh Zkr [] E0 _ _ (upd (upd H5 kp (.tup ((q2 (x,y)).map kV))) l1 (.lst [.int (g x y)])) _
   generalize upd (upd H5 kp (.tup ((q2 (x,y)).map kV))) l1 (.lst [.int (g x y)])=H7 at s7 f7 f67 s37 hD7 ⊢
   refine⟨_,rfl,_,rfl,_,rfl,_,rfl,d,c,_,_,x,y,g,Zag g i,rfl,Zdg (.inr ⟨o,hf⟩) s37,Zdg hcr s37,hxy,by omega,fun m m1 m2=>⟨Zb8 g m1 (by omega),Zb8 (Zag g i) m2 hyn⟩,fun r H8 hr hr8 s8=>?_⟩
   refine⟨l1,r,_,_,rfl,rfl,s8 _ _ f7,hr8,by rw[Qb];unfold psF;rw[Qb,ZdX,Qy,sizeLine_eq];omega,fun p3 hp3=>?_⟩
   have s9:=Zd hp3 (.lst ([.int (g x y)]++(psF g (Zag g i) x y).map V.int))
   have f9:(upd H8 p3 (.lst ([.int (g x y)]++(psF g (Zag g i) x y).map V.int))) p3=some (.lst ((g x y::psF g (Zag g i) x y).map V.int)):=Zb
   generalize upd H8 p3 (.lst ([.int (g x y)]++(psF g (Zag g i) x y).map V.int))=H9 at s9 f9 ⊢
   refine⟨p3,_,rfl,SqL.of f9,by simp,fun M hM hle=>?_⟩
   have eM:M=Zag g (i+1) x y:=Zgq hM hle
   subst eM
   have hD9:=s9 _ _ (s8 _ _ hD7)
   refine⟨kp,q2 (x,y),rfl,hD9,s9 _ _ (s8 _ _ f67),Zei (g:=Zag g (i+1)) (Zga hpj),by rw[Qb,Qu,sizeLine_eq];omega,⟨_,_,_,rfl⟩,(Zgy hpj).symm,Zb,hjl,fun z u hz=>?_⟩
   rw[Zj (Zg hz hD)]
   exact s9 _ _ (s8 _ _ (s37 z u hz))
  ·rintro ys σ H4 ⟨⟨v1,v2,v3,rfl⟩,rfl,hD4,_,s4⟩
   rw[lK,Qq (Qd _)]at hD4
   have hf4:=s4 _ _ hf
   refine⟨o,hf4,D,_,rfl,by rw[Zj nDd.symm];exact hD4,fun z u hz=>?_⟩
   have hz2:=s2 z u hz
   by_cases e:z=d
   ·subst e
    rw[hd]at hz
    cases hz
    exact Zb
   ·rw[Zj e];exact s4 _ _ (hds z u hz2 e)
 ·rintro σ H2 ⟨c,v,rfl,hc,s2⟩
  exact⟨_,rfl,q c H2 hc s2⟩
def Zjy(K:PySem.W.Frag):Sp:=fun vs H Q _=>∃ (a d c:Addr) (ns:List Int) (wy b e:Nat) (g:Nat→Nat→Int),vs=[.ref a,.ref d,.ref c,.int b,.int e]∧SqL K H a (ns.map V.int)∧ns.length≤12∧(∀v∈ns,0≤v∧v≤1000000000)∧H d=some (.dT (Z6 ns.length g))∧H c=some (.dT (Z6 ns.length (Zag g (wy-2))))∧b<e∧e≤ns.length ∧
 ∀ (H':Hp),Zn H H'→Q (.int (Zce ns g wy b e)) H'
theorem ZhR{ns:List Int}{b e:Nat}(hb:b≤e)(he:e≤ns.length):Zbw (ns.map V.int) (some (b:Int)) (some (e:Int))=((ns.drop b).take (e-b)).map V.int:=by
 unfold Zbw
 rw[HT.sIx_nat,HT.sIx_nat,Qb,Nat.min_eq_left (by omega),Nat.min_eq_left (by omega),List.map_take,List.map_drop]
theorem Zlw(T:Zar K mg)(f_part_sums:Df P w K mg base 1 "part_sums" ["priced", "cut", "begin", "end"] Zkr):Df P w K mg base 2 "most_price" ["sizes", "priced", "cut", "begin", "end"] (Zjy K):=by
 refine T.t_most_price.df Zes (fun vs H Q E h=>?_) (fun cdv f A outer s H vs Q E hr h=>?_)
 ·obtain⟨a,d,c,ns,wy,b,e,g,rfl,_⟩:=h
  rfl
 obtain⟨a,d,c,ns,wy,b,e,g,rfl,hS,n12,hns,hd,hc,hbe,he,q⟩:=h
 refine⟨_,#[Zh,#[ZZ,#[ZA,ZdK,#[Zq,ZbL,‹4›,‹3›],#[Ze],(ZF _)],#[Zi,#[Zl,#[Ze]]],#[ZD]],#[Zi,#[Zl,#[Zq,ZM,#[Zk,(Zkm K),(by rfl),T.b.n_sum,boot_sum,#[Za,#[Zbv,(slL K),‹0›,#[ZaQ,‹3›],#[ZaQ,‹4›]],#[Zc]]],#[Zk,(ZmZ K),(by rfl),T.b.n_min,boot_min,#[Za,#[Zs,f_part_sums,hr,#[Za,‹1›,#[Za,‹2›,#[Za,‹3›,#[Za,‹4›,#[Zc]]]]],(by rfl)],#[Zc]]]]]]],?_⟩
 unfold Zce at q
 refine⟨_,rfl,_,rfl,_,_,rfl,rfl,rfl,_,rfl,ZdN (fun h1=>?_) (fun h1=>?_)⟩
 ·have h1:=of_decide_eq_true h1
  have h1:(e:Int)-(b:Int)=1:=by injection h1
  have:=q H (Zn.refl H)
  rw[if_pos (by omega)]at this
  exact this
 ·have h1:¬ e-b=1:=fun z=>h1 (decide_eq_true (by show V.int ((e:Int)-(b:Int))=V.int 1;rw[show (e:Int)-(b:Int)=1 by omega]))
  refine⟨_,rfl,_,rfl,_,rfl,_,rfl,_,rfl,a,_,rfl,hS,fun sl hsl=>?_⟩
  have s2:=Zd hsl (.lst (Zbw (ns.map V.int) (some (b:Int)) (some (e:Int))))
  have f2:(upd H sl (.lst (Zbw (ns.map V.int) (some (b:Int)) (some (e:Int))))) sl=some (.lst (Zbw (ns.map V.int) (some (b:Int)) (some (e:Int)))):=Zb
  generalize upd H sl (.lst (Zbw (ns.map V.int) (some (b:Int)) (some (e:Int))))=H2 at s2 f2 ⊢
  rw[ZhR (by omega) he]at f2
  refine⟨sl,_,rfl,SqL.of f2,by rw[Qu,QN];omega,fun v hv=>?_,?_⟩
  ·have:=hns v (Qad (Qac hv));omega
  refine⟨_,rfl,_,rfl,_,rfl,_,rfl,d,c,_,_,b,e,g,Zag g (wy-2),rfl,.inl (s2 _ _ hd),.inl (s2 _ _ hc),hbe,by omega,fun m m1 m2=>⟨Zb8 g m1 (by omega),Zb8 (Zag g (wy-2)) m2 he⟩,fun r H3 hr hr3 s3=>?_⟩
  have hne:psF g (Zag g (wy-2)) b e≠[]:=by
   have:g b (b+1)+Zag g (wy-2) (b+1) e∈psF g (Zag g (wy-2)) b e:=QC.mpr ⟨b+1,Zbo.mpr ⟨by omega,by omega⟩,rfl⟩
   exact fun z=>by rw[z]at this;cases this
  refine⟨r,_,rfl,SqL.of hr3,QaP.mpr hne,fun M hM hle=>⟨_,_,rfl,rfl,?_⟩⟩
  have:=q H3 (s2.trans s3)
  rw[if_neg h1,← Zgq hM hle]at this
  exact this
mutual
theorem ZdY(w:Nat):∀d:PyData,okD w d→∃t:PT,toD t=d∧tPl w t∧lvD d=tLv t
 | .int k,_=>⟨.leaf k,rfl,trivial,rfl⟩
 | .tuple l,h=>by
  obtain⟨a,b,c⟩:=(show 2≤l.length∧l.length≤w∧Za7 w l from h)
  obtain⟨ts,e,p,v,n⟩:=ZeA w l c
  exact⟨.node ts,by show PyData.tuple (Z0 ts)=_;rw[e],⟨by omega,by omega,p⟩,v⟩
 | .none,h=>(show False from h).elim
 | .bool _,h=>(show False from h).elim
 | .str _,h=>(show False from h).elim
 | .list _,h=>(show False from h).elim
 | .dict _,h=>(show False from h).elim
theorem ZeA(w:Nat):∀l:List PyData,Za7 w l→∃ts:List PT,Z0 ts=l∧Zb4 w ts∧Za2 l=ZaC ts∧ts.length=l.length
 | [],_=>⟨[],rfl,trivial,rfl,rfl⟩
 | d::r,h=>by
  obtain⟨a,b⟩:=(show okD w d∧Za7 w r from h)
  obtain⟨t,e1,p1,v1⟩:=ZdY w d a
  obtain⟨ts,e2,p2,v2,n⟩:=ZeA w r b
  refine⟨t::ts,by show toD t::Z0 ts=_;rw[e1,e2],⟨p1,p2⟩,?_,by rw[QE,QE,n]⟩
  show lvD d++Za2 r=tLv t++ZaC ts
  rw[v1,v2]
end
mutual
theorem TV.of_dh{H:Hp}:∀ (t:PT) {x:V},DH H x (toD t)→TV H x t
 | .leaf k,_,h=>by
  have h:DH H _ (.int k):=h
  cases h
  exact .leaf k
 | .node l,_,h=>by
  have h:DH H _ (.tuple (Z0 l)):=h
  cases h with
  | tup ha hs=>exact .node ha (TVs.of_dh l hs)
theorem TVs.of_dh{H:Hp}:∀ (l:List PT) {xs:List V},DHs H xs (Z0 l)→TVs H xs l
 | [],_,h=>by
  have h:DHs H _ []:=h
  cases h
  exact .nil
 | t::r,_,h=>by
  have h:DHs H _ (toD t::Z0 r):=h
  cases h with
  | cons ha hs=>exact .cons (TV.of_dh t ha) (TVs.of_dh r hs)
end
def Zbn:PyData→Bool
 | .tuple [a,b,c]=>ZJ a&&(ZJ b&&ZJ c)
 | _=>false
theorem ZhF{ds:List PyData}(h:ds.length≠3):Zbn (.tuple ds)=false:=by
 match ds,h with
 | [],_=>rfl
 | [_],_=>rfl
 | [_,_],_=>rfl
 | [_,_,_],h=>exact absurd rfl h
 | _::_::_::_::_,_=>rfl
theorem ZfV{d:PyData}(h:ZcP d=false):Zbn d=false:=by
 cases d with
 | tuple l=>cases h
 | _=>rfl
def ZeB:Sp:=fun vs H Q _=>∃ (x:V) (d:PyData),vs=[x]∧DH H x d∧Q (.bl (Zbn d)) H
theorem Zg3(T:Zar K mg)(f_is_number:Df P w K mg base 1 "is_number" ["thing"] ZgY):Df P w K mg base 2 "is_triple" ["thing"] ZeB:=by
 refine T.t_is_triple.df Zfs (fun vs H Q E h=>?_) (fun cdv f A outer s H vs Q E hr h=>?_)
 ·obtain⟨x,d,rfl,_⟩:=h
  rfl
 obtain⟨x,d,rfl,hd,q⟩:=h
 refine⟨_,#[Zh,#[ZZ,(@PW.pt _ _ _ #[Zcd,#[ZaO,#[Zaf,#[Zk,(Zcs K),(by rfl),T.b.n_isinstance,boot_isinstance,#[Za,‹0›,#[Za,#[Za6,T.b.n_tuple,boot_tuple,(by rfl)],#[Zc]]]]]],#[ZbJ,#[ZA,ZfH,#[Zk,(ZbC K),(by rfl),T.b.n_len,QB,#[Za,‹0›,#[Zc]]],#[Ze],(ZF _)]]]),#[Zi,#[Zl,#[Zae]]],#[ZD]],#[Zi,#[Zl,#[Zdt,#[Zs,f_is_number,hr,#[Za,#[ZI,(ixT K),‹0›,#[Ze]],#[Zc]],(by rfl)],#[Zdt,#[Zs,f_is_number,hr,#[Za,#[ZI,(ixT K),‹0›,#[Ze]],#[Zc]],(by rfl)],(@Zej _ _ _ _ _ #[Zs,f_is_number,hr,#[Za,#[ZI,(ixT K),‹0›,#[Ze]],#[Zc]],(by rfl)])]]]]],?_⟩
 refine⟨_,rfl,_, "tuple",_,_,rfl,hd.ty,hd.kT K,_,rfl,?_⟩
 cases hT:ZcP d with
 | false=>rw[ZfV hT]at q;exact ZY (ZY q)
 | true =>
  obtain⟨p,xs,ds,rfl,rfl,hp,hs⟩:=hd.tup_inv hT
  have hl:=hs.length
  refine ZaB ⟨_,rfl,p,_,rfl,.inr (SqT.of hp),rfl,_,rfl,?_⟩
  by_cases h3:ds.length=3
  ·match ds,xs,hs,h3 with
   | [a,b,c],[x,y,z],.cons h1 (.cons h2 (.cons h3' .nil)),_ =>
    refine Zgf rfl ?_
    refine⟨_,rfl,p,_,0,_,rfl,rfl,SqT.of hp,rfl,x,a,rfl,h1,_,rfl,?_⟩
    have q:Q (.bl (ZJ a&&(ZJ b&&ZJ c))) H:=q
    cases ea:ZJ a with
    | false=>rw[ea]at q;exact ZaB q
    | true =>
     rw[ea,Bool.true_and]at q
     refine ZY ⟨_,rfl,p,_,1,_,rfl,rfl,SqT.of hp,rfl,y,b,rfl,h2,_,rfl,?_⟩
     cases eb:ZJ b with
     | false=>rw[eb]at q;exact ZaB q
     | true =>
      rw[eb,Bool.true_and]at q
      exact ZY ⟨_,rfl,p,_,2,_,rfl,rfl,SqT.of hp,rfl,z,c,rfl,h3',q⟩
  ·rw[ZhF h3]at q
   have e:(!decide (V.int ((xs.length:Nat):Int)=V.int 3))=true:=by
    rw[decide_eq_false]
    ·rfl
    ·intro z
     injection z with z
     omega
   rw[e]
   exact ZY q
theorem ZcZ{H:Hp}:∀ {xs:List V} {ds:List PyData},DHs H xs ds→(∀d∈ds,Zbn d=true)→∃ (ts:ZaX) (rows:List (Int×Int×Int)),xs=ZS ts∧AtT H ts∧ts.map (·.2)=rows.map q3∧ds=rows.map fun e=>tD (q3 e)
 | _,_,.nil,_=>⟨[],[],rfl,(fun t h=>by cases h),rfl,rfl⟩
 | _,_,.cons (x:=x) (d:=d) hd hs,h=>by
  obtain⟨ts,rows,e1,e2,e3,e4⟩:=ZcZ hs fun y hy=>h y (Qi _ hy)
  have ht:=h d (Qp ..)
  cases hd with
  | tup ha hs' =>
   rename_i a ys es
   match es,ht,hs' with
   | [u,v,z],ht,.cons h1 (.cons h2 (.cons h3 .nil)) =>
    have ht:(ZJ u&&(ZJ v&&ZJ z))=true:=ht
    rw[Qau,Qau]at ht
    obtain⟨i1,rfl,rfl⟩:=h1.int_inv ht.1
    obtain⟨i2,rfl,rfl⟩:=h2.int_inv ht.2.1
    obtain⟨i3,rfl,rfl⟩:=h3.int_inv ht.2.2
    refine⟨(a,q3 (i1,i2,i3))::ts,(i1,i2,i3)::rows,by rw[e1];rfl,fun t hm=>?_,by rw[QD,QD,e3],by rw[QD,e4];rfl⟩
    rcases QM.mp hm with rfl|hm
    ·exact ha
    ·exact e2 t hm
   | [],ht,_=>cases ht
   | [_],ht,_=>cases ht
   | [_,_],ht,_=>cases ht
   | _::_::_::_::_,ht,_=>cases ht
  | non=>cases ht
  | bl b=>cases ht
  | int i=>cases ht
  | str z=>cases ht
  | lst _ _=>cases ht
def k2e(e:Int×Int×Int):List Key:=[.inl e.1,.inl e.2.1]
def ZfA(n:Nat)(d:PyData):Prop:=∃rows:List (Int×Int×Int),d=.list (rows.map fun e=>tD (q3 e))∧rows.map k2e=(Zm n n).map q2
theorem ZgG(e:Int×Int×Int):Zbn (tD (q3 e))=true:=rfl
theorem ZlJ{H:Hp}{ts:ZaX}{rows:List (Int×Int×Int)}(h:ts.map (·.2)=rows.map q3)(hat:AtT H ts){i:Nat}{x:V}(hx:(ZS ts)[i]? = some x):∃ (p:Addr) (e:Int×Int×Int),x=.ref p∧H p=some (.tup [.int e.1,.int e.2.1,.int e.2.2])∧rows[i]? = some e:=by
 unfold ZS at hx
 rw[Qr]at hx
 cases ht:ts[i]? with
 | none=>rw[ht]at hx;cases hx
 | some t =>
  rw[ht]at hx
  injection hx with hx
  have h1:=congrArg (fun l:List (List Key)=>l[i]?) h
  simp only[List.getElem?_map,ht,Option.map_some]at h1
  cases hr:rows[i]? with
  | none=>rw[hr]at h1;cases h1
  | some e =>
   rw[hr]at h1
   injection h1 with h1
   have:=hat t (QA ht)
   rw[h1]at this
   exact⟨t.1,e,hx.symm,this,rfl⟩
theorem Zkb:∀l:List (List Key),(∀k∈l,∃i j:Int,k=[.inl i,.inl j])→PyData.canLayAll0 (l.map tD)=true∧PyData.depthAll (l.map tD)≤1
 | [],_=>⟨rfl,Ql _⟩
 | k::r,h=>by
  obtain⟨a,b⟩:=Zkb r fun x hx=>h x (Qi _ hx)
  obtain⟨i,j,rfl⟩:=h k (Qp ..)
  refine⟨?_,?_⟩
  ·rw[QD]
   simp only[PyData.canLayAll0,a]
   simp[tD,Zg7,PyData.canLay0,PyData.canLayAll0]
  ·rw[QD]
   have h1:(tD [.inl i,.inl j]).depth≤1:=by simp[tD,Zg7,PyData.depth,PyData.depthAll]
   simp only[PyData.depthAll]
   omega
theorem Zcz{l:List (List Key)}(h:∀k∈l,∃i j:Int,k=[.inl i,.inl j]):SeqAt.shaped (.list (l.map tD))=true:=by
 obtain⟨a,b⟩:=Zkb l h
 simp[SeqAt.shaped,PyData.canLay0,PyData.depth,a]
 omega
theorem Zfl:∀ {l m:List (List Key)},(∀k∈l,∃i j:Int,k=[.inl i,.inl j])→(∀k∈m,∃i j:Int,k=[.inl i,.inl j])→(PyData.eqv (.list (l.map tD)) (.list (m.map tD))=true↔l=m)
 | [],[],_,_=>⟨fun _=>rfl,fun _=>by ac_rfl⟩
 | [],_::_,_,_=>⟨fun z=>by simp[PyData.eqv,PyData.eqvAll]at z,fun z=>by cases z⟩
 | _::_,[],_,_=>⟨fun z=>by simp[PyData.eqv,PyData.eqvAll]at z,fun z=>by cases z⟩
 | k::r,k'::r',h,h'=>by
  have ih:=Zfl (l:=r) (m:=r') (fun x hx=>h x (Qi _ hx)) fun x hx=>h' x (Qi _ hx)
  obtain⟨i,j,rfl⟩:=h k (Qp ..)
  obtain⟨i',j',rfl⟩:=h' k' (Qp ..)
  simp[PyData.eqv,PyData.eqvAll,tD,Zg7]at ih ⊢
  rw[ih]
  exact fun _ _=>Iff.rfl
theorem ZcS(rows:List (Int×Int×Int)):∀k∈rows.map k2e,∃i j:Int,k=[.inl i,.inl j]:=fun k hk=>by
 obtain⟨e,_,rfl⟩:=QC.mp hk
 exact⟨_,_,rfl⟩
theorem ZcW(n:Nat):∀k∈(Zm n n).map q2,∃i j:Int,k=[.inl i,.inl j]:=fun k hk=>by
 obtain⟨e,_,rfl⟩:=QC.mp hk
 exact⟨_,_,rfl⟩
def Zjd(K:PySem.W.Frag):Sp:=fun vs H Q _=>∃ (x:V) (n:Nat) (d:PyData),vs=[.int n,x]∧n≤12∧DH H x d∧d.weight≤100000 ∧
 ∀ (b:Bool) (H':Hp),(b=true↔ZfA n d)→Zn H H'→Q (.bl b) H'
theorem ZkR(T:Zar K mg)(f_is_triple:Df P w K mg base 2 "is_triple" ["thing"] ZeB)(f_stretches_of:Df P w K mg base 1 "stretches_of" ["many"] ZjZ):Df P w K mg base 3 "are_prices" ["many", "thing"] (Zjd K):=by
 refine T.t_are_prices.df ZcF (fun vs H Q E h=>?_) (fun cdv f A outer s H vs Q E hr h=>?_)
 ·obtain⟨x,n,d,rfl,_⟩:=h
  rfl
 obtain⟨x,n,d,rfl,n12,hd,hw,q⟩:=h
 refine⟨_,#[Zh,#[ZZ,#[ZaO,#[Zaf,#[Zk,(Zcs K),(by rfl),T.b.n_isinstance,boot_isinstance,#[Za,‹1›,#[Za,#[Za6,T.b.n_list,boot_list,(by rfl)],#[Zc]]]]]],#[Zi,#[Zl,#[Zae]]],#[ZD]],#[Zh,#[Zao,PassesOwn.never,#[iL,K,‹1›],#[Zx,2,ZcF.nd,(Or.inl rfl)],#[Zi,#[ZZ,#[ZaO,#[Zaf,#[Zs,f_is_triple,hr,#[Za,‹2›,#[Zc]],(by rfl)]]],#[Zi,#[Zl,#[Zae]]],#[ZD]]]],#[Zi,#[Zl,(@Zc3 _ _ _ _ _ _ _ _ (@eqD _ K _ hr (by rfl)) #[ZaU,Zh3,#[iL,K,‹1›],(fun _ _ _ _=>#[gT,K,3,#[Zz,#[cg,3,Zh3],#[Zz,#[cg,4,Zh3],#[Zz,#[cg,5,Zh3],(@ZaH _)]]]]),(fun _ _ _ _=>(@ZaI _)),(fun _ _ _ _=>#[Zv,#[Za,#[cw,3,Zh3],#[Za,#[cw,4,Zh3],#[Zc]]]])] #[Zs,f_stretches_of,hr,#[Za,‹0›,#[Zc]],(by rfl)] (ZF _))]]]],?_⟩
 refine⟨_,rfl,_, "list",_,_,rfl,hd.ty,hd.kL K,_,rfl,?_⟩
 cases hT:Zfg d with
 | false =>
  refine ZY (q false H ⟨fun z=>(by cases z),fun ⟨rows,e,_⟩=>?_⟩ (Zn.refl H))
  rw[e]at hT
  cases hT
 | true =>
  obtain⟨r,xs,ds,rfl,rfl,hr0,hs⟩:=hd.lst_inv hT
  refine ZaB ⟨_,rfl,r,rfl,⟨_,SqL.of hr0⟩,?_⟩
  refine Zdi (K:=K) (a:=r) (xs:=xs) (fun i σ H2=>(∃v:Option V,σ=[some (.int n),some (.ref r),v])∧Zn H H2∧∀j,j<i→∀d,ds[j]? = some d→Zbn d=true) ⟨⟨none,rfl⟩,Zn.refl H,fun j hj=>by omega⟩ (fun _ _ _ _ h=>SqL.of (h.2.1 _ _ hr0)) ?_ ?_
  ·rintro i x σ H2 hx ⟨⟨v,rfl⟩,s2,hj⟩
   obtain⟨d,hdi,hdx⟩:=hs.get hx
   refine⟨_,rfl,x,d,rfl,hdx.mono s2,_,rfl,?_⟩
   cases et:Zbn d with
   | true =>
    refine ZaB ⟨⟨_,rfl⟩,s2,fun j hj' d' hd'=>?_⟩
    rcases Nat.lt_succ_iff_lt_or_eq.mp hj' with hj'|rfl
    ·exact hj j hj' d' hd'
    ·rw[hdi]at hd';injection hd' with hd';rw[← hd'];exact et
   | false =>
    refine ZY (q false H2 ⟨fun z=>(by cases z),fun ⟨rows,e,_⟩=>?_⟩ s2)
    injection e with e
    rw[e,Qr]at hdi
    cases er:rows[i]? with
    | none=>rw[er]at hdi;cases hdi
    | some u =>
     rw[er]at hdi
     injection hdi with hdi
     rw[← hdi,ZgG]at et
     cases et
  ·rintro σ H2 ⟨⟨v,rfl⟩,s2,hj⟩
   obtain⟨ts,rows,rfl,hat,hE,ed⟩:=ZcZ hs fun d hd=>by
    obtain⟨i,hi,e⟩:=List.getElem_of_mem hd
    exact hj i (by rw[hs.length];exact hi) d (by rw[Qc hi,e])
   have hr2:=s2 _ _ hr0
   have lts:ts.length≤100000:=by
    have h9:=Zg6 ds
    have h8:=hs.length
    rw[ZT]at h8
    have:(PyData.list ds).weight=PyData.weightAll ds:=rfl
    omega
   have lrw:ts.length=rows.length:=by have:=congrArg List.length hE;simpa using this
   refine⟨_,rfl,r,rfl,⟨_,SqL.of hr2⟩,fun D hD=>?_⟩
   refine ZcA (K:=K) (a:=r) (xs:=ZS ts) (fun i ys σ H3=>(∃v1 v2 v3 v4:Option V,σ=[some (.int n),some (.ref r),v1,v2,v3,v4])∧(∃us:ZaX,ys=ZS us∧AtT H3 us∧us.map (·.2)=(rows.take i).map k2e)∧i≤ts.length∧H3 D=some (.lst ys)∧Zn H2 H3) ⟨⟨_,none,none,none,rfl⟩,⟨[],rfl,(fun t h=>by cases h),rfl⟩,Ql _,Zb,Zd hD _⟩ (fun _ _ _ _ h=>SqL.of (h.2.2.2.2 _ _ hr2)) ?_ ?_
   ·rintro i x ys σ H3 hx ⟨⟨v1,v2,v3,v4,rfl⟩,⟨us,rfl,hau,hEu⟩,_,hD3,s3⟩
    obtain⟨p,e,rfl,hp,hbe⟩:=ZlJ hE hat hx
    have hil:i<ts.length:=by have:=(Qn.mp hbe).1;omega
    have hul:us.length≤100000:=by
     have:=congrArg List.length hEu
     rw[Qb,Qb,Qu]at this
     omega
    refine⟨p,_,rfl,SqT.of (s3 _ _ (s2 _ _ hp)),rfl,_,_,rfl,_,_,rfl,_,_,rfl,rfl,?_⟩
    refine⟨_,rfl,_,rfl,(by show 2≤sizeLine;decide),fun m hm=>?_⟩
    have sn:=Zd hm (.tup [.int e.1,.int e.2.1])
    have hD5:=sn _ _ hD3
    have nDn:D≠m:=Zg hD3 hm
    refine⟨hD5,(by rw[ZT,sizeLine_eq];omega),⟨_,_,_,_,rfl⟩,⟨us++[(m,k2e e)],by unfold ZS;rw[Qh];rfl,fun t ht=>?_,?_⟩,hil,Zb,fun b' o hb=>?_⟩
    ·rcases Qt.mp ht with ht|ht
     ·exact Zau hD5 _ _ _ (sn _ _ (hau t ht))
     ·rw[Qg.mp ht,Zj nDn.symm];exact Zb
    ·rw[Qh,hEu,Qw,hbe,Qh];rfl
    ·rw[Zj (Zg hb hD)];exact sn _ _ (s3 b' o hb)
   ·rintro ys σ H3 ⟨⟨v1,v2,v3,v4,rfl⟩,⟨us,rfl,hau,hEu⟩,_,hD3,s3⟩
    rw[ZT,lrw,Qq (Qd _)]at hEu
    refine⟨_,rfl,n,rfl,n12,fun so ws H4 hso hs4 haw hEw s4=>?_⟩
    have d1:us.map (fun t=>tD t.2)=(rows.map k2e).map tD:=by
     have:=congrArg (List.map tD) hEu
     rw[Q3]at this;exact this
    have d2:ws.map (fun t=>tD t.2)=((Zm n n).map q2).map tD:=by
     have:=congrArg (List.map tD) hEw
     rw[Q3]at this;exact this
    have v1':=Zc9 (K:=K) us (AtT.mono hau s4)
    have v2':=Zc9 (K:=K) ws haw
    rw[d1]at v1'
    rw[d2]at v2'
    refine⟨_,_,.lst (SqL.of (s4 _ _ hD3)) v1',.lst (SqL.of hs4) v2',Zcz (ZcS rows),Zcz (ZcW n),?_⟩
    rw[if_neg Qj]
    refine q _ H4 ((Zfl (ZcS rows) (ZcW n)).trans ⟨fun z=>⟨rows,by rw[ed],z⟩,fun ⟨rows',e',z'⟩=>?_⟩) ((s2.trans s3).trans s4)
    injection e' with e'
    rw[ed]at e'
    have inj:rows=rows':=List.map_inj_right (fun x y h=>by
     obtain⟨x1,x2,x3⟩:=x
     obtain⟨y1,y2,y3⟩:=y
     simp[tD,q3,Zg7]at h
     obtain⟨rfl,rfl,rfl⟩:=h
     rfl) |>.mp e'
    rw[inj];exact z'
theorem ZgK{n k:Nat}(h:n≤k):∀v∈Z8 0 n,0≤v∧v<(k:Int):=fun v hv=>by
 unfold Z8 at hv
 obtain⟨i,hi,rfl⟩:=QC.mp hv
 have:=QK.mp hi
 omega
def Zgb(n wy:Nat)(d:PyData):Prop:=okD wy d∧lvD d=Z8 0 n
theorem Zi3(n:Nat):(Z8 0 n).Nodup:=by
 unfold Z8
 exact Qa0.mpr (List.nodup_range.imp fun h g=>h (by omega))
theorem ZcD:∀l m:List Int,(PyData.eqv (.list (l.map PyData.int)) (.list (m.map PyData.int))=true↔l=m)
 | [],[]=>⟨fun _=>rfl,fun _=>by ac_rfl⟩
 | [],_::_=>⟨fun z=>by simp[PyData.eqv,PyData.eqvAll]at z,fun z=>by cases z⟩
 | _::_,[]=>⟨fun z=>by simp[PyData.eqv,PyData.eqvAll]at z,fun z=>by cases z⟩
 | i::r,j::r'=>by
  have ih:=ZcD r r'
  simp[PyData.eqv,PyData.eqvAll]at ih ⊢
  rw[ih]
  exact fun _=>Iff.rfl
theorem ZeY:∀l:List Int,PyData.canLayAll0 (l.map PyData.int)=true∧PyData.depthAll (l.map PyData.int)=0
 | []=>⟨rfl,rfl⟩
 | i::r=>by
  obtain⟨a,b⟩:=ZeY r
  refine⟨by simp[PyData.canLayAll0,PyData.canLay0,a],?_⟩
  show max 0 (PyData.depthAll (r.map PyData.int))=0
  omega
theorem Zba(l:List Int):SeqAt.shaped (.list (l.map PyData.int))=true:=by
 obtain⟨a,b⟩:=ZeY l
 simp[SeqAt.shaped,PyData.canLay0,PyData.depth,a]
 omega
def ZhG(m:Nat):Sp:=fun vs H Q _=>∃ (a:Addr) (ns:List Int) (wy:Nat) (x:V) (d:PyData),vs=[.ref a,.int wy,x]∧H a=some (.lst (ns.map V.int))∧ns.length≤100∧DH H x d∧d.depth<m ∧
 ∀ (b:Bool) (H':Hp),(b=true↔Zgb ns.length wy d)→Zn H H'→Q (.bl b) H'
theorem Zi7(T:Zar K mg)(m:Nat)(f_finds_rows:Df P w K mg base (m+1) "finds_rows" ["sizes", "ways", "thing", "found"] (Znt m)):Df P w K mg base (m+2) "is_near" ["sizes", "ways", "thing"] (ZhG m):=by
 refine T.t_is_near.df Zd6 (fun vs H Q E h=>?_) (fun cdv f A outer s H vs Q E hr h=>?_)
 ·obtain⟨a,ns,wy,x,d,rfl,_⟩:=h
  rfl
 obtain⟨a,ns,wy,x,d,rfl,hS,n12,hT,hdp,q⟩:=h
 refine⟨_,#[Zh,#[Zw,3,Zd6.nd,(Or.inl rfl),#[ZG,#[Zc]]],#[Zi,#[Zl,#[Zdt,#[Zs,f_finds_rows,hr,#[Za,‹0›,#[Za,‹1›,#[Za,‹2›,#[Za,‹3›,#[Zc]]]]],(by rfl)],(@Zej _ _ _ _ _ (@Zc3 _ _ _ _ _ _ _ _ (@eqD _ K _ hr (by rfl)) ‹3› #[Zac,Zj0,T.b.n_list,boot_list,#[Za,#[Zac,Zmm,T.b.n_range,boot_range,#[Za,#[Zk,(ZbC K),(by rfl),T.b.n_len,QB,#[Za,‹0›,#[Zc]]],#[Zc]]],#[Zc]]] (ZF _)))]]]],?_⟩
 refine⟨(by show 0≤sizeLine;decide),fun fo hfo=>?_⟩
 have s1:=Zd hfo (.lst [])
 have naf:a≠fo:=Zg hS hfo
 have hls:(((ns.map V.int).length:Nat):Int)=(ns.length:Int):=by rw[Qb]
 have hoff:Zn H (off fo (upd H fo (.lst []))):=fun b o hb=>by
  have nb:=Zg hb hfo
  exact ZbH (by rw[Zj nb];exact hb) nb
 refine⟨_,rfl,_,rfl,_,rfl,_,rfl,a,fo,ns,[],wy,x,d,rfl,s1 _ _ hS,Zb,naf,n12,hT.mono hoff,hdp,List.nodup_nil,(fun k hk=>by cases hk),fun bo fs2 H2 hF2 k2 nd2 in2 hbo he2=>⟨_,rfl,?_⟩⟩
 have s2:Zn H H2:=fun b o hb=>k2 b o (s1 b o hb) (Zg hb hfo)
 cases bo with
 | false =>
  refine ZaB (q false H2 ⟨fun z=>(by cases z),fun ⟨z1,z2⟩=>?_⟩ s2)
  have:=hbo.mpr ⟨z1,by rw[List.nil_append,z2];exact Zi3 _,by rw[z2];exact ZgK (Qd _)⟩
  cases this
 | true =>
  obtain⟨y1,y2,y3⟩:=hbo.mp rfl
  have e2:=he2 rfl
  rw[List.nil_append]at e2
  subst e2
  refine ZY ⟨_,rfl,_,rfl,a,_,rfl,.inl (SqL.of (s2 _ _ hS)),_,rfl,fun rg hrg=>?_⟩
  have s3:=Zd hrg (.rng 0 (((ns.map V.int).length:Nat):Int))
  refine⟨rg,0,_,rfl,Zb,by omega,by omega,by rw[hls];omega,by rw[hls];omega,by rw[hls];omega,fun l hl'=>?_⟩
  have s4:=Zd hl' (.lst ((Z8 0 ((((ns.map V.int).length:Nat):Int)-0).toNat).map V.int))
  have f4:(upd (upd H2 rg (.rng 0 (((ns.map V.int).length:Nat):Int))) l (.lst ((Z8 0 ((((ns.map V.int).length:Nat):Int)-0).toNat).map V.int))) l=some (.lst ((Z8 0 ((((ns.map V.int).length:Nat):Int)-0).toNat).map V.int)):=Zb
  have s24:=s3.trans s4
  generalize upd (upd H2 rg (.rng 0 (((ns.map V.int).length:Nat):Int))) l (.lst ((Z8 0 ((((ns.map V.int).length:Nat):Int)-0).toNat).map V.int))=H4 at f4 s24 ⊢
  rw[show ((((ns.map V.int).length:Nat):Int)-0).toNat=ns.length by rw[hls];omega]at f4
  refine⟨.list ((lvD d).map PyData.int),.list ((Z8 0 ns.length).map PyData.int),.lst (SqL.of (s24 _ _ hF2)) (Zcq _),.lst (SqL.of f4) (Zcq _),Zba _,Zba _,?_⟩
  rw[if_neg Qj]
  exact q _ H4 ((ZcD _ _).trans ⟨fun z=>⟨y1,z⟩,fun z=>z.2⟩) (s2.trans s24)
theorem Zd2:∀ {S:List (Nat×Nat)} {rows:List (Int×Int×Int)},S.Nodup→rows.map k2e=S.map q2→∃g:Nat→Nat→Int,rows=S.map (tri g)
 | [],[],_,_=>⟨fun _ _=>0,rfl⟩
 | [],_::_,_,h=>by cases h
 | _::_,[],_,h=>by cases h
 | p::S,e::rows,nd,h=>by
  rw[QD,QD]at h
  injection h with h1 h2
  obtain⟨n1,n2⟩:=QaS.mp nd
  obtain⟨g,hg⟩:=Zd2 n2 h2
  refine⟨fun b c=>if (b,c)=p then e.2.2 else g b c,?_⟩
  obtain⟨e1,e2,e3⟩:=e
  obtain⟨p1,p2⟩:=p
  have h1:([.inl e1,.inl e2]:List Key)=[.inl (p1:Int),.inl (p2:Int)]:=h1
  injection h1 with a b
  injection a with a
  injection b with b _
  injection b with b
  rw[QD]
  congr 1
  ·show (e1,e2,e3)=((p1:Int),(p2:Int),if (p1,p2)=(p1,p2) then e3 else g p1 p2)
   rw[if_pos rfl,a,b]
  ·rw[hg]
   refine List.map_congr_left fun u hu=>?_
   show ((u.1:Int),(u.2:Int),g u.1 u.2)=((u.1:Int),(u.2:Int),if (u.1,u.2)=(p1,p2) then e3 else g u.1 u.2)
   rw[if_neg]
   intro z
   apply n1
   rw[← z];exact hu
def PrL(H:Hp)(r:Addr)(n:Nat)(g:Nat→Nat→Int):Prop:=∃ts:ZaX,H r=some (.lst (ZS ts))∧AtT H ts∧ts.map (·.2)=((Zm n n).map (tri g)).map q3
theorem PrL.same{H H':Hp}{r:Addr}{n:Nat}{g:Nat→Nat→Int}(h:PrL H r n g)(s:Zn H H'):PrL H' r n g:=by
 obtain⟨ts,a,b,c⟩:=h
 exact⟨ts,s _ _ a,AtT.mono b s,c⟩
theorem pr_len'{n:Nat}{g:Nat→Nat→Int}{ts:ZaX}(h:ts.map (·.2)=((Zm n n).map (tri g)).map q3):ts.length=(Zm n n).length:=by
 have:=congrArg List.length h
 simpa using this
theorem ZjV{n:Nat}{g:Nat→Nat→Int}{ts:ZaX}{H:Hp}(h:ts.map (·.2)=((Zm n n).map (tri g)).map q3)(hat:AtT H ts){i:Nat}{x:V}(hx:(ZS ts)[i]? = some x):∃ (p:Addr) (b e:Nat),x=.ref p∧H p=some (.tup [.int b,.int e,.int (g b e)])∧(Zm n n)[i]? = some (b,e):=by
 unfold ZS at hx
 rw[Qr]at hx
 cases ht:ts[i]? with
 | none=>rw[ht]at hx;cases hx
 | some t =>
  rw[ht]at hx
  cases hx
  have h9:(ts.map (·.2))[i]? = some t.2:=by rw[Qr,ht];rfl
  rw[h,Qr,Qr]at h9
  cases hp:(Zm n n)[i]? with
  | none=>rw[hp]at h9;cases h9
  | some p =>
   rw[hp]at h9
   have h9:q3 (tri g p)=t.2:=QS h9
   have h8:=hat t (QA ht)
   rw[← h9]at h8
   exact⟨t.1,p.1,p.2,rfl,h8,rfl⟩
mutual
theorem Zhx:∀t t':PT,toD t=toD t'→t=t'
 | .leaf k,.leaf j,h=>by
  have h:PyData.int k=.int j:=h
  injection h with h
  rw[h]
 | .leaf k,.node m,h=>by
  have h:PyData.int k=.tuple (Z0 m):=h
  cases h
 | .node m,.leaf k,h=>by
  have h:PyData.tuple (Z0 m)=.int k:=h
  cases h
 | .node l,.node m,h=>by
  have h:PyData.tuple (Z0 l)=.tuple (Z0 m):=h
  injection h with h
  rw[Zgi l m h]
theorem Zgi:∀l m:List PT,Z0 l=Z0 m→l=m
 | [],[],_=>rfl
 | [],u::s,h=>by
  have h:[]=toD u::Z0 s:=h
  cases h
 | t::r,[],h=>by
  have h:toD t::Z0 r=[]:=h
  cases h
 | t::r,u::s,h=>by
  have h:toD t::Z0 r=toD u::Z0 s:=h
  injection h with h1 h2
  rw[Zhx t u h1,Zgi r s h2]
end
mutual
theorem Zkg(w:Nat):∀t:PT,tPl w t→okD w (toD t)∧lvD (toD t)=tLv t
 | .leaf k,_=>⟨trivial,rfl⟩
 | .node l,h=>by
  obtain⟨a,b,c⟩:=(show 2≤l.length∧l.length≤w∧Zb4 w l from h)
  obtain⟨c1,c2,c3⟩:=Zhl w l c
  exact⟨⟨by rw[c3];exact a,by rw[c3];exact b,c1⟩,c2⟩
theorem Zhl(w:Nat):∀l:List PT,Zb4 w l→Za7 w (Z0 l)∧Za2 (Z0 l)=ZaC l∧(Z0 l).length=l.length
 | [],_=>⟨trivial,rfl,rfl⟩
 | t::r,h=>by
  obtain⟨a,b⟩:=(show tPl w t∧Zb4 w r from h)
  obtain⟨a1,a2⟩:=Zkg w t a
  obtain⟨b1,b2,b3⟩:=Zhl w r b
  refine⟨⟨a1,b1⟩,?_,?_⟩
  ·show lvD (toD t)++Za2 (Z0 r)=tLv t++ZaC r
   rw[a2,b2]
  ·show (Z0 r).length+1=r.length+1
   rw[b3]
end
theorem Zhc{ns:List Int}{g g':Nat→Nat→Int}{wy b e n:Nat}(h:∀x y,x<y→y≤n→g x y=g' x y)(hb:b<e)(he:e≤n):Zce ns g wy b e=Zce ns g' wy b e:=by
 unfold Zce
 rw[ZeZ fun m a1 a2=>⟨h b m a1 (by omega),Zeg (wy-2) m e (fun x y x1 x2 x3=>h x y x2 (by omega)) a2⟩]
def ZdD(n:Nat)(g:Nat→Nat→Int):PyData:=.list ((Zm n n).map fun p=>tD (q3 (tri g p)))
theorem Zfw{e e':Int×Int×Int}(h:tD (q3 e)=tD (q3 e')):e=e':=by
 obtain⟨x1,x2,x3⟩:=e
 obtain⟨y1,y2,y3⟩:=e'
 simp[tD,q3,Zg7]at h
 obtain⟨rfl,rfl,rfl⟩:=h
 rfl
theorem ZjP{n:Nat}{g g':Nat→Nat→Int}(h:ZdD n g=ZdD n g'):∀x y,x<y→y≤n→g x y=g' x y:=fun x y h1 h2=>by
 have h:PyData.list ((Zm n n).map fun p=>tD (q3 (tri g p)))=.list ((Zm n n).map fun p=>tD (q3 (tri g' p))):=h
 injection h with h
 have h3:=List.map_inj_left.mp h (x,y) (Za5.mpr ⟨h1,h2⟩)
 have h4:=congrArg (fun e:Int×Int×Int=>e.2.2) (Zfw h3)
 exact h4
def ZlM(ns:List Int)(wy:Nat)(t:PT)(g:Nat→Nat→Int):Prop:=g 0 ns.length=tCo ns t∧∀x y,x<y→y≤ns.length→g x y≤Zce ns g wy x y
def Zdx(ns:List Int)(wy:Nat)(d e:PyData):Prop:=∃ (t:PT) (g:Nat→Nat→Int),d=toD t∧tPl wy t∧tLv t=Z8 0 ns.length∧e=ZdD ns.length g∧ZlM ns wy t g
theorem ZeF{ns:List Int}{wy:Nat}{d e:PyData}{t:PT}{g:Nat→Nat→Int}(n1:1≤ns.length)(e1:d=toD t)(h2:tPl wy t)(h3:tLv t=Z8 0 ns.length)(e4:e=ZdD ns.length g):Zdx ns wy d e↔ZlM ns wy t g:=by
 constructor
 ·rintro⟨t',g',e1',_,_,e4',c1,c2⟩
  have et:t=t':=Zhx _ _ (e1.symm.trans e1')
  subst et
  have eg:=ZjP (e4.symm.trans e4')
  refine⟨by rw[eg 0 _ (by omega) (Qd _)];exact c1,fun x y hx hy=>?_⟩
  rw[eg x y hx hy,Zhc eg hx hy]
  exact c2 x y hx hy
 ·exact fun c=>⟨t,g,e1,h2,h3,e4,c⟩
theorem Zdx.near{ns:List Int}{wy:Nat}{d e:PyData}(h:Zdx ns wy d e):Zgb ns.length wy d∧ZfA ns.length e:=by
 obtain⟨t,g,rfl,h2,h3,rfl,_⟩:=h
 obtain⟨a,b⟩:=Zkg wy t h2
 refine⟨⟨a,b.trans h3⟩,(Zm ns.length ns.length).map (tri g),?_,?_⟩
 ·unfold ZdD
  rw[Q3];rfl
 ·rw[Q3];rfl
theorem Zis{ns:List Int}{wy:Nat}{d:PyData}(h:Zgb ns.length wy d):∃t,d=toD t∧tPl wy t∧tLv t=Z8 0 ns.length∧tOk ns.length t∧tDp t+1≤ns.length∧tNo t+1≤2*ns.length:=by
 obtain⟨h1,h2⟩:=h
 obtain⟨t,e,p,v⟩:=ZdY wy d h1
 rw[v]at h2
 obtain⟨⟨g1,g2⟩,g3⟩:=ZeT t p
 rw[h2,Zc5]at g3
 refine⟨t,e.symm,p,h2,ZhA t fun k hk=>?_,by omega,by omega⟩
 rw[h2]at hk
 exact ZgK (Qd _) k hk
theorem Zg0{H:Hp}{n:Nat}{y:V}{e:PyData}(hy:DH H y e)(hp:ZfA n e):∃ (r:Addr) (g:Nat→Nat→Int),y=.ref r∧PrL H r n g∧e=ZdD n g:=by
 obtain⟨rows,rfl,hk⟩:=hp
 obtain⟨r,xs,ds,rfl,ed,hr0,hs⟩:=hy.lst_inv rfl
 injection ed with ed
 subst ed
 obtain⟨ts,rows',rfl,hat,hE,ed⟩:=ZcZ hs fun d hd=>by
  obtain⟨u,_,rfl⟩:=QC.mp hd
  exact ZgG u
 have er:rows=rows':=List.map_inj_right (fun x y h=>Zfw h) |>.mp ed
 subst er
 obtain⟨g,hg⟩:=Zd2 (ZdU n) hk
 refine⟨r,g,rfl,⟨ts,hr0,hat,by rw[hE,hg]⟩,?_⟩
 unfold ZdD
 rw[hg,Q3];rfl
def ZfQ(m:Nat):Sp:=fun vs H Q _=>∃ (a:Addr) (ns:List Int) (wy:Nat) (x y:V) (d e:PyData),vs=[.ref a,.int wy,x,y]∧H a=some (.lst (ns.map V.int))∧1≤ns.length∧ns.length≤12∧(∀v∈ns,0≤v∧v≤1000000000)∧2≤wy∧wy≤6∧DH H x d∧d.depth<m∧DH H y e∧e.weight≤100000 ∧
 ∀ (b:Bool) (H':Hp),(b=true↔Zdx ns wy d e)→Zn H H'→Q (.bl b) H'
theorem ZiB(T:Zar K mg)(m:Nat)(f_is_near:Df P w K mg base (m+2) "is_near" ["sizes", "ways", "thing"] (ZhG m))(f_are_prices:Df P w K mg base 3 "are_prices" ["many", "thing"] (Zjd K))(f_cost_of:Df P w K mg base 15 "cost_of" ["sizes", "tree"] (Zgv K 13))(f_cut_prices:Df P w K mg base 2 "cut_prices" ["priced", "most"] ZjB)(f_most_price:Df P w K mg base 2 "most_price" ["sizes", "priced", "cut", "begin", "end"] (Zjy K)):Df P w K mg base (m+16) "shows_near" ["sizes", "ways", "tree", "prices"] (ZfQ m):=by
 refine T.t_shows_near.df Zaj (fun vs H Q E h=>?_) (fun cdv f A outer s H vs Q E hr h=>?_)
 ·obtain⟨a,ns,wy,x,y,d,e,rfl,_⟩:=h
  rfl
 obtain⟨a,ns,wy,x,y,d,e,rfl,hS,n1,n12,hns,w2,w6,hX,hdp,hY,hew,q⟩:=h
 refine⟨_,#[Zh,#[ZZ,(@PW.pt _ _ _ #[Zcd,#[ZaO,#[Zaf,#[Zs,f_is_near,hr,#[Za,‹0›,#[Za,‹1›,#[Za,‹2›,#[Zc]]]],(by rfl)]]],#[ZbJ,#[ZaO,#[Zaf,#[Zs,f_are_prices,hr,#[Za,#[Zk,(ZbC K),(by rfl),T.b.n_len,QB,#[Za,‹0›,#[Zc]]],#[Za,‹3›,#[Zc]]],(by rfl)]]]]]),#[Zi,#[Zl,#[Zae]]],#[ZD]],#[Zh,(@Zgr _ _ _ _ _ 4 _ _ _ _ _ _ _ _ _ _ _ _ _ _ Zaj.nd rfl (Or.inl rfl) Zee rfl rfl rfl #[iL,K,‹3›] (fun _ _ _ _=>#[gT,K,3,#[Zz,#[cg,9,Zee],#[Zz,#[cg,10,Zee],#[Zz,#[cg,11,Zee],(@ZaH _)]]]]) (fun _ _ _ _=>(@ZaI _)) (fun _ _ _ _=>#[Zv,#[Za,#[cw,9,Zee],#[Za,#[cw,10,Zee],#[Zc]]]]) (fun _ _ _ _=>#[cw,11,Zee]) (ZaM.units hr) (by rfl) (by intro _;rfl) (by trivial)),#[Zh,#[ZZ,#[ZA,ZfH,#[ZI,(ixD hr),‹4›,#[Zv,#[Za,#[Ze],#[Za,#[Zk,(ZbC K),(by rfl),T.b.n_len,QB,#[Za,‹0›,#[Zc]]],#[Zc]]]]],#[Zs,f_cost_of,hr,#[Za,‹0›,#[Za,‹2›,#[Zc]]],(by rfl)],(ZF _)],#[Zi,#[Zl,#[Zae]]],#[ZD]],#[Zh,#[Zw,5,Zaj.nd,(Or.inl rfl),#[Zs,f_cut_prices,hr,#[Za,‹4›,#[Za,#[Zq,ZbL,‹1›,#[Ze]],#[Zc]]],(by rfl)]],#[Zh,#[Zao,PassesOwn.never,#[iL,K,‹3›],#[gT,K,3,#[Zz,#[Zx,6,Zaj.nd,(Or.inl rfl)],#[Zz,#[Zx,7,Zaj.nd,(Or.inl rfl)],#[Zz,#[Zx,8,Zaj.nd,(Or.inl rfl)],(@ZaH _)]]]],#[Zi,#[ZZ,#[ZA,ZeM,‹8›,#[Zs,f_most_price,hr,#[Za,‹0›,#[Za,‹4›,#[Za,‹5›,#[Za,‹6›,#[Za,‹7›,#[Zc]]]]]],(by rfl)],(ZF _)],#[Zi,#[Zl,#[Zae]]],#[ZD]]]],#[Zi,#[Zl,#[Zae]]]]]]]],?_⟩
 have hls:(((ns.map V.int).length:Nat):Int)=(ns.length:Int):=by rw[Qb]
 refine⟨_,rfl,_,rfl,_,rfl,a,ns,wy,x,d,rfl,hS,by omega,hX,hdp,fun b1 H1 hb1 s1=>⟨_,rfl,?_⟩⟩
 cases b1 with
 | false=>exact ZY (ZY (q false H1 ⟨fun z=>(by cases z),fun z=>absurd (hb1.mpr z.near.1) Qj⟩ s1))
 | true =>
 refine ZaB ?_
 refine⟨_,rfl,a,_,rfl,.inl (SqL.of (s1 _ _ hS)),_,rfl,y,ns.length,e,by rw[hls];rfl,n12,hY.mono s1,hew,fun b2 H2 hb2 s2=>⟨_,rfl,?_⟩⟩
 have s12:=s1.trans s2
 cases b2 with
 | false=>exact ZY (q false H2 ⟨fun z=>(by cases z),fun z=>absurd (hb2.mpr z.near.2) Qj⟩ s12)
 | true =>
 refine ZaB ?_
 obtain⟨t,rfl,hpl,hlv,hok,hdp,_⟩:=Zis (hb1.mp rfl)
 obtain⟨r,g,rfl,hpr,rfl⟩:=Zg0 hY (hb2.mp rfl)
 have hT:=TV.of_dh t hX
 have iff:=ZeF (ns:=ns) (wy:=wy) (t:=t) (g:=g) n1 rfl hpl hlv rfl
 obtain⟨ts,hr2,hat,hE⟩:=hpr.same s12
 have l144:=ZdS n12
 have lts:=pr_len' hE
 refine⟨_,rfl,r,rfl,⟨_,SqL.of hr2⟩,fun D hD=>?_⟩
 refine Zhh (K:=K) (a:=r) (xs:=ZS ts) (fun i ys σ H3=>(∃v1 v2 v3 v4 v5 v6 v7 v8:Option V,σ=[some (.ref a),some (.int wy),some x,some (.ref r),v1,v2,v3,v4,v5,v6,v7,v8])∧ys=((Zm ns.length ns.length).take i).map (fun p=>(q2 p,V.int (g p.1 p.2)))∧i≤ts.length∧H3 D=some (.dT ys)∧Zn H2 H3) ⟨⟨_,_,_,_,_,_,_,_,rfl⟩,rfl,Ql _,Zb,Zd hD _⟩ (fun _ _ _ _ h=>SqL.of (h.2.2.2.2 _ _ hr2)) ?_ ?_
 ·rintro i z ys σ H3 hz ⟨⟨v1,v2,v3,v4,v5,v6,v7,v8,rfl⟩,rfl,_,hD3,s3⟩
  obtain⟨p,b,e,rfl,hp,hbe⟩:=ZjV hE hat hz
  have hil:i<ts.length:=by have:=(Qn.mp hbe).1;omega
  refine⟨p,_,rfl,SqT.of (s3 _ _ hp),rfl,_,_,rfl,_,_,rfl,_,_,rfl,rfl,?_⟩
  refine⟨_,rfl,_,rfl,(by show 2≤sizeLine;decide),fun m hm=>?_⟩
  have sn:=Zd hm (.tup ((q2 (b,e)).map kV))
  have hD5:=sn _ _ hD3
  refine⟨_,rfl,m,q2 (b,e),rfl,hD5,Zb,Zei (g:=g) (Zga hbe),by rw[Qb,Qu,sizeLine_eq];omega,⟨_,_,_,_,_,_,_,_,rfl⟩,(Zgy hbe).symm,hil,Zb,fun b' o hb=>?_⟩
  rw[Zj (Zg hb hD)];exact sn _ _ (s3 b' o hb)
 ·rintro ys σ H3 ⟨⟨v1,v2,v3,v4,v5,v6,v7,v8,rfl⟩,rfl,_,hD3,s3⟩
  rw[ZT,lts,Qq (Qd _)]at hD3
  have hD3:H3 D=some (.dT (Z6 ns.length g)):=hD3
  have s03:=s12.trans s3
  have hT3:=hT.mono (ZX s03)
  refine⟨_,rfl,_,rfl,a,_,rfl,.inl (SqL.of (s03 _ _ hS)),(by show 2≤sizeLine;decide),fun k0 hk0=>?_⟩
  have s4:=Zd hk0 (.tup ((Kp 0 ns.length).map kV))
  have f4:(upd H3 k0 (.tup ((Kp 0 ns.length).map kV))) k0=some (.tup ((Kp 0 ns.length).map kV)):=Zb
  have e4:(.tup [.int 0,.int (((ns.map V.int).length:Nat):Int)]:HO)=.tup ((Kp 0 ns.length).map kV):=by rw[hls];rfl
  rw[e4]
  generalize upd H3 k0 (.tup ((Kp 0 ns.length).map kV))=H4 at s4 f4 ⊢
  have s04:=s03.trans s4
  refine⟨D,_,k0,_,_,rfl,rfl,s4 _ _ hD3,f4,Zb8 g (by omega) (Qd _),?_⟩
  refine⟨_,rfl,_,rfl,a,ns,x,t,rfl,SqL.of (s04 _ _ hS),hT3.mono (ZX s4),hok,by omega,fun H5 s5=>⟨rfl,_,rfl,?_⟩⟩
  by_cases hc:g 0 ns.length=tCo ns t
  ·refine Zgf (by rw[hc]) ?_
   have s05:=s04.trans s5
   have hD5:=s5 _ _ (s4 _ _ hD3)
   refine⟨_,rfl,_,rfl,_,_,rfl,rfl,D,ns.length,wy,g,rfl,hD5,n12,w2,w6,fun c H6 hc6 s6=>?_⟩
   have s06:=s05.trans s6
   have hD6:=s6 _ _ hD5
   obtain⟨us,hr6,hau,hEu⟩:=hpr.same s06
   have lus:=pr_len' hEu
   refine⟨_,rfl,r,rfl,⟨_,SqL.of hr6⟩,?_⟩
   refine Zdi (K:=K) (a:=r) (xs:=ZS us) (fun i σ H7=>(∃v1 v2 v3:Option V,σ=[some (.ref a),some (.int wy),some x,some (.ref r),some (.ref D),some (.ref c),v1,v2,v3])∧(∀p∈(Zm ns.length ns.length).take i,g p.1 p.2≤Zce ns g wy p.1 p.2)∧i≤us.length∧Zn H6 H7) ⟨⟨_,_,_,rfl⟩,(fun p hp=>by rw[Qax]at hp;cases hp),Ql _,Zn.refl _⟩ (fun _ _ _ _ h=>SqL.of (h.2.2.2 _ _ hr6)) ?_ ?_
   ·rintro i z σ H7 hz ⟨⟨v1,v2,v3,rfl⟩,hm,_,s7⟩
    obtain⟨p,b,e,rfl,hp,hbe⟩:=ZjV hEu hau hz
    have hil:i<us.length:=by have:=(Qn.mp hbe).1;omega
    obtain⟨hb1,he1⟩:=Za5.mp (QA hbe)
    refine⟨p,_,rfl,SqT.of (s7 _ _ hp),rfl,_,_,rfl,_,_,rfl,_,_,rfl,rfl,?_⟩
    have s07:=s06.trans s7
    refine⟨_,rfl,_,rfl,_,rfl,_,rfl,_,rfl,_,rfl,a,D,c,ns,wy,b,e,g,rfl,SqL.of (s07 _ _ hS),n12,hns,s7 _ _ hD6,s7 _ _ hc6,hb1,he1,fun H8 s8=>⟨_,_,rfl,rfl,_,rfl,ZdN (fun hgt=>?_) (fun hle=>?_)⟩⟩
    ·have hgt:=of_decide_eq_true hgt
     refine q false H8 ⟨fun h=>(by cases h),fun h=>?_⟩ (s07.trans s8)
     have:=(iff.mp h).2 b e hb1 he1
     omega
    ·have hle:¬ g b e>Zce ns g wy b e:=fun z=>hle (decide_eq_true z)
     refine⟨⟨_,_,_,rfl⟩,fun p' hp'=>?_,hil,s7.trans s8⟩
     rw[Qw,hbe]at hp'
     rcases Qt.mp hp' with hp'|hp'
     ·exact hm p' hp'
     ·have:p'=(b,e):=by simpa using hp'
      rw[this]
      show g b e≤Zce ns g wy b e
      omega
   ·rintro σ H7 ⟨⟨v1,v2,v3,rfl⟩,hm,_,s7⟩
    rw[ZT,lus,Qq (Qd _)]at hm
    exact q true H7 ⟨fun _=>iff.mpr ⟨hc,fun x y h1 h2=>hm (x,y) (Za5.mpr ⟨h1,h2⟩)⟩,fun _=>rfl⟩ (s06.trans s7)
  ·refine ZlV (fun z=>hc (by injection z)) ?_
   exact q false H5 ⟨fun h=>(by cases h),fun h=>absurd (iff.mp h).1 hc⟩ (s04.trans s5)
theorem Zgu{b e k m:Nat}{r:List Nat}(h:ZbA b e (k+1) (b::m::r)):b<m∧m<e∧ZbA m e k (m::r):=by
 obtain⟨_,h2,h3,h4⟩:=h
 obtain⟨p1,p2⟩:=List.pairwise_cons.mp h2
 refine⟨p1 m (Qp ..),h3 m (by simp),rfl,p2,fun x hx=>h3 x (Qi _ hx),?_⟩
 simp only[List.length_cons]at h4 ⊢
 omega
theorem Ze6{b e k m:Nat}{c:List Nat}(hb:b<m)(he:b<e)(h:ZbA m e k c):ZbA b e (k+1) (b::c):=by
 obtain⟨h1,h2,h3,h4⟩:=h
 refine⟨rfl,List.pairwise_cons.mpr ⟨fun x hx=>?_,h2⟩,fun x hx=>?_,by rw[QE];omega⟩
 ·cases c with
  | nil=>cases hx
  | cons y r =>
   cases h1
   rcases QM.mp hx with rfl|hx
   ·exact hb
   ·have:=QaN h2 hx;omega
 ·rcases QM.mp hx with rfl|hx
  ·exact he
  ·exact h3 x hx
theorem ZcV{b e k:Nat}{c:List Nat}(h:ZbA b e k c):c=[b]∨∃m r,c=b::m::r:=by
 obtain⟨h1,_⟩:=h
 match c,h1 with
 | [x],h1=>cases h1;exact .inl rfl
 | x::m::r,h1=>cases h1;exact .inr ⟨m,r,rfl⟩
theorem ZhH{g:Nat→Nat→Int}:∀ (k b e:Nat) (c:List Nat),b<e→ZbA b e (k+1) c→Zag g k b e≤ZaY g c e
 | 0,b,e,c,hb,h=>by
  rcases ZcV h with rfl|⟨m,r,rfl⟩
  ·exact Qaa _
  ·have:=h.2.2.2
   simp only[List.length_cons]at this
   omega
 | k+1,b,e,c,hb,h=>by
  show Zdu (g b e::psF g (Zag g k) b e)≤_
  have sp:=(ZbR (g b e::psF g (Zag g k) b e) (by simp)).2
  rcases ZcV h with rfl|⟨m,r,rfl⟩
  ·exact sp _ (Qp ..)
  ·obtain⟨h1,h2,h3⟩:=Zgu h
   have ih:=ZhH (g:=g) k m e _ h2 h3
   have:=sp (g b m+Zag g k m e) (Qi _ (QC.mpr ⟨m,Zbo.mpr ⟨h1,h2⟩,rfl⟩))
   show _≤g b m+ZaY g (m::r) e
   omega
theorem ZhE{g:Nat→Nat→Int}:∀ (k b e:Nat),b<e→∃c,ZbA b e (k+1) c∧ZaY g c e=Zag g k b e
 | 0,b,e,hb=>⟨[b],⟨rfl,Qay _ _,fun x hx=>by rw[Qg.mp hx];exact hb,Qd _⟩,rfl⟩
 | k+1,b,e,hb=>by
  have sp:=(ZbR (g b e::psF g (Zag g k) b e) (by simp)).1
  rcases QM.mp sp with h|h
  ·exact⟨[b],⟨rfl,Qay _ _,fun x hx=>by rw[Qg.mp hx];exact hb,by simp⟩,h.symm⟩
  ·obtain⟨m,hm,e1⟩:=QC.mp h
   obtain⟨m1,m2⟩:=Zbo.mp hm
   obtain⟨c,hc,ec⟩:=ZhE (g:=g) k m e m2
   refine⟨b::c,Ze6 m1 hb hc,?_⟩
   have e1:g b m+Zag g k m e=Zag g (k+1) b e:=e1
   rw[← e1,← ec]
   rcases ZcV hc with rfl|⟨u,r,rfl⟩<;>rfl
theorem Zdv{ns:List Int}{g:Nat→Nat→Int}{wy b e:Nat}(w2:2≤wy)(hb:b<e):g b e≤Zce ns g wy b e↔(e-b=1→g b e≤0)∧∀c,ZbA b e wy c→2≤c.length→g b e≤seg ns b e+ZaY g c e:=by
 unfold Zce
 obtain⟨k,rfl⟩:∃k,wy=k+2:=⟨wy-2,by omega⟩
 rw[show k+2-2=k by omega]
 by_cases h1:e-b=1
 ·rw[if_pos h1]
  obtain rfl:e=b+1:=by omega
  refine⟨fun h=>⟨fun _=>h,fun c hc h2=>?_⟩,fun h=>h.1 h1⟩
  rw[(Zex (by omega)).mp hc]at h2
  simp at h2
 ·rw[if_neg h1]
  have hne:psF g (Zag g k) b e≠[]:=by
   have:g b (b+1)+Zag g k (b+1) e∈psF g (Zag g k) b e:=QC.mpr ⟨b+1,Zbo.mpr ⟨by omega,by omega⟩,rfl⟩
   exact fun z=>by rw[z]at this;cases this
  obtain⟨c1,c2⟩:=ZbR _ hne
  constructor
  ·refine fun h=>⟨fun z=>absurd z h1,fun c hc h2=>?_⟩
   rcases ZcV hc with rfl|⟨m,r,rfl⟩
   ·simp at h2
   ·obtain⟨m1,m2,m3⟩:=Zgu hc
    have a1:=ZhH (g:=g) k m e _ m2 m3
    have a2:=c2 (g b m+Zag g k m e) (QC.mpr ⟨m,Zbo.mpr ⟨m1,m2⟩,rfl⟩)
    show _≤seg ns b e+(g b m+ZaY g (m::r) e)
    omega
  ·intro h
   obtain⟨m,hm,e1⟩:=QC.mp c1
   obtain⟨m1,m2⟩:=Zbo.mp hm
   obtain⟨c,hc,ec⟩:=ZhE (g:=g) k m e m2
   have e1:g b m+Zag g k m e=Zdu (psF g (Zag g k) b e):=e1
   rcases ZcV hc with rfl|⟨u,r,rfl⟩
   ·have:=h.2 (b::[m]) (Ze6 m1 hb hc) (by simp)
    have es:ZaY g (b::[m]) e=g b m+ZaY g [m] e:=rfl
    omega
   ·have:=h.2 (b::m::u::r) (Ze6 m1 hb hc) (by simp)
    have es:ZaY g (b::m::u::r) e=g b m+ZaY g (m::u::r) e:=rfl
    omega
def Zkc(K:PySem.W.Frag):Sp:=fun vs H Q _=>∃ (d c:Addr) (kvs:List (List Key×V)) (cn:List Nat) (e:Nat) (pf:Nat→Nat→Int),vs=[.ref d,.ref c,.int e]∧L2.Rd H d (.dT kvs)∧H c=some (.lst ((toI cn).map V.int))∧cn.length≤12∧cn≠[]∧(∀x y,(x,y)∈cn.zip (cn.tail++[e])→ZU kvs (Kp x y)=some (.int (pf x y))) ∧
 ∀H',Zn H H'→Q (.int (ZaY pf cn e)) H'
theorem Zly(T:Zar K mg):Df P w K mg base 1 "_law_beside" ["_law_prices", "_law_cuts_here", "_law_end"] (Zkc K):=by
 refine T.t_l_beside.df Zf7 (fun vs H Q E h=>?_) (fun cdv f A outer s H vs Q E hr h=>?_)
 ·obtain⟨d,c,kvs,cn,e,pf,rfl,_⟩:=h
  rfl
 obtain⟨d,c,kvs,cn,e,pf,rfl,hd,hc,h12,hne,hP,q⟩:=h
 refine⟨_,#[Zi,#[Zl,#[Zk,(Zn8 K),(by rfl),T.b.n_sum,boot_sum,#[Za,#[ZaU,Zh2,(@iZN _ K _ _ _ _ _ _ _ T.b.n_zip #[Za,‹1›,#[Za,#[Zq,Zdq,#[Zbv,(slL K),‹1›,#[ZaQ,#[Ze]],(@ZcB _)],#[ZG,#[Za,‹2›,#[Zc]]]],#[Zc]]] (by rfl) (by rfl) (by rfl) (by rfl)),(fun _ _ _ _=>#[cg,3,Zh2]),(fun _ _ _ _=>(@ZaI _)),(fun _ _ _ _=>#[ZI,(@ZiI _ _ hr),#[cv,0,Zh2],#[cw,3,Zh2]])],#[Zc]]]]],?_⟩
 have hpos:=QaP.mpr hne
 refine⟨_,rfl,_,rfl,_,rfl,c,_,rfl,SqL.of hc,fun s1 hs1=>?_⟩
 rw[ZeC]
 have t1:=Zd hs1 (.lst ((toI cn).map V.int).tail)
 have f1:(upd H s1 (.lst ((toI cn).map V.int).tail)) s1=some (.lst ((toI cn).map V.int).tail):=Zb
 generalize upd H s1 (.lst ((toI cn).map V.int).tail)=H1 at t1 f1 ⊢
 refine⟨_,rfl,(by show 1≤sizeLine;decide),fun l1 hl1=>?_⟩
 have t2:=Zd hl1 (.lst [.int (e:Int)])
 have f2:(upd H1 l1 (.lst [.int (e:Int)])) l1=some (.lst [.int (e:Int)]):=Zb
 generalize upd H1 l1 (.lst [.int (e:Int)])=H2 at t2 f2 ⊢
 refine⟨s1,l1,_,_,rfl,rfl,t2 _ _ f1,f2,(by rw[List.length_tail,Qb,Zcy];exact Q7 (ZB (by show cn.length-1+1≤1000;omega))),fun c2 hc2=>?_⟩
 have ecat:((toI cn).map V.int).tail++[V.int (e:Int)]=(toI (cn.tail++[e])).map V.int:=by unfold toI;rw[Qh,Qh,List.map_tail,List.map_tail];rfl
 rw[ecat]
 have t3:=Zd hc2 (.lst ((toI (cn.tail++[e])).map V.int))
 have f3:(upd H2 c2 (.lst ((toI (cn.tail++[e])).map V.int))) c2=some (.lst ((toI (cn.tail++[e])).map V.int)):=Zb
 generalize upd H2 c2 (.lst ((toI (cn.tail++[e])).map V.int))=H3 at t3 f3 ⊢
 have t03:=(t1.trans t2).trans t3
 have hc3:=t03 _ _ hc
 have hl2:(cn.tail++[e]).length=cn.length:=by rw[Qe,List.length_tail,Qy];omega
 refine⟨.l c,.l c2,_,_,rfl,SqL.of hc3,SqL.of f3,fun D hD=>?_⟩
 refine ZiX (K:=K) (S1:=.l c) (S2:=.l c2) (xs:=(toI cn).map V.int) (ys:=(toI (cn.tail++[e])).map V.int) (fun i zs σ H4=>(∃v:Option V,σ=[some (.ref d),some (.ref c),some (.int e),v])∧zs=(((cn.zip (cn.tail++[e])).take i).map (fun p=>pf p.1 p.2)).map V.int∧i≤cn.length∧H4 D=some (.lst zs)∧Zn H3 H4) ?_ (fun _ _ _ _ h=>⟨SqL.of (h.2.2.2.2 _ _ hc3),SqL.of (h.2.2.2.2 _ _ f3)⟩) ?_ ?_
 ·exact⟨⟨none,rfl⟩,rfl,Ql _,Zb,Zd hD _⟩
 ·rintro i zs σ H4 x y p hx hy ⟨⟨v,rfl⟩,rfl,hi,hD4,s4⟩ hp
  unfold toI at hx hy
  rw[Q3,Qr]at hx hy
  cases hz:cn[i]? with
  | none=>rw[hz]at hx;cases hx
  | some a =>
   cases hz2:(cn.tail++[e])[i]? with
   | none=>rw[hz2]at hy;cases hy
   | some b =>
    rw[hz]at hx
    rw[hz2]at hy
    cases hx
    cases hy
    have hil:i<cn.length:=(Qn.mp hz).1
    have hzip:(cn.zip (cn.tail++[e]))[i]? = some (a,b):=by rw[List.getElem?_zip_eq_some];exact⟨hz,hz2⟩
    have hk:=hP a b (QA hzip)
    have sp:=Zd hp (.tup [V.int (a:Int),V.int (b:Int)])
    have f5:(upd H4 p (.tup [V.int (a:Int),V.int (b:Int)])) p=some (.tup ((Kp a b).map kV)):=Zb
    have hD5:=sp _ _ hD4
    refine⟨_,rfl,_,rfl,d,kvs,p,Kp a b,_,rfl,rfl,Zdg hd ((t03.trans s4).trans sp),f5,hk,hD5,(by rw[Qb,Qb,Qu];exact ZB (by omega)),⟨_,rfl⟩,?_,hil,Zb,fun b' o hb=>?_⟩
    ·rw[Qw,hzip,Qh,Qh];rfl
    ·rw[Zj (Zg hb hD)];exact sp _ _ (s4 b' o hb)
 rintro zs σ H4 ⟨⟨v,rfl⟩,rfl,_,hD4,s4⟩
 rw[Qq (by rw[List.length_zip,Qb,Qb,Zcy,Zcy];exact Qd _)]at hD4
 refine⟨D,(cn.zip (cn.tail++[e])).map (fun p=>pf p.1 p.2),rfl,SqL.of hD4,?_⟩
 rw[Zea]
 exact q H4 (t03.trans s4)
theorem ZcK{n i:Nat}{ds:List PyData}{d:PyData}(hdi:ds[i]? = some d)(et:Zbn d=false):¬ ZfA n (.list ds):=by
 rintro⟨rows,e,_⟩
 injection e with e
 rw[e,Qr]at hdi
 cases er:rows[i]? with
 | none=>rw[er]at hdi;cases hdi
 | some u =>
  rw[er]at hdi
  injection hdi with hdi
  rw[← hdi,ZgG]at et
  cases et
theorem Zgb.plan{n wy:Nat}{d:PyData}(h:Zgb n wy d):Zi0 n wy d:=by
 obtain⟨h1,h2⟩:=h
 exact⟨h1,by rw[h2];exact Zi3 n,by rw[h2];exact ZgK (Qd _),by rw[h2,Zc5]⟩
theorem Ziv{n wy:Nat}{d:PyData}(h:Zi0 n wy d):∃t,d=toD t∧tPl wy t∧lvD d=tLv t∧tOk n t∧tDp t+1≤n∧tNo t+1≤2*n:=by
 obtain⟨h1,h2,h3,h4⟩:=h
 obtain⟨t,e,p,v⟩:=ZdY wy d h1
 obtain⟨⟨g1,g2⟩,g3⟩:=ZeT t p
 rw[v]at h3 h4
 exact⟨t,e.symm,p,v,ZhA t h3,by omega,by omega⟩
theorem ZkF{es:List PyData}(h:es.length=3):Zbn (.tuple es)=(es.map ZJ).all id:=by
 match es,h with
 | [a,b,c],_ =>
  show (ZJ a&&(ZJ b&&ZJ c))=_
  simp
def kv4(g:Nat→Nat→Int)(p:Nat×Nat):List Key×V:=(q2 p,V.int (g p.1 p.2))
def Zf9(K:PySem.W.Frag):Sp:=fun vs H Q _=>∃ (a:Addr) (ns:List Int) (wy:Nat) (x y:V) (d e:PyData),vs=[.ref a,.int wy,x,y]∧H a=some (.lst (ns.map V.int))∧1≤ns.length∧ns.length≤12∧(∀v∈ns,0≤v∧v≤1000000000)∧2≤wy∧wy≤6∧DH H x d∧d.canLay0=true∧d.depth≤40∧lfD d<200∧ndD d≤100000∧DH H y e∧e.weight≤100000 ∧
 ∀ (b:Bool) (H':Hp),(b=true↔Zdx ns wy d e)→Zn H H'→Q (.bl b) H'
theorem ZiJ(T:Zar K mg)(f_l_is_plan:Df P w K mg base 1 "_law_is_plan" ["_law_sizes_here", "_law_ways_here", "_law_thing"] (ZlN K))(f_l_rows_in:Df P w K mg base 1 "_law_rows_in" ["_law_tree"] Ze8)(f_l_stretches:Df P w K mg base 1 "_law_stretches" ["_law_many_here"] ZjF)(f_l_cuts:Df P w K mg base 1 "_law_cuts" ["_law_begin", "_law_end", "_law_ways_here"] Zjb)(f_l_beside:Df P w K mg base 1 "_law_beside" ["_law_prices", "_law_cuts_here", "_law_end"] (Zkc K))(f_l_cost:Df P w K mg base 2 "_law_cost" ["_law_sizes_here", "_law_tree"] (ZgJ K)):Df P w K mg base 3 "_law_shows" ["_law_sizes_here", "_law_ways_here", "_law_tree", "_law_thing"] (Zf9 K):=by
 refine T.t_l_shows.df ZaJ (fun vs H Q E h=>?_) (fun cdv f A outer s H vs Q E hr h=>?_)
 ·obtain⟨a,ns,wy,x,y,d,e,rfl,_⟩:=h
  rfl
 obtain⟨a,ns,wy,x,y,d,e,rfl,hS,n1,n12,hns,w2,w6,hX,hcl,hdp,hlf,hnd,hY,hew,q⟩:=h
 refine⟨_,#[Zh,#[ZZ,(@PW.pt _ _ _ #[Zcd,#[ZaO,#[Zaf,#[Zs,f_l_is_plan,hr,#[Za,‹0›,#[Za,‹1›,#[Za,‹2›,#[Zc]]]],(by rfl)]]],#[ZbJ,#[ZA,(@neD _ K _ hr (by rfl)),#[Zs,f_l_rows_in,hr,#[Za,‹2›,#[Zc]],(by rfl)],#[Zac,Zj0,T.b.n_list,boot_list,#[Za,#[Zac,Zmm,T.b.n_range,boot_range,#[Za,#[Zk,(ZbC K),(by rfl),T.b.n_len,QB,#[Za,‹0›,#[Zc]]],#[Zc]]],#[Zc]]],(ZF _)]]]),#[Zi,#[Zl,#[Zae]]],#[ZD]],#[Zh,#[ZZ,#[ZaO,#[Zaf,#[Zk,(Zcs K),(by rfl),T.b.n_isinstance,boot_isinstance,#[Za,‹3›,#[Za,#[Za6,T.b.n_list,boot_list,(by rfl)],#[Zc]]]]]],#[Zi,#[Zl,#[Zae]]],#[ZD]],#[Zh,#[Zao,PassesOwn.never,#[iL,K,‹3›],#[Zx,4,ZaJ.nd,(Or.inl rfl)],#[Zh,#[ZZ,(@PW.pt _ _ _ #[Zcd,#[ZaO,#[Zaf,#[Zk,(Zcs K),(by rfl),T.b.n_isinstance,boot_isinstance,#[Za,‹4›,#[Za,#[Za6,T.b.n_tuple,boot_tuple,(by rfl)],#[Zc]]]]]],#[ZbJ,#[ZA,ZfH,#[Zk,(ZbC K),(by rfl),T.b.n_len,QB,#[Za,‹4›,#[Zc]]],#[Ze],(ZF _)]]]),#[Zi,#[Zl,#[Zae]]],#[ZD]],#[Zi,#[ZZ,#[ZaO,#[Zaf,#[Zk,(ZnU K),(by rfl),T.b.n_all,boot_all,#[Za,#[ZaU,ZdF,(@iT _ K _ _ _ ‹4› (by rfl)),(fun _ _ _ _=>#[cg,10,ZdF]),(fun _ _ _ _=>(@ZaI _)),(fun _ _ _ _=>#[Zdt,#[Zk,(Zcs K),(Zad ZdF rfl (by ac_rfl)),T.b.n_isinstance,boot_isinstance,#[Za,#[cw,10,ZdF],#[Za,#[Za6,T.b.n_int,boot_int,(Zad ZdF rfl (by ac_rfl))],#[Zc]]]],(@Zej _ _ _ _ _ (@Zhd _ _ _ _ #[Zk,(Zcs K),(Zad ZdF rfl (by ac_rfl)),T.b.n_isinstance,boot_isinstance,#[Za,#[cw,10,ZdF],#[Za,#[Za6,T.b.n_bool,boot_bool,(Zad ZdF rfl (by ac_rfl))],#[Zc]]]]))])],#[Zc]]]]],#[Zi,#[Zl,#[Zae]]],#[ZD]]]]],#[Zh,#[ZZ,#[ZA,(@neD _ K _ hr (by rfl)),#[ZaU,Zi1,#[iL,K,‹3›],(fun _ _ _ _=>#[cg,10,Zi1]),(fun _ _ _ _=>(@ZaI _)),(fun _ _ _ _=>#[Zbv,(slT K),#[cw,10,Zi1],(@ZcB _),#[ZaQ,#[Ze]]])],#[Zs,f_l_stretches,hr,#[Za,#[Zk,(ZbC K),(by rfl),T.b.n_len,QB,#[Za,‹0›,#[Zc]]],#[Zc]],(by rfl)],(ZF _)],#[Zi,#[Zl,#[Zae]]],#[ZD]],#[Zh,#[Zw,5,ZaJ.nd,(Or.inl rfl),#[Zac,(Zm5 K hr),T.b.n_dict,boot_dict,#[Za,#[ZaU,Zho,#[iL,K,‹3›],(fun _ _ _ _=>#[cg,10,Zho]),(fun _ _ _ _=>(@ZaI _)),(fun _ _ _ _=>#[Zv,#[Za,#[Zbv,(slT K),#[cw,10,Zho],(@ZcB _),#[ZaQ,#[Ze]]],#[Za,#[ZI,(ixT K),#[cw,10,Zho],#[Ze]],#[Zc]]]])],#[Zc]]]],#[Zh,#[Zao,PassesOwn.never,(@ZjK _ _ _ _ ‹5›),#[gT,K,2,#[Zz,#[Zx,6,ZaJ.nd,(Or.inl rfl)],#[Zz,#[Zx,7,ZaJ.nd,(Or.inl rfl)],(@ZaH _)]]],#[Zh,#[Zw,8,ZaJ.nd,(Or.inl rfl),#[Zk,(Zkm K),(by rfl),T.b.n_sum,boot_sum,#[Za,#[Zbv,(slL K),‹0›,#[ZaQ,‹6›],#[ZaQ,‹7›]],#[Zc]]]],(@Zle _ _ _ _ _ #[ZZ,(@PW.pt _ _ _ (@Zmb _ _ _ _ _ _ _ #[ZA,ZdK,#[Zq,ZbL,‹7›,‹6›],#[Ze],(ZF _)] (@Zlk _ _ _ _ #[ZA,ZeM,#[ZI,(@ZiI _ _ hr),‹5›,#[Zv,#[Za,‹6›,#[Za,‹7›,#[Zc]]]]],#[Ze],(ZF _)]))),#[Zi,#[Zl,#[Zae]]],#[ZD]] #[Zi,#[Zao,PassesOwn.never,#[iL,K,#[Zs,f_l_cuts,hr,#[Za,‹6›,#[Za,‹7›,#[Za,‹1›,#[Zc]]]],(by rfl)]],#[Zx,9,ZaJ.nd,(Or.inl rfl)],#[Zi,#[ZZ,#[ZA,ZeM,#[ZI,(@ZiI _ _ hr),‹5›,#[Zv,#[Za,‹6›,#[Za,‹7›,#[Zc]]]]],#[Zq,ZM,‹8›,#[Zs,f_l_beside,hr,#[Za,‹5›,#[Za,‹9›,#[Za,‹7›,#[Zc]]]],(by rfl)]],(ZF _)],#[Zi,#[Zl,#[Zae]]],#[ZD]]]]])]],#[Zi,#[Zl,(@Zc3 _ _ _ _ _ _ _ _ ZdK #[ZI,(@ZiI _ _ hr),‹5›,#[Zv,#[Za,#[Ze],#[Za,#[Zk,(ZbC K),(by rfl),T.b.n_len,QB,#[Za,‹0›,#[Zc]]],#[Zc]]]]] #[Zs,f_l_cost,hr,#[Za,‹0›,#[Za,‹2›,#[Zc]]],(by rfl)] (ZF _))]]]]]]]],?_⟩
 have hls:(((ns.map V.int).length:Nat):Int)=(ns.length:Int):=by rw[Qb]
 have no:∀ {H':Hp},(Zdx ns wy d e→False)→Zn H H'→Q (.bl false) H':=fun z s=>q false _ ⟨fun y=>(by cases y),fun y=>(z y).elim⟩ s
 refine⟨_,rfl,_,rfl,_,rfl,a,ns,wy,x,d,rfl,hS,by omega,hX,hcl,hdp,hlf,hnd,fun b1 H1 hb1 s1=>⟨_,rfl,?_⟩⟩
 cases b1 with
 | false=>exact ZY (ZY (no (fun z=>absurd (hb1.mpr z.near.1.plan) Qj) s1))
 | true =>
 refine ZaB ?_
 obtain⟨t,rfl,hpl,elv,hok,tdp,tno⟩:=Ziv (hb1.mp rfl)
 have hT:=TV.of_dh t hX
 refine⟨_,rfl,x,t,ns,ns.length,rfl,hT.mono (ZX s1),rfl,by omega,hok,by omega,by omega,fun r1 ks H2 hr0 hr1 hks _ hlv hkl s2=>?_⟩
 subst hlv
 have s02:=s1.trans s2
 refine⟨_,rfl,a,_,rfl,.inl (SqL.of (s02 _ _ hS)),_,rfl,fun rg hrg=>?_⟩
 have s3:=Zd hrg (.rng 0 (((ns.map V.int).length:Nat):Int))
 refine⟨rg,0,_,rfl,Zb,by omega,by omega,by rw[hls];omega,by rw[hls];omega,by rw[hls];omega,fun l hl'=>?_⟩
 have s4:=Zd hl' (.lst ((Z8 0 ((((ns.map V.int).length:Nat):Int)-0).toNat).map V.int))
 have f4:(upd (upd H2 rg (.rng 0 (((ns.map V.int).length:Nat):Int))) l (.lst ((Z8 0 ((((ns.map V.int).length:Nat):Int)-0).toNat).map V.int))) l=some (.lst ((Z8 0 ((((ns.map V.int).length:Nat):Int)-0).toNat).map V.int)):=Zb
 have s24:=s3.trans s4
 generalize upd (upd H2 rg (.rng 0 (((ns.map V.int).length:Nat):Int))) l (.lst ((Z8 0 ((((ns.map V.int).length:Nat):Int)-0).toNat).map V.int))=H4 at f4 s24 ⊢
 rw[show ((((ns.map V.int).length:Nat):Int)-0).toNat=ns.length by rw[hls];omega]at f4
 have s04:=s02.trans s24
 refine⟨.list ((tLv t).map PyData.int),.list ((Z8 0 ns.length).map PyData.int),.lst (SqL.of (s24 _ _ hr1)) (Zcq _),.lst (SqL.of f4) (Zcq _),Zba _,Zba _,_,rfl,?_⟩
 rw[if_pos rfl]
 by_cases hlv:tLv t=Z8 0 ns.length
 case neg =>
  rw[Bool.eq_false_iff.mpr fun z=>hlv ((ZcD _ _).mp z)]
  exact ZY (no (fun z=>hlv (by have:=z.near.1.2;rw[elv]at this;exact this)) s04)
 rw[(ZcD _ _).mpr hlv]
 refine ZaB ?_
 clear s4 s3 s24 f4 hrg hl' hr1 s02 s1 s2 hr0 hb1
 have hY4:=hY.mono s04
 refine⟨_,rfl,_, "list",_,_,rfl,hY4.ty,hY4.kL K,_,rfl,?_⟩
 cases hTe:Zfg e with
 | false =>
  refine ZY (no (fun z=>?_) s04)
  obtain⟨rows,e1,_⟩:=z.near.2
  rw[e1]at hTe
  cases hTe
 | true =>
 obtain⟨r,xs,ds,rfl,rfl,hr0,hs⟩:=hY4.lst_inv hTe
 refine ZaB ⟨_,rfl,r,rfl,⟨_,SqL.of hr0⟩,?_⟩
 refine Zdi (K:=K) (a:=r) (xs:=xs) (fun i σ H5=>(∃v1 v2 v3 v4 v5 v6:Option V,σ=[some (.ref a),some (.int wy),some x,some (.ref r),v1,v2,v3,v4,v5,v6])∧Zn H4 H5∧∀j,j<i→∀d,ds[j]? = some d→Zbn d=true) ⟨⟨_,_,_,_,_,_,rfl⟩,Zn.refl _,fun j hj=>by omega⟩ (fun _ _ _ _ h=>SqL.of (h.2.1 _ _ hr0)) ?_ ?_
 ·rintro i z σ H5 hz ⟨⟨v1,v2,v3,v4,v5,v6,rfl⟩,s5,hj⟩
  obtain⟨du,hdi,hdx⟩:=hs.get hz
  have hdx:=hdx.mono s5
  have s05:=s04.trans s5
  refine⟨_,rfl,_, "tuple",_,_,rfl,hdx.ty,hdx.kT K,_,rfl,?_⟩
  cases hTu:ZcP du with
  | false=>exact ZY (ZY (no (fun z=>ZcK hdi (ZfV hTu) z.near.2) s05))
  | true =>
  obtain⟨p,us,es,rfl,rfl,hp,hus⟩:=hdx.tup_inv hTu
  have hul:=hus.length
  refine ZaB ⟨_,rfl,p,_,rfl,.inr (SqT.of hp),rfl,_,rfl,?_⟩
  by_cases h3:es.length=3
  case neg =>
   rw[decide_eq_false (fun z:V.int ((us.length:Nat):Int)=V.int 3=>by injection z with z;omega)]
   exact ZY (no (fun z=>ZcK hdi (ZhF h3) z.near.2) s05)
  have h3u:us.length=3:=by omega
  refine Zgf (by rw[h3u];rfl) ?_
  refine⟨_,rfl,p,rfl,⟨_,SqT.of hp⟩,fun D hD=>?_⟩
  refine Zj9 (K:=K) (a:=p) (xs:=us) (fun i ys σ H6=>(∃v:Option V,σ=[some (.ref a),some (.int wy),some x,some (.ref r),some (.ref p),v2,v3,v4,v5,v6,v])∧ys=((es.take i).map ZJ).map V.bl∧i≤us.length∧H6 D=some (.lst ys)∧Zn H5 H6) ⟨⟨_,rfl⟩,rfl,Ql _,Zb,Zd hD _⟩ (fun _ _ _ _ h=>SqT.of (h.2.2.2.2 _ _ hp)) ?_ ?_
  ·rintro i u ys σ H6 hu ⟨⟨v,rfl⟩,rfl,hi,hD6,s6⟩
   obtain⟨dv,hdv,hux⟩:=hus.get hu
   have hux:=hux.mono s6
   have hil:i<us.length:=(Qn.mp hu).1
   have fin:∀b:Bool,b=ZJ dv→H6 D=some (.lst (((es.take i).map ZJ).map V.bl))∧(((es.take i).map ZJ).map V.bl).length<sizeLine∧(∃v:Option V,[some (V.ref a),some (.int wy),some x,some (.ref r),some (.ref p),v2,v3,v4,v5,v6,some u]=[some (.ref a),some (.int wy),some x,some (.ref r),some (.ref p),v2,v3,v4,v5,v6,v])∧((es.take i).map ZJ).map V.bl++[.bl b]=((es.take (i+1)).map ZJ).map V.bl∧i+1≤us.length∧(upd H6 D (.lst (((es.take i).map ZJ).map V.bl++[.bl b]))) D=some (.lst (((es.take i).map ZJ).map V.bl++[.bl b]))∧Zn H5 (upd H6 D (.lst (((es.take i).map ZJ).map V.bl++[.bl b]))):=fun b hb=>by
    refine⟨hD6,by rw[Qb,Qb,Qu];exact ZB (by omega),⟨_,rfl⟩,?_,hil,Zb,fun b' o hb'=>?_⟩
    ·rw[Qw,hdv,hb,Qh,Qh];rfl
    ·rw[Zj (Zg hb' hD)];exact s6 b' o hb'
   refine⟨_,rfl,_, "int",_,_,rfl,hux.ty,hux.kI K,_,rfl,?_⟩
   cases hI:ZJ dv with
   | true =>
    have hB:Zcc dv=false:=by cases dv<;>first|rfl|cases hI
    refine ZY ⟨_,rfl,_, "bool",_,_,rfl,hux.ty,hux.kB K,_,rfl,?_⟩
    rw[hB];exact fin true hI.symm
   | false =>
    cases hB:Zcc dv with
    | true =>
     refine ZY ⟨_,rfl,_, "bool",_,_,rfl,hux.ty,hux.kB K,_,rfl,?_⟩
     rw[hB];exact fin false hI.symm
    | false=>exact ZaB (fin false hI.symm)
  ·rintro ys σ H6 ⟨⟨v,rfl⟩,rfl,_,hD6,s6⟩
   rw[hul,Qq (Qd _)]at hD6
   refine⟨D,es.map ZJ,rfl,SqL.of hD6,_,rfl,?_⟩
   rw[← ZkF h3]
   cases hA:Zbn (.tuple es) with
   | false=>exact ZY (no (fun z=>ZcK hdi hA z.near.2) (s05.trans s6))
   | true =>
    refine ZaB ⟨⟨_,_,_,_,_,_,rfl⟩,s5.trans s6,fun j hj' d' hd'=>?_⟩
    rcases Nat.lt_succ_iff_lt_or_eq.mp hj' with hj'|rfl
    ·exact hj j hj' d' hd'
    ·rw[hdi]at hd';injection hd' with hd';rw[← hd'];exact hA
 ·rintro σ H5 ⟨⟨v1,v2,v3,v4,v5,v6,rfl⟩,s5,hj⟩
  obtain⟨ts,rows,rfl,hat,hE,ed⟩:=ZcZ hs fun d hd=>by
   obtain⟨i,hi,e⟩:=List.getElem_of_mem hd
   exact hj i (by rw[hs.length];exact hi) d (by rw[Qc hi,e])
  have s05:=s04.trans s5
  have hr5:=s5 _ _ hr0
  have hat5:=AtT.mono hat s5
  have lts:ts.length≤100000:=by
   have h9:=Zg6 ds
   have h8:=hs.length
   rw[ZT]at h8
   have:(PyData.list ds).weight=PyData.weightAll ds:=rfl
   omega
  have lrw:ts.length=rows.length:=by have:=congrArg List.length hE;simpa using this
  have ec:∀e:Int×Int×Int,Zbw [V.int e.1,.int e.2.1,.int e.2.2] none (some 2)=[.int e.1,.int e.2.1]:=fun e=>rfl
  clear hj hat s5 hr0 hs hY4 hTe
  refine⟨_,rfl,r,rfl,⟨_,SqL.of hr5⟩,fun D hD=>?_⟩
  refine ZcA (K:=K) (a:=r) (xs:=ZS ts) (fun i ys σ H6=>(∃v:Option V,σ=[some (.ref a),some (.int wy),some x,some (.ref r),v1,v2,v3,v4,v5,v6,v])∧(∃us:ZaX,ys=ZS us∧AtT H6 us∧us.map (·.2)=(rows.take i).map k2e)∧i≤ts.length∧H6 D=some (.lst ys)∧Zn H5 H6) ⟨⟨_,rfl⟩,⟨[],rfl,(fun t h=>by cases h),rfl⟩,Ql _,Zb,Zd hD _⟩ (fun _ _ _ _ h=>SqL.of (h.2.2.2.2 _ _ hr5)) ?_ ?_
  ·rintro i z ys σ H6 hz ⟨⟨v,rfl⟩,⟨us,rfl,hau,hEu⟩,_,hD6,s6⟩
   obtain⟨p,e,rfl,hp,hbe⟩:=ZlJ hE hat5 hz
   have hil:i<ts.length:=by have:=(Qn.mp hbe).1;omega
   have hul:us.length≤100000:=by
    have:=congrArg List.length hEu
    rw[Qb,Qb,Qu]at this
    omega
   refine⟨_,rfl,_,rfl,p,_,rfl,SqT.of (s6 _ _ hp),ZhJ (n:=3) (d:=2) (by decide),fun m hm=>?_⟩
   rw[ec]
   have sn:=Zd hm (.tup [.int e.1,.int e.2.1])
   have hD5:=sn _ _ hD6
   have nDn:D≠m:=Zg hD6 hm
   refine⟨hD5,(by rw[ZT,sizeLine_eq];omega),⟨_,rfl⟩,⟨us++[(m,k2e e)],by unfold ZS;rw[Qh];rfl,fun t ht=>?_,?_⟩,hil,Zb,fun b' o hb=>?_⟩
   ·rcases Qt.mp ht with ht|ht
    ·exact Zau hD5 _ _ _ (sn _ _ (hau t ht))
    ·rw[Qg.mp ht,Zj nDn.symm];exact Zb
   ·rw[Qh,hEu,Qw,hbe,Qh];rfl
   ·rw[Zj (Zg hb hD)];exact sn _ _ (s6 b' o hb)
  rintro ys σ H6 ⟨⟨v,rfl⟩,⟨us,rfl,hau,hEu⟩,_,hD6,s6⟩
  rw[ZT,lrw,Qq (Qd _)]at hEu
  have s06:=s05.trans s6
  refine⟨_,rfl,a,_,rfl,.inl (SqL.of (s06 _ _ hS)),ns.length,by rw[hls];rfl,n12,fun so ws H7 hso hs7 haw hEw s7=>?_⟩
  have d1:us.map (fun t=>tD t.2)=(rows.map k2e).map tD:=by
   have:=congrArg (List.map tD) hEu
   rw[Q3]at this;exact this
  have d2:ws.map (fun t=>tD t.2)=((Zm ns.length ns.length).map q2).map tD:=by
   have:=congrArg (List.map tD) hEw
   rw[Q3]at this;exact this
  have v1':=Zc9 (K:=K) us (AtT.mono hau s7)
  have v2':=Zc9 (K:=K) ws haw
  rw[d1]at v1'
  rw[d2]at v2'
  have s07:=s06.trans s7
  refine⟨_,_,.lst (SqL.of (s7 _ _ hD6)) v1',.lst (SqL.of hs7) v2',Zcz (ZcS rows),Zcz (ZcW _),_,rfl,?_⟩
  rw[if_pos rfl]
  by_cases hk:rows.map k2e=(Zm ns.length ns.length).map q2
  case neg =>
   rw[Bool.eq_false_iff.mpr fun z=>hk ((Zfl (ZcS rows) (ZcW _)).mp z)]
   refine ZY (no (fun z=>?_) s07)
   obtain⟨rows',e',z'⟩:=z.near.2
   injection e' with e'
   rw[ed]at e'
   have inj:rows=rows':=List.map_inj_right (fun x y h=>Zfw h) |>.mp e'
   rw[inj]at hk;exact hk z'
  rw[(Zfl (ZcS rows) (ZcW _)).mpr hk]
  refine ZaB ?_
  obtain⟨g,rfl⟩:=Zd2 (ZdU ns.length) hk
  have iff:=ZeF (ns:=ns) (wy:=wy) (d:=toD t) (e:=.list ds) (t:=t) (g:=g) n1 rfl hpl hlv (by rw[ed];unfold ZdD;rw[Q3];rfl)
  have hr7:=(s6.trans s7) _ _ hr5
  have hat7:=AtT.mono hat5 (s6.trans s7)
  clear v1' v2' d1 d2 hau hEu haw hEw hs7 hso hD6 hk no lrw hat5 hr5 s06 s05
  have l144:=ZdS n12
  have lts:=pr_len' hE
  refine⟨_,rfl,r,rfl,⟨_,SqL.of hr7⟩,fun D2 hD2=>?_⟩
  refine ZcA (K:=K) (a:=r) (xs:=ZS ts) (fun i ys σ H8=>(∃v:Option V,σ=[some (.ref a),some (.int wy),some x,some (.ref r),v1,v2,v3,v4,v5,v6,v])∧(∃us:List (Addr×Addr×List Key×V),ys=us.map (fun t=>V.ref t.1)∧(∀t∈us,H8 t.1=some (.tup [.ref t.2.1,t.2.2.2])∧H8 t.2.1=some (.tup (t.2.2.1.map kV)))∧us.map (·.2.2)=((Zm ns.length ns.length).take i).map (kv4 g))∧i≤ts.length∧H8 D2=some (.lst ys)∧Zn H7 H8) ⟨⟨_,rfl⟩,⟨[],rfl,(fun t h=>by cases h),rfl⟩,Ql _,Zb,Zd hD2 _⟩ (fun _ _ _ _ h=>SqL.of (h.2.2.2.2 _ _ hr7)) ?_ ?_
  ·rintro i z ys σ H8 hz ⟨⟨v,rfl⟩,⟨us,rfl,hau,hEu⟩,_,hD8,s8⟩
   obtain⟨p,b,e,rfl,hp,hbe⟩:=ZjV hE hat7 hz
   have hil:i<ts.length:=by have:=(Qn.mp hbe).1;omega
   have hul:us.length≤1000:=by
    have:=congrArg List.length hEu
    rw[Qb,Qb,Qu]at this
    omega
   refine⟨_,rfl,_,rfl,p,_,rfl,SqT.of (s8 _ _ hp),ZhJ (n:=3) (d:=2) (by decide),fun m hm=>?_⟩
   have e8:HO.tup (Zbw [V.int b,.int e,.int (g b e)] none (some 2))=.tup ((q2 (b,e)).map kV):=rfl
   rw[e8]
   have sn:=Zd hm (.tup ((q2 (b,e)).map kV))
   have fm:(upd H8 m (.tup ((q2 (b,e)).map kV))) m=some (.tup ((q2 (b,e)).map kV)):=Zb
   generalize upd H8 m (.tup ((q2 (b,e)).map kV))=H9 at sn fm ⊢
   refine⟨_,rfl,p,_,2,_,rfl,rfl,SqT.of (sn _ _ (s8 _ _ hp)),rfl,(by show 2≤sizeLine;decide),fun m2 hm2=>?_⟩
   have s9:=Zd hm2 (.tup [.ref m,.int (g b e)])
   have hD9:=s9 _ _ (sn _ _ hD8)
   have nD2:D2≠m2:=Zg (sn _ _ hD8) hm2
   refine⟨hD9,(by rw[Qb,sizeLine_eq];omega),⟨_,rfl⟩,⟨us++[(m2,m,kv4 g (b,e))],by rw[Qh];rfl,fun t ht=>?_,?_⟩,hil,Zb,fun b' o hb=>?_⟩
   ·rcases Qt.mp ht with ht|ht
    ·obtain⟨t1,t2⟩:=hau t ht
     exact⟨Zau hD9 _ _ _ (s9 _ _ (sn _ _ t1)),Zau hD9 _ _ _ (s9 _ _ (sn _ _ t2))⟩
    ·rw[Qg.mp ht]
     exact⟨by show (upd _ D2 _) m2=_;rw[Zj nD2.symm];exact Zb,Zau hD9 _ _ _ (s9 _ _ fm)⟩
   ·rw[Qh,hEu,Qw,hbe,Qh];rfl
   ·rw[Zj (Zg hb hD2)];exact s9 _ _ (sn _ _ (s8 b' o hb))
  rintro ys σ H8 ⟨⟨v,rfl⟩,⟨us,rfl,hau,hEu⟩,_,hD8,s8⟩
  rw[ZT,lts,Qq (Qd _)]at hEu
  have hul:us.length≤1000:=by
   have:=congrArg List.length hEu
   rw[Qb,Qb]at this
   omega
  have hEk:us.map (·.2.2)=Z6 ns.length g:=hEu
  refine⟨D2,us,rfl,SqL.of hD8,hau,hul,?_,fun DD hDD=>?_⟩
  ·have e9:us.map (·.2.2.1)=(Zm ns.length ns.length).map q2:=by
    have:=congrArg (List.map (·.1)) hEu
    rw[Q3,Q3]at this
    exact this
   rw[e9]
   exact Qa0.mpr ((ZdU ns.length).imp fun h z=>h (by obtain⟨z1,z2⟩:=ZgQ z;exact Prod.ext z1 z2))
  rw[hEk]
  refine⟨_,rfl,DD,_,rfl,Zb,fun o=>?_⟩
  have s9:Zn H8 (upd (upd H8 DD (.dT (Z6 ns.length g))) DD (.frz o (.dT (Z6 ns.length g)))):=fun b o hb=>by
   have nb:=Zg hb hDD
   rw[Zj nb,Zj nb];exact hb
  have f9:(upd (upd H8 DD (.dT (Z6 ns.length g))) DD (.frz o (.dT (Z6 ns.length g)))) DD=some (.frz o (.dT (Z6 ns.length g))):=Zb
  generalize upd (upd H8 DD (.dT (Z6 ns.length g))) DD (.frz o (.dT (Z6 ns.length g)))=H9 at s9 f9 ⊢
  have s09:=(s07.trans s8).trans s9
  clear s8 s9 hDD hD8 hau hEu hEk hul hD2 hr7 hat7 s07 s6 s7 hE
  refine ZiE (fun i σ H10=>(∃v1 v3 v4 v5 v6:Option V,σ=[some (.ref a),some (.int wy),some x,some (.ref r),v1,some (.ref DD),v3,v4,v5,v6])∧(∀p∈(Zm ns.length ns.length).take i,g p.1 p.2≤Zce ns g wy p.1 p.2)∧Zn H9 H10) ⟨⟨_,_,_,_,_,rfl⟩,(fun p hp=>by rw[Qax]at hp;cases hp),Zn.refl _⟩ (fun _ _ _ h=>h.2.2 _ _ f9) ?_ ?_
  ·rintro i ks xv σ H10 kb hkv ⟨⟨v1,v3,v4,v5,v6,rfl⟩,hm,s10⟩ hkb
   unfold Z6 at hkv
   rw[Qr]at hkv
   cases hpj:(Zm ns.length ns.length)[i]? with
   | none=>rw[hpj]at hkv;cases hkv
   | some pr =>
   rw[hpj]at hkv
   cases hkv
   obtain⟨b,e⟩:=pr
   obtain⟨hb1,he1⟩:=Za5.mp (QA hpj)
   refine⟨kb,_,rfl,SqT.of hkb,rfl,_,_,rfl,_,_,rfl,rfl,?_⟩
   have s010:=s09.trans s10
   refine⟨_,rfl,_,rfl,_,rfl,_,rfl,_,rfl,a,_,rfl,SqL.of (s010 _ _ hS),fun sl hsl=>?_⟩
   have s11:=Zd hsl (.lst (Zbw (ns.map V.int) (some (b:Int)) (some (e:Int))))
   have f11:(upd H10 sl (.lst (Zbw (ns.map V.int) (some (b:Int)) (some (e:Int))))) sl=some (.lst (Zbw (ns.map V.int) (some (b:Int)) (some (e:Int)))):=Zb
   generalize upd H10 sl (.lst (Zbw (ns.map V.int) (some (b:Int)) (some (e:Int))))=H11 at s11 f11 ⊢
   rw[ZhR (by omega) he1]at f11
   refine⟨sl,_,rfl,SqL.of f11,by rw[Qu,QN];omega,fun v hv=>?_,?_⟩
   ·have:=hns v (Qad (Qac hv));omega
   have s911:=s10.trans s11
   refine⟨fun σ H12=>σ=[some (.ref a),some (.int wy),some x,some (.ref r),v1,some (.ref DD),some (.int b),some (.int e),some (.int (seg ns b e)),v6]∧Zn H9 H12∧(e-b=1→g b e≤0),?_,?_⟩
   ·refine⟨_,rfl,_,rfl,_,_,rfl,rfl,rfl,_,rfl,ZdN (fun h1=>?_) (fun h1=>?_)⟩
    ·refine⟨_,rfl,_,rfl,_,rfl,(by show 2≤sizeLine;decide),fun k0 hk0=>?_⟩
     have s12:=Zd hk0 (.tup ((Kp b e).map kV))
     have f12:(upd H11 k0 (.tup ((Kp b e).map kV))) k0=some (.tup ((Kp b e).map kV)):=Zb
     change ZeR _ _ (upd H11 k0 (.tup ((Kp b e).map kV))) _
     generalize upd H11 k0 (.tup ((Kp b e).map kV))=H12 at s12 f12 ⊢
     have s912:=s911.trans s12
     refine⟨DD,_,k0,Kp b e,_,rfl,rfl,.inr ⟨o,s912 _ _ f9⟩,f12,Zb8 g hb1 he1,_,_,rfl,rfl,_,rfl,ZdN (fun hgt=>?_) (fun hle=>?_)⟩
     ·have hgt:=of_decide_eq_true hgt
      refine q false H12 ⟨fun z=>(by cases z),fun z=>?_⟩ (s09.trans s912)
      have z1:=((Zdv w2 hb1).mp ((iff.mp z).2 b e hb1 he1)).1
      have h1:=of_decide_eq_true h1
      have h1:(e:Int)-(b:Int)=1:=by injection h1
      have:=z1 (by omega)
      omega
     ·exact⟨rfl,s912,fun _=>by
       have:¬ g b e>0:=fun z=>hle (decide_eq_true z)
       omega⟩
    ·exact⟨rfl,s911,fun z=>absurd (decide_eq_true (by show V.int ((e:Int)-(b:Int))=V.int 1;rw[show (e:Int)-(b:Int)=1 by omega])) h1⟩
   ·rintro σ H12 ⟨rfl,s12,hone⟩
    refine⟨_,rfl,_,rfl,_,rfl,b,e,wy,rfl,hb1,by omega,w2,w6,fun rc ls Cn H13 hrc hrd hCn hCl s13=>?_⟩
    have s913:=s12.trans s13
    refine⟨rc,rfl,⟨_,SqL.of hrc⟩,?_⟩
    refine Zdi (K:=K) (a:=rc) (xs:=ls.map V.ref) (fun j σ H14=>(∃v:Option V,σ=[some (.ref a),some (.int wy),some x,some (.ref r),v1,some (.ref DD),some (.int b),some (.int e),some (.int (seg ns b e)),v])∧(∀c∈Cn.take j,g b e≤seg ns b e+ZaY g c e)∧Zn H13 H14) ⟨⟨_,rfl⟩,(fun p hp=>by rw[Qax]at hp;cases hp),Zn.refl _⟩ (fun _ _ _ _ h=>SqL.of (h.2.2 _ _ hrc)) ?_ ?_
    ·rintro j z σ H14 hz ⟨⟨v,rfl⟩,hcs,s14⟩
     rw[Qr]at hz
     cases hlj:ls[j]? with
     | none=>rw[hlj]at hz;cases hz
     | some l =>
     rw[hlj]at hz
     cases hz
     obtain⟨cI,hcI,hl⟩:=hrd.at hlj
     rw[Qr]at hcI
     cases hcj:Cn[j]? with
     | none=>rw[hcj]at hcI;cases hcI
     | some c =>
     rw[hcj]at hcI
     cases hcI
     obtain⟨hcut,hc2⟩:=(hCn c).mp (QA hcj)
     refine⟨_,rfl,_,rfl,_,rfl,(by show 2≤sizeLine;decide),fun k0 hk0=>?_⟩
     have s15:=Zd hk0 (.tup ((Kp b e).map kV))
     have f15:(upd H14 k0 (.tup ((Kp b e).map kV))) k0=some (.tup ((Kp b e).map kV)):=Zb
     change ZeR _ _ (upd H14 k0 (.tup ((Kp b e).map kV))) _
     generalize upd H14 k0 (.tup ((Kp b e).map kV))=H15 at s15 f15 ⊢
     have s1315:=s14.trans s15
     have s915:=s913.trans s1315
     refine⟨DD,_,k0,Kp b e,_,rfl,rfl,.inr ⟨o,s915 _ _ f9⟩,f15,Zb8 g hb1 he1,?_⟩
     have hlook:∀x y,(x,y)∈c.zip (c.tail++[e])→ZU (Z6 ns.length g) (Kp x y)=some (.int (g x y)):=fun x y hxy=>by
      obtain⟨h1,h2,h3,h4⟩:=hcut
      cases c with
      | nil=>cases hc2
      | cons u rr =>
       obtain⟨_,a2,a3,_⟩:=ZeX rr u h2 h3 x y hxy
       exact Zb8 g a2 (by omega)
     refine⟨_,rfl,_,rfl,_,rfl,_,rfl,DD,l,_,c,e,g,rfl,.inr ⟨o,s915 _ _ f9⟩,s1315 _ _ hl,by have:=hcut.2.2.2;omega,(fun z=>by rw[z]at hc2;cases hc2),hlook,fun H16 s16=>⟨_,_,rfl,rfl,_,_,rfl,rfl,_,rfl,ZdN (fun hgt=>?_) (fun hle=>?_)⟩⟩
     ·have hgt:=of_decide_eq_true hgt
      refine q false H16 ⟨fun z=>(by cases z),fun z=>?_⟩ ((s09.trans s915).trans s16)
      have:=((Zdv w2 hb1).mp ((iff.mp z).2 b e hb1 he1)).2 c hcut hc2
      omega
     ·have hle:¬ g b e>seg ns b e+ZaY g c e:=fun z=>hle (decide_eq_true z)
      refine⟨⟨_,rfl⟩,fun c' hc'=>?_,s1315.trans s16⟩
      rw[Qw,hcj]at hc'
      rcases Qt.mp hc' with hc'|hc'
      ·exact hcs c' hc'
      ·have:c'=c:=by simpa using hc'
       rw[this];omega
    ·rintro σ H14 ⟨⟨v,rfl⟩,hcs,s14⟩
     have hln:Cn.length≤(ls.map V.ref).length:=by
      have:=hrd.len
      rw[Qb]at this
      rw[Qb];omega
     rw[Qq hln]at hcs
     refine⟨⟨_,_,_,_,_,rfl⟩,fun p hp=>?_,s913.trans s14⟩
     rw[Qw,hpj]at hp
     rcases Qt.mp hp with hp|hp
     ·exact hm p hp
     ·have:p=(b,e):=by simpa using hp
      rw[this]
      exact(Zdv w2 hb1).mpr ⟨hone,fun c h1 h2=>hcs c ((hCn c).mpr ⟨h1,h2⟩)⟩
  ·rintro σ H10 ⟨⟨v1,v3,v4,v5,v6,rfl⟩,hm,s10⟩
   have lK:(Z6 ns.length g).length=(Zm ns.length ns.length).length:=by unfold Z6;rw[Qb]
   rw[lK,Qq (Qd _)]at hm
   have s010:=s09.trans s10
   refine⟨_,rfl,_,rfl,a,_,rfl,.inl (SqL.of (s010 _ _ hS)),(by show 2≤sizeLine;decide),fun k0 hk0=>?_⟩
   have s4:=Zd hk0 (.tup ((Kp 0 ns.length).map kV))
   have f4:(upd H10 k0 (.tup ((Kp 0 ns.length).map kV))) k0=some (.tup ((Kp 0 ns.length).map kV)):=Zb
   have e4:(.tup [.int 0,.int (((ns.map V.int).length:Nat):Int)]:HO)=.tup ((Kp 0 ns.length).map kV):=by rw[hls];rfl
   rw[e4]
   generalize upd H10 k0 (.tup ((Kp 0 ns.length).map kV))=H11 at s4 f4 ⊢
   have s011:=s010.trans s4
   refine⟨DD,_,k0,_,_,rfl,rfl,.inr ⟨o,(s10.trans s4) _ _ f9⟩,f4,Zb8 g (by omega) (Qd _),?_⟩
   refine⟨_,rfl,_,rfl,a,ns,x,t,rfl,SqL.of (s011 _ _ hS),by omega,(fun v hv=>by have:=hns v hv;omega),hT.mono (ZX s011),hok,by omega,by omega,fun H12 s12=>⟨rfl,?_⟩⟩
   refine q _ H12 (Iff.trans ?_ iff.symm) (s011.trans s12)
   refine⟨fun z=>⟨?_,fun x y h1 h2=>hm (x,y) (Za5.mpr ⟨h1,h2⟩)⟩,fun z=>decide_eq_true (by rw[z.1])⟩
   have z:=of_decide_eq_true z
   injection z
structure Rb (d:PyData):Prop where
 wt:d.weight≤300
 gd:Gd 2 d
structure Rz (d:PyData):Prop where
 wt:d.weight≤60200
 gd:Gd 3 d
theorem ZjA:∀ {ds:List PyData},(∀d∈ds,Rb d)→PyData.weightAll ds≤301*ds.length
 | [],_=>Qd _
 | d::r,h=>by
  have a:=ZjA fun x hx=>h x (Qi _ hx)
  have b:=(h d (Qp ..)).wt
  show d.weight+1+PyData.weightAll r≤301*(r.length+1)
  omega
theorem Zls{ds:List PyData}(h:∀d∈ds,Rb d)(n:ds.length≤200):Rz (.list ds):=by
 have a:=ZjA h
 exact⟨by show PyData.weightAll ds≤_;omega,Zbc fun d hd=>(h d hd).gd⟩
structure Ra (d:PyData):Prop where
 wt:d.weight≤90
 gd:Gd 1 d
theorem ZgC{i:Int}(h:i.natAbs<10 ^ 21):Ra (.int i):=by
 obtain⟨_,t2,t3⟩:=ZcJ h
 exact⟨by omega,t3.mono (by omega)⟩
theorem Zjo:∀ {ds:List PyData},(∀d∈ds,Ra d)→PyData.weightAll ds≤91*ds.length
 | [],_=>Qd _
 | d::r,h=>by
  have a:=Zjo fun x hx=>h x (Qi _ hx)
  have b:=(h d (Qp ..)).wt
  show d.weight+1+PyData.weightAll r≤91*(r.length+1)
  omega
theorem Zl9{ds:List PyData}(h:∀d∈ds,Ra d)(n:ds.length≤3):Rb (.tuple ds):=by
 have a:=Zjo h
 exact⟨by show PyData.weightAll ds≤_;omega,ZcI fun d hd=>(h d hd).gd⟩
theorem ZnM{α:Type}{P:α→Prop}{a b c:α}(ha:P a)(hb:P b)(hc:P c):∀d∈[a,b,c],P d:=fun d hd=>by
 simp only[List.mem_cons,List.not_mem_nil,or_false]at hd
 rcases hd with rfl|rfl|rfl
 ·exact ha
 ·exact hb
 ·exact hc
theorem Zmu{α:Type}{P:α→Prop}{a b:α}(ha:P a)(hb:P b):∀d∈[a,b],P d:=fun d hd=>by
 simp only[List.mem_cons,List.not_mem_nil,or_false]at hd
 rcases hd with rfl|rfl
 ·exact ha
 ·exact hb
theorem ZjW(D:Nat):Gd D .none:=⟨Ql _,rfl,rfl,rfl⟩
def Sm3(e:Int×Int×Int):Prop:=e.1.natAbs<10 ^ 20∧e.2.1.natAbs<10 ^ 20∧e.2.2.natAbs<10 ^ 20
theorem Zmn{e:Int×Int×Int}(h:Sm3 e):Rb (tD (q3 e)):=Zl9 (ds:=[.int e.1,.int e.2.1,.int e.2.2]) (ZnM (ZgC (by have:=h.1;omega)) (ZgC (by have:=h.2.1;omega)) (ZgC (by have:=h.2.2;omega))) (Qd 3)
mutual
theorem Zmf{ns:List Int}(h:∀v∈ns,0≤v∧v≤1000000000):∀t:PT,0≤tSz ns t∧tSz ns t≤1000000000*(tLf t:Int)
 | .leaf k=>by
  show 0≤ns.getD k.toNat 0∧ns.getD k.toNat 0≤1000000000*((1:Nat):Int)
  rw[QT]
  cases hk:ns[k.toNat]? with
  | none=>exact⟨Qaa _,by decide⟩
  | some v=>have:=h v (QA hk);exact⟨this.1,by show v≤_;omega⟩
 | .node l=>Ze7 h l
theorem Ze7{ns:List Int}(h:∀v∈ns,0≤v∧v≤1000000000):∀l:List PT,0≤Zap ns l∧Zap ns l≤1000000000*(ZbY l:Int)
 | []=>⟨Qaa _,Qaa _⟩
 | t::r=>by
  have a:=Zmf h t
  have b:=Ze7 h r
  show 0≤tSz ns t+Zap ns r∧tSz ns t+Zap ns r≤1000000000*((tLf t+ZbY r:Nat):Int)
  omega
end
mutual
theorem Zi2{ns:List Int}(h:∀v∈ns,0≤v∧v≤1000000000):∀t:PT,tLf t≤13→0≤tCo ns t∧tCo ns t≤13000000000*(tNo t:Int)
 | .leaf k,_=>⟨Qaa _,by show (0:Int)≤13000000000*((1:Nat):Int);decide⟩
 | .node l,hl=>by
  have hl:ZbY l≤13:=hl
  have a:=ZhY h l hl
  have b:=Ze7 h l
  show 0≤Zaq ns l+Zap ns l∧Zaq ns l+Zap ns l≤13000000000*((Z1 l+1:Nat):Int)
  omega
theorem ZhY{ns:List Int}(h:∀v∈ns,0≤v∧v≤1000000000):∀l:List PT,ZbY l≤13→0≤Zaq ns l∧Zaq ns l≤13000000000*(Z1 l:Int)
 | [],_=>⟨Qaa _,Qaa _⟩
 | t::r,hl=>by
  have hl:tLf t+ZbY r≤13:=hl
  have a:=Zi2 h t (by omega)
  have b:=ZhY h r (by omega)
  show 0≤tCo ns t+Zaq ns r∧tCo ns t+Zaq ns r≤13000000000*((tNo t+Z1 r:Nat):Int)
  omega
end
theorem Zm7{ns:List Int}{w b e:Nat}{p:Int}{t:PT}(hn:ns.length≤12)(h:∀v∈ns,0≤v∧v≤1000000000)(he:e≤ns.length)(g:Gr ns w b e 1 p [t]):0≤p∧p≤1000000000000:=by
 obtain⟨v,pl⟩:=g.nf
 have e1:Zaq ns [t]=tCo ns t+0:=rfl
 have e2:ZaC [t]=tLv t++[]:=rfl
 rw[e2,QH]at v
 obtain⟨⟨g1,g2⟩,g3⟩:=ZeT t pl.1
 rw[v,ZaG]at g3
 have c:=Zi2 h t (by omega)
 have:=g.co
 omega
theorem AtT.butP{p:Addr}{c:Int}{H H':Hp}{ts:ZaX}(h:AtT H ts)(L:Z9 H p c)(B:But p H H'):AtT H' ts:=fun u hu=>by
 have h1:=h u hu
 refine B _ _ h1 fun z=>?_
 obtain⟨_,_,hl,_⟩:=L
 rw[z,hl]at h1;cases h1
mutual
theorem TV.dhO{p:Addr}{H:Hp}{c:Int}(L:Z9 H p c):∀ {x:V} {t:PT},TV H x t→DH (off p H) x (toD t)
 | _,_,.leaf k=>.int k
 | _,_,.node h hs=>.tup (ZbH h (fun z=>by
   obtain⟨_,_,hl,_⟩:=L
   rw[z,hl]at h;cases h)) (TVs.dhO L hs)
theorem TVs.dhO{p:Addr}{H:Hp}{c:Int}(L:Z9 H p c):∀ {xs:List V} {l:List PT},TVs H xs l→DHs (off p H) xs (Z0 l)
 | _,_,.nil=>.nil
 | _,_,.cons h hs=>.cons (TV.dhO L h) (TVs.dhO L hs)
end
theorem Zk2{n m:Nat}{t:PT}(hn:n≤1000)(hok:tOk n t)(hg:tGd t)(hl:tLf t=m)(hm:m≤13):Th m 1100 13 (toD t)∧lfD (toD t)=m:=by
 obtain⟨a,b⟩:=Zlz hn hok
 obtain⟨g1,g2⟩:=hg
 have e:=ZhX t
 exact⟨⟨by omega,by omega,a.mono (by omega)⟩,by omega⟩
def neo(H H':Hp):Hp:=fun b=>match H b with
 | none=>H' b
 | some _=>none
theorem ZaP{H H':Hp}{b:Addr}{o:HO}(h:H b=none)(h':H' b=some o):neo H H' b=some o:=by unfold neo;rw[h];exact h'
theorem Zfb{H H':Hp}{b:Addr}{o:HO}(h:neo H H' b=some o):H b=none∧H' b=some o:=by
 unfold neo at h
 cases hb:H b with
 | none=>rw[hb]at h;exact⟨rfl,h⟩
 | some u=>rw[hb]at h;cases h
theorem Zft{p:Addr}{H H':Hp}{u:HO}(hp:H p=some u):Zn (neo H H') (off p H'):=fun b o hb=>by
 obtain⟨a1,a2⟩:=Zfb hb
 exact ZbH a2 fun z=>by rw[z,hp]at a1;cases a1
theorem Zhv{p:Addr}{H H2 H3:Hp}{u:HO}(hp:H p=some u)(B:But p H2 H3):Zn (neo H H2) (neo H H3):=fun b o hb=>by
 obtain⟨a1,a2⟩:=Zfb hb
 exact ZaP a1 (B _ _ a2 fun z=>by rw[z,hp]at a1;cases a1)
theorem Zjk{p D:Addr}{c:Int}{H H5 H6:Hp}{x u:HO}(B:But p H H5)(L:Z9 H5 p c)(hD:H5 D=some u):Zn (neo H5 H6) (off D (neo H (upd H6 D x))):=fun b o hb=>by
 obtain⟨a1,a2⟩:=Zfb hb
 have nD:b≠D:=fun z=>by rw[z,hD]at a1;cases a1
 refine ZbH (ZaP ?_ (by rw[Zj nD];exact a2)) nD
 cases hh:H b with
 | none=>rfl
 | some v =>
  by_cases z:b=p
  ·obtain⟨_,_,hl,_⟩:=L
   rw[z,hl]at a1;cases a1
  ·rw[B _ _ hh z]at a1;cases a1
theorem ZmO{p D:Addr}{H H5 H6:Hp}{u x:HO}(hp:H p=some u)(B:But p H5 H6):Zn (off D (neo H H5)) (off D (neo H (upd H6 D x))):=fun b o hb=>by
 have nD:b≠D:=fun z=>by rw[z]at hb;unfold off at hb;rw[if_pos rfl]at hb;cases hb
 obtain⟨a1,a2⟩:=Zfb (Zfk _ _ hb)
 refine ZbH (ZaP a1 ?_) nD
 rw[Zj nD]
 exact B _ _ a2 fun z=>by rw[z,hp]at a1;cases a1
def lA:Nat→Nat
 | 0=>3
 | k+1=>3*lA k
def wA:Nat→Nat
 | 0=>230
 | k+1=>3*(wA k+1)
def cA:Nat→Nat
 | 0=>1
 | k+1=>3+3*cA k
theorem lwA:∀k:Nat,3≤lA k∧230≤wA k∧1≤cA k
 | 0=>⟨Qd _,Qd _,Qd _⟩
 | k+1=>by
  obtain⟨a,b,c⟩:=lwA k
  exact⟨by show 3≤3*lA k;omega,by show 230≤3*(wA k+1);omega,by show 1≤3+3*cA k;omega⟩
theorem Zfq{L W D:Nat}:∀ {ds:List PyData},(∀d∈ds,Th L W D d)→Za8 ds≤L*ds.length∧PyData.weightAll ds≤(W+1)*ds.length
 | [],_=>⟨Qd _,Qd _⟩
 | d::r,h=>by
  obtain⟨a,b⟩:=Zfq fun x hx=>h x (Qi _ hx)
  obtain⟨c1,c2,_⟩:=h d (Qp ..)
  refine⟨?_,?_⟩
  ·show lfD d+Za8 r≤L*(r.length+1)
   rw[Nat.mul_add,Nat.mul_one];omega
  ·show d.weight+1+PyData.weightAll r≤(W+1)*(r.length+1)
   rw[Nat.mul_add (W+1),Nat.mul_one];omega
theorem Zjq{k:Nat}{ds:List PyData}(h:∀d∈ds,Th (lA k) (wA k) (k+2) d)(n:ds.length≤3):Th (lA (k+1)) (wA (k+1)) (k+1+2) (.list ds)∧Th (lA (k+1)) (wA (k+1)) (k+1+2) (.tuple ds):=by
 obtain⟨a,b⟩:=Zfq h
 have h1:lA k*ds.length≤lA k*3:=Qat _ n
 have h2:(wA k+1)*ds.length≤(wA k+1)*3:=Qat _ n
 have e1:lA (k+1)=3*lA k:=rfl
 have e2:wA (k+1)=3*(wA k+1):=rfl
 refine⟨⟨?_,?_,Zbc fun d hd=>(h d hd).gd⟩,?_,?_,ZcI fun d hd=>(h d hd).gd⟩
 ·show Za8 ds≤_;omega
 ·show PyData.weightAll ds≤_;omega
 ·show Za8 ds≤_;omega
 ·show PyData.weightAll ds≤_;omega
theorem Zff{l:List Int}(h:∀i∈l,i.natAbs<10 ^ 21)(n:l.length≤3):(Th 3 219 1 (.tuple (l.map PyData.int))∧Th 3 219 1 (.list (l.map PyData.int))):=by
 have h1:∀d∈l.map PyData.int,Th 1 72 0 d:=fun d hd=>by
  obtain⟨i,hi,rfl⟩:=QC.mp hd
  exact ZcJ (h i hi)
 obtain⟨a,b⟩:=Zfq h1
 rw[Qb]at a b
 refine⟨⟨?_,?_,ZcI fun d hd=>(h1 d hd).gd⟩,?_,?_,Zbc fun d hd=>(h1 d hd).gd⟩
 ·show Za8 _≤_;omega
 ·show PyData.weightAll _≤_;omega
 ·show Za8 _≤_;omega
 ·show PyData.weightAll _≤_;omega
theorem ZlS:∀k,k<6→cA k≤1000:=by decide
def ZlQ(m:Nat):Sp:=fun vs H Q _=>∃ (p:Addr) (c:Int) (k:Nat),vs=[.ref p,.int k]∧k<m∧k<6∧Z9 H p c∧c+cA k<2 ^ 40 ∧
 ∀ (z:V) (d:PyData) (c':Int) (H':Hp),DH (neo H H') z d→Th (lA k) (wA k) (k+2) d→Z9 H' p c'→c≤c'→c'≤c+cA k→But p H H'→Q z H'
theorem Zjm(T:Zar K mg)(f_l_pick:Df P w K mg base 2 "_law_pick" ["_law_left_here", "_law_many_here"] ZcN):∀m:Nat,Df P w K mg base (m+2) "_law_any" ["_law_left_here", "_law_deep_here"] (ZlQ m)
 | 0=>by
  refine T.t_l_any.df Zc8 (fun vs H Q E h=>?_) (fun cdv f A outer s H vs Q E hr h=>?_)
  ·obtain⟨p,c,k,rfl,_⟩:=h
   rfl
  obtain⟨p,c,k,rfl,hk,_⟩:=h
  exact absurd hk (by omega)
 | m+1=>by
  have f_l_any:=Zjm T f_l_pick m
  refine T.t_l_any.df Zc8 (fun vs H Q E h=>?_) (fun cdv f A outer s H vs Q E hr h=>?_)
  ·obtain⟨p,c,k,rfl,_⟩:=h
   rfl
  obtain⟨p,c,k,rfl,hk,hk6,hL,c40,q⟩:=h
  refine⟨_,#[Zh,#[Zw,2,Zc8.nd,(Or.inl rfl),#[ZG,#[Za,(@ZjC _ _ _),#[Za,#[Zae],#[Za,#[Zae],#[Za,#[Ze],#[Za,#[Ze],#[Za,(@ZlZ _ _ _ _ _ _ Zjg #[Ze]),#[Za,#[Ze],#[Za,(@Zha _ _ _ _),#[Za,(@Zha _ _ _ _),#[Za,(@Zha _ _ _ _),#[Za,#[Zv,#[Zc]],#[Za,#[ZG,#[Zc]],#[Za,#[Zv,#[Za,#[Ze],#[Za,#[Ze],#[Zc]]]],#[Za,#[ZG,#[Za,#[Ze],#[Za,#[Ze],#[Zc]]]],#[Za,#[Zv,#[Za,#[Ze],#[Za,#[Ze],#[Za,#[Ze],#[Zc]]]]],#[Za,#[ZG,#[Za,#[Zv,#[Za,#[Ze],#[Za,#[Ze],#[Za,#[Ze],#[Zc]]]]],#[Zc]]],#[Za,#[Zv,#[Za,#[Zv,#[Za,#[Ze],#[Za,#[Ze],#[Zc]]]],#[Za,#[Ze],#[Zc]]]],#[Zc]]]]]]]]]]]]]]]]]]]],#[Zh,#[ZZ,(@PW.pt _ _ _ #[Zcd,#[ZA,ZdK,#[pv,1,(Or.inr (Or.inl rfl))],#[Ze],(ZF _)],#[ZbJ,#[ZA,ZdK,#[Zs,f_l_pick,hr,#[Za,#[pv,0,(Or.inr (Or.inl rfl))],#[Za,#[Ze],#[Zc]]],(by rfl)],#[Ze],(ZF _)]]]),#[Zi,#[Zl,#[ZI,(ixL K),‹2›,#[Zs,f_l_pick,hr,#[Za,#[pv,0,(Or.inr (Or.inl rfl))],#[Za,#[Ze],#[Zc]]],(by rfl)]]]],#[ZD]],#[Zh,(@Zg1 _ _ _ _ _ 3 _ _ _ _ _ _ _ _ _ _ _ _ Zc8.nd rfl (Or.inl rfl) Zgm rfl rfl rfl #[Zav,T.b.n_range,#[Za,#[Zs,f_l_pick,hr,#[Za,#[pv,0,(Or.inr (Or.inl rfl))],#[Za,#[Ze],#[Zc]]],(by rfl)],#[Zc]]] (fun _ _ _ _=>#[cg,4,Zgm]) (fun _ _ _ _=>(@ZaI _)) (fun _ _ _ _=>#[Zs,f_l_any,hr,#[Za,#[cv,0,Zgm],#[Za,#[Zq,ZbL,#[cv,1,Zgm],#[Ze]],#[Zc]]],(Zad Zgm rfl (by ac_rfl))]) (by rfl) (by intro _;rfl) (by trivial)),#[Zi,#[Zl,#[ZI,(ixL K),#[ZG,#[Za,‹3›,#[Za,#[Zac,(ZnT K),T.b.n_tuple,boot_tuple,#[Za,‹3›,#[Zc]]],#[Zc]]]],#[Zs,f_l_pick,hr,#[Za,#[pv,0,(Or.inr (Or.inl rfl))],#[Za,#[Ze],#[Zc]]],(by rfl)]]]]]]],?_⟩
  have c0:=hL.ge
  obtain⟨lk,wk,ck⟩:=lwA k
  have ckl:=ZlS k hk6
  obtain⟨op,hop⟩:∃o,H p=some o:=hL.here
  refine⟨_,rfl,(by show 0≤sizeLine;decide),fun a1 ha1=>?_⟩
  have m1:H a1=none:=ha1
  have s1:=Zd ha1 (.tup [])
  have f1:(upd H a1 (.tup [])) a1=some (.tup []):=Zb
  generalize upd H a1 (.tup [])=G1 at s1 f1 ⊢
  have t1:=s1
  refine⟨(by show 0≤sizeLine;decide),fun a2 ha2=>?_⟩
  have m2:H a2=none:=t1.free ha2
  have s2:=Zd ha2 (.lst [])
  have f2:(upd G1 a2 (.lst [])) a2=some (.lst []):=Zb
  generalize upd G1 a2 (.lst [])=G2 at s2 f2 ⊢
  have t2:=t1.trans s2
  refine⟨(by show 2≤sizeLine;decide),fun a3 ha3=>?_⟩
  have m3:H a3=none:=t2.free ha3
  have s3:=Zd ha3 (.tup [.int 0,.int 1])
  have f3:(upd G2 a3 (.tup [.int 0,.int 1])) a3=some (.tup [.int 0,.int 1]):=Zb
  generalize upd G2 a3 (.tup [.int 0,.int 1])=G3 at s3 f3 ⊢
  have t3:=t2.trans s3
  refine⟨(by show 2≤sizeLine;decide),fun a4 ha4=>?_⟩
  have m4:H a4=none:=t3.free ha4
  have s4:=Zd ha4 (.lst [.int 0,.int 1])
  have f4:(upd G3 a4 (.lst [.int 0,.int 1])) a4=some (.lst [.int 0,.int 1]):=Zb
  generalize upd G3 a4 (.lst [.int 0,.int 1])=G4 at s4 f4 ⊢
  have t4:=t3.trans s4
  refine⟨(by show 3≤sizeLine;decide),fun a5 ha5=>?_⟩
  have m5:H a5=none:=t4.free ha5
  have s5:=Zd ha5 (.tup [.int 0,.int 1,.int 0])
  have f5:(upd G4 a5 (.tup [.int 0,.int 1,.int 0])) a5=some (.tup [.int 0,.int 1,.int 0]):=Zb
  generalize upd G4 a5 (.tup [.int 0,.int 1,.int 0])=G5 at s5 f5 ⊢
  have t5:=t4.trans s5
  refine⟨(by show 3≤sizeLine;decide),fun a6 ha6=>?_⟩
  have m6:H a6=none:=t5.free ha6
  have s6:=Zd ha6 (.tup [.int 0,.int 1,.int 0])
  have f6:(upd G5 a6 (.tup [.int 0,.int 1,.int 0])) a6=some (.tup [.int 0,.int 1,.int 0]):=Zb
  generalize upd G5 a6 (.tup [.int 0,.int 1,.int 0])=G6 at s6 f6 ⊢
  have t6:=t5.trans s6
  refine⟨(by show 1≤sizeLine;decide),fun a7 ha7=>?_⟩
  have m7:H a7=none:=t6.free ha7
  have s7:=Zd ha7 (.lst [.ref a6])
  have f7:(upd G6 a7 (.lst [.ref a6])) a7=some (.lst [.ref a6]):=Zb
  generalize upd G6 a7 (.lst [.ref a6])=G7 at s7 f7 ⊢
  have t7:=t6.trans s7
  refine⟨(by show 2≤sizeLine;decide),fun a8 ha8=>?_⟩
  have m8:H a8=none:=t7.free ha8
  have s8:=Zd ha8 (.tup [.int 0,.int 1])
  have f8:(upd G7 a8 (.tup [.int 0,.int 1])) a8=some (.tup [.int 0,.int 1]):=Zb
  generalize upd G7 a8 (.tup [.int 0,.int 1])=G8 at s8 f8 ⊢
  have t8:=t7.trans s8
  refine⟨(by show 2≤sizeLine;decide),fun a9 ha9=>?_⟩
  have m9:H a9=none:=t8.free ha9
  have s9:=Zd ha9 (.tup [.ref a8,.int 2])
  have f9:(upd G8 a9 (.tup [.ref a8,.int 2])) a9=some (.tup [.ref a8,.int 2]):=Zb
  generalize upd G8 a9 (.tup [.ref a8,.int 2])=G9 at s9 f9 ⊢
  have t9:=t8.trans s9
  refine⟨(by show 17≤sizeLine;decide),fun so hso=>?_⟩
  have mso:H so=none:=t9.free hso
  have s10:=Zd hso (.lst [.non,.bl true,.bl false,.int 0,.int 1,.int (-1),.int 2,.str "",.str "a",.str "0",.ref a1,.ref a2,.ref a3,.ref a4,.ref a5,.ref a7,.ref a9])
  have f10:(upd G9 so (.lst [.non,.bl true,.bl false,.int 0,.int 1,.int (-1),.int 2,.str "",.str "a",.str "0",.ref a1,.ref a2,.ref a3,.ref a4,.ref a5,.ref a7,.ref a9])) so=some (.lst [.non,.bl true,.bl false,.int 0,.int 1,.int (-1),.int 2,.str "",.str "a",.str "0",.ref a1,.ref a2,.ref a3,.ref a4,.ref a5,.ref a7,.ref a9]):=Zb
  generalize upd G9 so (.lst [.non,.bl true,.bl false,.int 0,.int 1,.int (-1),.int 2,.str "",.str "a",.str "0",.ref a1,.ref a2,.ref a3,.ref a4,.ref a5,.ref a7,.ref a9])=G at s10 f10 ⊢
  have u9:=s10
  have u8:=s9.trans u9
  have u7:=s8.trans u8
  have u6:=s7.trans u7
  have u5:=s6.trans u6
  have u4:=s5.trans u5
  have u3:=s4.trans u4
  have u2:=s3.trans u3
  have u1:=s2.trans u2
  have t10:=t9.trans s10
  have all:∀v∈([.non,.bl true,.bl false,.int 0,.int 1,.int (-1),.int 2,.str "",.str "a",.str "0",.ref a1,.ref a2,.ref a3,.ref a4,.ref a5,.ref a7,.ref a9]:List V),∃d,DH (neo H G) v d∧Th 3 230 2 d:=fun v hv=>by
   have i2:=Zff (l:=[0,1]) (by decide) (by decide)
   have i3:=Zff (l:=[0,1,0]) (by decide) (by decide)
   have tI:∀i:Int,i.natAbs<10 ^ 21→Th 3 230 2 (.int i):=fun i hi=>(ZcJ hi).mono (by omega) (by omega) (by omega)
   have d2:∀ {H:Hp},DHs H [.int 0,.int 1] (([0,1]:List Int).map PyData.int):=.cons (.int 0) (.cons (.int 1) .nil)
   have d3:∀ {H:Hp},DHs H [.int 0,.int 1,.int 0] (([0,1,0]:List Int).map PyData.int):=.cons (.int 0) (.cons (.int 1) (.cons (.int 0) .nil))
   simp only[List.mem_cons,List.not_mem_nil,or_false]at hv
   rcases hv with rfl|rfl|rfl|rfl|rfl|rfl|rfl|rfl|rfl|rfl|rfl|rfl|rfl|rfl|rfl|rfl|rfl
   ·exact⟨.none,.non,by show 1≤_;omega,Ql _,ZjW 2⟩
   ·exact⟨_,.bl true,by show 1≤_;omega,Ql _,Ql _,rfl,rfl,rfl⟩
   ·exact⟨_,.bl false,by show 1≤_;omega,Ql _,Ql _,rfl,rfl,rfl⟩
   ·exact⟨_,.int _,tI _ (by decide)⟩
   ·exact⟨_,.int _,tI _ (by decide)⟩
   ·exact⟨_,.int _,tI _ (by decide)⟩
   ·exact⟨_,.int _,tI _ (by decide)⟩
   ·exact⟨_,.str _,by show 1≤_;omega,by decide,Ql _,by ac_rfl,rfl,rfl⟩
   ·exact⟨_,.str _,by show 1≤_;omega,by decide,Ql _,by ac_rfl,rfl,rfl⟩
   ·exact⟨_,.str _,by show 1≤_;omega,by decide,Ql _,by ac_rfl,rfl,rfl⟩
   ·exact⟨.tuple [],.tup (ZaP m1 (u1 _ _ f1)) .nil,Ql _,Ql _,(ZcI (D:=0) fun d hd=>by cases hd).mono (by omega)⟩
   ·exact⟨.list [],.lst (ZaP m2 (u2 _ _ f2)) .nil,Ql _,Ql _,(Zbc (D:=0) fun d hd=>by cases hd).mono (by omega)⟩
   ·exact⟨_,.tup (ZaP m3 (u3 _ _ f3)) d2,i2.1.mono (by omega) (by omega) (by omega)⟩
   ·exact⟨_,.lst (ZaP m4 (u4 _ _ f4)) d2,i2.2.mono (by omega) (by omega) (by omega)⟩
   ·exact⟨_,.tup (ZaP m5 (u5 _ _ f5)) d3,i3.1.mono (by omega) (by omega) (by omega)⟩
   ·refine⟨.list [.tuple (([0,1,0]:List Int).map PyData.int)],.lst (ZaP m7 (u7 _ _ f7)) (.cons (.tup (ZaP m6 (u6 _ _ f6)) d3) .nil),?_,?_,Zbc (D:=1) fun d hd=>by rw[Qg.mp hd];exact i3.1.gd⟩
    ·have:=i3.1.lf
     show lfD (.tuple (([0,1,0]:List Int).map PyData.int))+0≤_;omega
    ·have:=i3.1.wt
     show (PyData.tuple (([0,1,0]:List Int).map PyData.int)).weight+1+0≤_;omega
   ·refine⟨.tuple [.tuple (([0,1]:List Int).map PyData.int),.int 2],.tup (ZaP m9 (u9 _ _ f9)) (.cons (.tup (ZaP m8 (u8 _ _ f8)) d2) (.cons (.int 2) .nil)),by decide,by decide,ZcI (D:=1) (Zmu i2.1.gd ((ZcJ (by decide)).gd.mono (by omega)))⟩
  clear u1 u2 u3 u4 u5 u6 u7 u8 u9 f1 f2 f3 f4 f5 f6 f7 f8 f9 s1 s2 s3 s4 s5 s6 s7 s8 s9 t1 t2 t3 t4 t5 t6 t7 t8
  have L0:Z9 G p c:=hL.same t10
  have nso:so≠p:=fun z=>by rw[z,hop]at mso;cases mso
  have ret:∀ (c1:Int) (H1:Hp),Z9 H1 p c1→c≤c1→c1≤c+1→c1+1≤c+cA k→But p G H1→∀ (i:Int) (H2:Hp),0≤i→i<17→Z9 H2 p (c1+1)→But p H1 H2→∃v,atI [.non,.bl true,.bl false,.int 0,.int 1,.int (-1),.int 2,.str "",.str "a",.str "0",.ref a1,.ref a2,.ref a3,.ref a4,.ref a5,.ref a7,.ref a9] i=some v∧SqL K H2 so [.non,.bl true,.bl false,.int 0,.int 1,.int (-1),.int 2,.str "",.str "a",.str "0",.ref a1,.ref a2,.ref a3,.ref a4,.ref a5,.ref a7,.ref a9]∧Q v H2:=fun c1 H1 L1 g1 g2 g3 B1 i H2 i0 i1 L2 B2=>by
   obtain⟨v,hv,hat⟩:=Zdf (xs:=[.non,.bl true,.bl false,.int 0,.int 1,.int (-1),.int 2,.str "",.str "a",.str "0",.ref a1,.ref a2,.ref a3,.ref a4,.ref a5,.ref a7,.ref a9]) i0 i1
   obtain⟨d,hd,th⟩:=all v hv
   have B:=B1.trans B2
   exact⟨v,hat,SqL.of (B _ _ f10 nso),q v d (c1+1) H2 (hd.mono (Zhv hop B)) (th.mono (by omega) (by omega) (by omega)) L2 (by omega) (by omega) ((But.same t10).trans B)⟩
  cases k with
  | zero =>
   refine⟨_,rfl,rfl,_,rfl,ZY (ZY ?_)⟩
   refine⟨_,rfl,_,rfl,p,c,17,rfl,L0,by omega,by decide,by decide,fun i H2 i0 i1 L2 B2=>?_⟩
   obtain⟨v,h1,h2,h3⟩:=ret c G L0 (by omega) (by omega) (by show c+1≤c+((1:Nat):Int);omega) (But.refl _ _) i H2 i0 i1 L2 B2
   exact⟨so,_,_,v,rfl,rfl,h2,h1,h3⟩
  | succ k =>
   have ecA:cA (k+1)=3+3*cA k:=rfl
   obtain⟨_,_,ck0⟩:=lwA k
   refine⟨_,rfl,rfl,_,rfl,?_⟩
   rw[decide_eq_false (fun z:V.int ((k+1:Nat):Int)=V.int 0=>by injection z with z;omega)]
   refine ZaB ⟨_,rfl,p,c,3,rfl,L0,by omega,by decide,by decide,fun i1 H1 i10 i11 L1 B1=>⟨rfl,_,rfl,ZdN (fun _=>?_) (fun _=>?_)⟩⟩
   ·refine⟨_,rfl,_,rfl,p,c+1,17,rfl,L1,by omega,by decide,by decide,fun i H2 i0 i1 L2 B2=>?_⟩
    obtain⟨v,h1,h2,h3⟩:=ret (c+1) H1 L1 (by omega) (by omega) (by omega) B1 i H2 i0 i1 L2 B2
    exact⟨so,_,_,v,rfl,rfl,h2,h1,h3⟩
   clear ret all f10
   refine⟨_,rfl,p,c+1,4,rfl,L1,by omega,by decide,by decide,fun n4 H2 n40 n41 L2 B2=>?_⟩
   refine⟨_,rfl,by omega,by omega,fun D hD=>?_⟩
   have B02:But p H H2:=((But.same t10).trans B1).trans B2
   have nDp:D≠p:=fun z=>by obtain⟨o,ho⟩:=L2.here;rw[z,ho]at hD;cases hD
   have hHD:H D=none:=by
    cases hh:H D with
    | none=>rfl
    | some o=>rw[B02 _ _ hh nDp]at hD;cases hD
   have ck1:=ZlS k (by omega)
   refine Zb7 (fun j ys σ H5=>(∃v:Option V,σ=[some (.ref p),some (.int ((k+1:Nat):Int)),some (.ref so),none,v])∧(∃ds:List PyData,DHs (off D (neo H H5)) ys ds∧(∀d∈ds,Th (lA k) (wA k) (k+2) d)∧ds.length=j)∧j≤n4.toNat∧H5 D=some (.lst ys)∧(∃c5:Int,Z9 H5 p c5∧c+2≤c5∧c5≤c+2+((cA k*j:Nat):Int))∧But p H H5) ⟨⟨_,rfl⟩,⟨[],.nil,(fun d hd=>by cases hd),rfl⟩,Ql _,Zb,⟨c+2,(by have:=L2.new (o:=.lst []) hD;rw[show c+1+1=c+2 by omega]at this;exact this),by omega,by omega⟩,B02.trans (But.same (Zd hD _))⟩ ?_ ?_
   ·rintro j ys σ H5 hj ⟨⟨v,rfl⟩,⟨ds,hds,hth,hdl⟩,_,hD5,⟨c5,L5,g1,g2⟩,B5⟩
    have j3:j≤3:=by omega
    have cj:cA k*j≤cA k*3:=Qat _ j3
    have cs:cA k*(j+1)=cA k*j+cA k:=Nat.mul_succ _ _
    have cj2:cA k*(j+1)≤cA k*3:=Qat _ (by omega)
    refine⟨_,rfl,_,rfl,_,_,rfl,rfl,p,c5,k,(by show [V.ref p,V.int (((k+1:Nat):Int)-1)]=_;rw[show (((k+1:Nat):Int)-1)=(k:Int) by omega]),by omega,by omega,L5,by omega,fun z d c6 H6 hz th L6 g3 g4 B6=>?_⟩
    have hyl:=hds.length
    refine⟨B6 _ _ hD5 nDp,(by rw[hyl,sizeLine_eq];omega),⟨_,rfl⟩,⟨ds++[d],(hds.mono (ZmO hop B6)).app (.cons (hz.mono (Zjk B5 L5 hD5)) .nil),fun d' hd'=>?_,by rw[Qe,Qy];omega⟩,hj,Zb,⟨c6,L6.at nDp.symm,by omega,by omega⟩,fun b o hb nb=>?_⟩
    ·rcases Qt.mp hd' with hd'|hd'
     ·exact hth d' hd'
     ·rw[Qg.mp hd'];exact th
    ·rw[Zj (Zg hb hHD)];exact B6 _ _ (B5 b o hb nb) nb
   ·rintro ys σ H5 ⟨⟨v,rfl⟩,⟨ds,hds,hth,hdl⟩,_,hD5,⟨c5,L5,g1,g2⟩,B5⟩
    have cj:cA k*n4.toNat≤cA k*3:=Qat _ (by omega)
    obtain⟨thl,tht⟩:=Zjq hth (by omega)
    refine⟨_,rfl,_,rfl,D,_,rfl,.inl ⟨SqL.of hD5,fun tp htp=>?_⟩⟩
    have mtp:H tp=none:=by
     have ntp:tp≠p:=fun z=>by obtain⟨o,ho⟩:=L5.here;rw[z,ho]at htp;cases htp
     cases hh:H tp with
     | none=>rfl
     | some o=>rw[B5 _ _ hh ntp]at htp;cases htp
    have s6:=Zd htp (.tup ys)
    have f6:(upd H5 tp (.tup ys)) tp=some (.tup ys):=Zb
    generalize upd H5 tp (.tup ys)=H6 at s6 f6 ⊢
    refine⟨(by show 2≤sizeLine;decide),fun ll hll=>?_⟩
    have nll:ll≠p:=fun z=>by obtain⟨o,ho⟩:=(L5.same s6).here;rw[z,ho]at hll;cases hll
    have s7:=Zd hll (.lst [.ref D,.ref tp])
    have f7:(upd H6 ll (.lst [.ref D,.ref tp])) ll=some (.lst [.ref D,.ref tp]):=Zb
    generalize upd H6 ll (.lst [.ref D,.ref tp])=H7 at s7 f7 ⊢
    have s67:=s6.trans s7
    refine⟨_,rfl,p,c5,2,rfl,L5.same s67,by omega,by decide,by decide,fun i H8 i0 i1 L8 B8=>?_⟩
    obtain⟨v,hv,hat⟩:=Zdf (xs:=[.ref D,.ref tp]) i0 i1
    have B58:But p H5 H8:=(But.same s67).trans B8
    have hds8:DHs (neo H H8) ys ds:=(hds.mono Zfk).mono (Zhv hop B58)
    obtain⟨d,hd,th⟩:∃d,DH (neo H H8) v d∧Th (lA (k+1)) (wA (k+1)) (k+1+2) d:=by
     simp only[List.mem_cons,List.not_mem_nil,or_false]at hv
     rcases hv with rfl|rfl
     ·exact⟨_,.lst (ZaP hHD (B58 _ _ hD5 nDp)) hds8,thl⟩
     ·exact⟨_,.tup (ZaP mtp (B8 _ _ (s7 _ _ f6) fun z=>by rw[z,hop]at mtp;cases mtp)) hds8,tht⟩
    exact⟨ll,_,_,v,rfl,rfl,SqL.of (B8 _ _ f7 nll),hat,q v d (c5+1) H8 hd th L8 (by omega) (by omega) (B5.trans B58)⟩
def ZhW:Sp:=fun vs H Q _=>∃ (p:Addr) (c:Int),vs=[.ref p]∧Z9 H p c∧c<2 ^ 40 ∧
 ∀ (z:V) (d:PyData) (c':Int) (H':Hp),DH (off p H') z d→Th 3 300 19 d→Z9 H' p c'→c≤c'→c'≤c+2→But p H H'→Q z H'
theorem Zjf(T:Zar K mg)(f_l_pick:Df P w K mg base 2 "_law_pick" ["_law_left_here", "_law_many_here"] ZcN):Df P w K mg base 3 "_law_deep" ["_law_left_here"] ZhW:=by
 refine T.t_l_deep.df ZcC (fun vs H Q E h=>?_) (fun cdv f A outer s H vs Q E hr h=>?_)
 ·obtain⟨p,c,rfl,_⟩:=h
  rfl
 obtain⟨p,c,rfl,hL,c40,q⟩:=h
 refine⟨_,#[Zh,#[Zw,1,ZcC.nd,(Or.inl rfl),#[ZI,(ixL K),#[ZG,#[Za,#[Ze],#[Za,#[Zv,#[Za,#[Ze],#[Za,#[Ze],#[Za,#[Ze],#[Zc]]]]],#[Za,(@ZjC _ _ _),#[Zc]]]]],#[Zs,f_l_pick,hr,#[Za,‹0›,#[Za,#[Ze],#[Zc]]],(by rfl)]]],#[Zh,#[Zao,PassesOwn.never,#[Zav,T.b.n_range,#[Za,#[Zs,f_l_pick,hr,#[Za,‹0›,#[Za,#[Ze],#[Zc]]],(by rfl)],#[Zc]]],#[Zx,2,ZcC.nd,(Or.inl rfl)],#[Zi,#[Zw,1,ZcC.nd,(Or.inl rfl),#[ZI,(ixL K),#[ZG,#[Za,#[ZG,#[Za,‹1›,#[Zc]]],#[Za,#[Zv,#[Za,‹1›,#[Zc]]],#[Zc]]]],#[Zq,Zdn,‹2›,#[Ze]]]]]],#[Zi,#[Zl,‹1›]]]],?_⟩
 have c0:=hL.ge
 refine⟨(by show 3≤sizeLine;decide),fun a1 ha1=>?_⟩
 have n1:a1≠p:=fun z=>by obtain⟨o,ho⟩:=hL.here;rw[z,ho]at ha1;cases ha1
 have s1:=Zd ha1 (.tup [.int 0,.int 1,.int 0])
 have f1:(upd H a1 (.tup [.int 0,.int 1,.int 0])) a1=some (.tup [.int 0,.int 1,.int 0]):=Zb
 generalize upd H a1 (.tup [.int 0,.int 1,.int 0])=G1 at s1 f1 ⊢
 refine⟨(by show 3≤sizeLine;decide),fun a2 ha2=>?_⟩
 have n2:a2≠p:=fun z=>by obtain⟨o,ho⟩:=(hL.same s1).here;rw[z,ho]at ha2;cases ha2
 have s2:=Zd ha2 (.lst [.int 0,.ref a1,.non])
 have f2:(upd G1 a2 (.lst [.int 0,.ref a1,.non])) a2=some (.lst [.int 0,.ref a1,.non]):=Zb
 generalize upd G1 a2 (.lst [.int 0,.ref a1,.non])=G2 at s2 f2 ⊢
 have s02:=s1.trans s2
 refine⟨_,rfl,p,c,3,rfl,hL.same s02,by omega,by decide,by decide,fun k H3 k0 k1 L3 B3=>?_⟩
 obtain⟨v,hv,hat⟩:=Zdf (xs:=[.int 0,.ref a1,.non]) k0 k1
 have i3:=Zff (l:=[0,1,0]) (by decide) (by decide)
 obtain⟨d0,hd0,th0⟩:∃d,DH (off p H3) v d∧Th 3 219 1 d:=by
  simp only[List.mem_cons,List.not_mem_nil,or_false]at hv
  rcases hv with rfl|rfl|rfl
  ·exact⟨_,.int 0,(ZcJ (by decide)).mono (by omega) (by omega) (by omega)⟩
  ·exact⟨.tuple (([0,1,0]:List Int).map PyData.int),.tup (ZbH (B3 _ _ (s2 _ _ f1) n1) n1) (.cons (.int 0) (.cons (.int 1) (.cons (.int 0) .nil))),i3.1⟩
  ·exact⟨.none,.non,by show 1≤_;omega,Ql _,ZjW 1⟩
 have B03:But p H H3:=(But.same s02).trans B3
 refine⟨a2,_,_,v,rfl,rfl,SqL.of (B3 _ _ f2 n2),hat,?_⟩
 refine⟨_,rfl,p,c+1,19,rfl,L3,by omega,by decide,by decide,fun r H4 r0 r1 L4 B4=>⟨_,rfl,by omega,by omega,?_⟩⟩
 refine Zam (fun i σ H5=>∃ (y:V) (d:PyData) (v:Option V),σ=[some (.ref p),some y,v]∧DH (off p H5) y d∧Th 3 (219+i) (1+i) d∧Z9 H5 p (c+1+1)∧But p H H5) ⟨v,d0,none,rfl,hd0.mono (Zbb B4),th0,L4,B03.trans B4⟩ ?_ ?_
 ·rintro i σ H5 hi ⟨y,d,v',rfl,hy,th,L5,B5⟩
  have nw:∀ {H':Hp} {a:Addr},Zn H5 H'→H' a=none→a≠p:=fun s h z=>by obtain⟨o,ho⟩:=(L5.same s).here;rw[z,ho]at h;cases h
  refine⟨_,rfl,(by show 1≤sizeLine;decide),fun b1 hb1=>?_⟩
  have m1:=nw (Zn.refl _) hb1
  have s6:=Zd hb1 (.lst [y])
  have f6:(upd H5 b1 (.lst [y])) b1=some (.lst [y]):=Zb
  generalize upd H5 b1 (.lst [y])=H6 at s6 f6 ⊢
  refine⟨_,rfl,(by show 1≤sizeLine;decide),fun b2 hb2=>?_⟩
  have m2:=nw s6 hb2
  have s7:=Zd hb2 (.tup [y])
  have f7:(upd H6 b2 (.tup [y])) b2=some (.tup [y]):=Zb
  generalize upd H6 b2 (.tup [y])=H7 at s7 f7 ⊢
  have s67:=s6.trans s7
  refine⟨(by show 2≤sizeLine;decide),fun b3 hb3=>?_⟩
  have s8:=Zd hb3 (.lst [.ref b1,.ref b2])
  have f8:(upd H7 b3 (.lst [.ref b1,.ref b2])) b3=some (.lst [.ref b1,.ref b2]):=Zb
  generalize upd H7 b3 (.lst [.ref b1,.ref b2])=H8 at s8 f8 ⊢
  have s68:=s67.trans s8
  obtain⟨x,hx,hatx⟩:=Zdf (xs:=[.ref b1,.ref b2]) (k:=(0+(i:Int)) % 2) (by omega) (by show (0+(i:Int)) % 2<2;omega)
  have hy8:=hy.mono (Zj7 s68)
  have gl:=th.gd
  have tl:=th.lf
  have tw:=th.wt
  obtain⟨d',hd',th'⟩:∃d',DH (off p H8) x d'∧Th 3 (219+(i+1)) (1+(i+1)) d':=by
   simp only[List.mem_cons,List.not_mem_nil,or_false]at hx
   rcases hx with rfl|rfl
   ·exact⟨.list [d],.lst (ZbH (s8 _ _ (s7 _ _ f6)) m1) (.cons hy8 .nil),by show lfD d+0≤_;omega,by show d.weight+1+0≤_;omega,(Zbc fun d' hd=>by rw[Qg.mp hd];exact gl).mono (by omega)⟩
   ·exact⟨.tuple [d],.tup (ZbH (s8 _ _ f7) m2) (.cons hy8 .nil),by show lfD d+0≤_;omega,by show d.weight+1+0≤_;omega,(ZcI fun d' hd=>by rw[Qg.mp hd];exact gl).mono (by omega)⟩
  exact⟨_,rfl,_,_,rfl,rfl,(show (0:Int)<2 by decide),b3,_,_,x,rfl,rfl,SqL.of f8,hatx,x,d',_,rfl,hd',th',L5.same s68,B5.trans (But.same s68)⟩
 ·rintro σ H5 ⟨y,d,v',rfl,hy,th,L5,B5⟩
  exact⟨_,rfl,q y d (c+1+1) H5 hy (th.mono (by omega) (by omega) (by omega)) L5 (by omega) (by omega) B5⟩
theorem Zil{d e:PyData}(g1:Gd 22 d)(w1:d.weight≤100000)(g2:Gd 22 e)(w2:e.weight≤100000):(PyData.list [d,e]).canLay0=true∧(PyData.list [d,e]).depth≤64∧(PyData.list [d,e]).shown.length≤sizeLine∧(PyData.list [d,e]).showable=true:=by
 have g:=Zbc (D:=22) (ds:=[d,e]) (Zmu g1 g2)
 refine⟨g.lay,QL g.dp (by decide),?_,g.shw⟩
 have s:=PyData.shown_le 22 (by decide) _ (PyData.leavesShort_of_canLay0 22 _ g.lay g.sh)
 have hw:(PyData.list [d,e]).weight=d.weight+1+(e.weight+1+0):=rfl
 rw[sizeLine_eq]
 omega
def Pq(G:Hp)(v:V):Prop:=∃ (q:Addr) (u w:V) (d e:PyData),v=.ref q∧G q=some (.tup [u,w])∧DH G u d∧Th 100 8000 20 d∧DH G w e∧Gd 22 e∧e.weight≤80000
theorem Zlf{ns:List Int}{wy:Nat}{pf:Nat→Nat→Int}(n12:ns.length≤12)(h:∀v∈ns,0≤v∧v≤1000000000)(hP:∀b e,b<e→e≤ns.length→∃t,Gr ns wy b e 1 (pf b e) [t]):∀e∈(Zm ns.length ns.length).map (tri pf),Sm3 e:=fun e he=>by
 obtain⟨⟨x,y⟩,hp,rfl⟩:=QC.mp he
 obtain⟨h1,h2⟩:=Za5.mp hp
 obtain⟨t,g⟩:=hP x y h1 h2
 have:=Zm7 n12 h h2 g
 refine⟨?_,?_,?_⟩
 ·show ((x:Int)).natAbs<_;omega
 ·show ((y:Int)).natAbs<_;omega
 ·show (pf x y).natAbs<_;omega
theorem ZjJ{G:Hp}{ts:ZaX}{rows:List (Int×Int×Int)}:AtT G ts→ts.map (·.2)=rows.map q3→DHs G (ZS ts) (rows.map fun e=>tD (q3 e)):=by
 induction ts generalizing rows with
 | nil =>
  intro _ h
  cases rows with
  | nil=>exact .nil
  | cons a r=>cases h
 | cons u ts ih =>
  intro ha h
  cases rows with
  | nil=>cases h
  | cons e rows =>
   rw[QD,QD]at h
   injection h with h1 h2
   have h3:=ha u (Qp ..)
   rw[h1]at h3
   have h3:G u.1=some (.tup [.int e.1,.int e.2.1,.int e.2.2]):=h3
   exact .cons (.tup h3 (.cons (.int _) (.cons (.int _) (.cons (.int _) .nil)))) (ih (fun v hv=>ha v (Qi _ hv)) h2)
theorem Zmd{f:Addr}{fd:FuncData}(F:Fun K "law" "law" Zb9 f fd)(T:Zar K mg):ZdQ P w K mg base CX0 50 f fd ["_law_script"] (ZhB K):=by
 have f_l_mix:Df P w K mg base 1 "_law_mix" ["_law_cell", "_law_k"] Zjt:=Zmw T
 have f_l_left:Df P w K mg base 1 "_law_left" ["_law_script", "_law_k"] (ZjN K):=Zks T
 have f_l_pick:Df P w K mg base 2 "_law_pick" ["_law_left_here", "_law_many_here"] ZcN:=Zlb T f_l_mix
 have f_l_sizes:Df P w K mg base 4 "_law_sizes" ["_law_left_here", "_law_most"] Zhs:=Zkd T f_l_pick (Zkl T f_l_pick)
 have f_l_ways:Df P w K mg base 3 "_law_ways" ["_law_left_here"] Zi5:=Zli T f_l_pick
 have f_l_rows_in:Df P w K mg base 1 "_law_rows_in" ["_law_tree"] Ze8:=Zk5 T
 have f_l_cost:Df P w K mg base 2 "_law_cost" ["_law_sizes_here", "_law_tree"] (ZgJ K):=ZkG T f_l_rows_in
 have f_l_shows:Df P w K mg base 3 "_law_shows" ["_law_sizes_here", "_law_ways_here", "_law_tree", "_law_thing"] (Zf9 K):=ZiJ T (Ziq T) f_l_rows_in (Zlx T) (Zlh T) (Zly T) f_l_cost
 have f_l_any:Df P w K mg base 6 "_law_any" ["_law_left_here", "_law_deep_here"] (ZlQ 4):=Zjm T f_l_pick 4
 have f_l_deep:Df P w K mg base 3 "_law_deep" ["_law_left_here"] ZhW:=Zjf T f_l_pick
 have f_least_groves':∀ns wy,Df P w K mg base 3 "least_groves" ["sizes", "ways"] (ZcT K ns wy):=fun ns wy=>ZiC T ns wy (ZkK T ns wy (ZjU T ns wy)) (Zjx T ns wy (ZjU T ns wy))
 have f_near_plan:Df P w K mg base 4 "near_plan" ["sizes", "ways"] (ZjT K):=ZkU T f_least_groves'
 have f_prices_for:Df P w K mg base 4 "prices_for" ["sizes", "ways"] (ZmX K):=Znf T f_least_groves'
 have f_shows_near:Df P w K mg base 46 "shows_near" ["sizes", "ways", "tree", "prices"] (ZfQ 30):=ZiB T 30 (Zi7 T 30 (ZlF T (Zh0 T) 30)) (ZkR T (Zg3 T (Zh0 T)) (Zlq T)) (Zh4 T (ZlR T (Zmx T) 13)) (ZkH T (ZlO T)) (Zlw T (ZlO T))
 refine F.ok Za1 (fun vs H Q E h=>?_) (fun cdv A outer s H vs Q E hr h=>?_)
 ·obtain⟨a,ns,rfl,_⟩:=h
  rfl
 obtain⟨a,ns,rfl,hS,h63,q⟩:=h
 refine⟨_,#[Zh,#[Zao,PassesOwn.never,#[Zav,T.b.n_range,#[Za,#[Zq,ZM,#[Ze],#[Zk,(Zez rfl),(by rfl),T.b.n_min,boot_min,#[Za,#[Ze],#[Za,#[Zk,(ZbC K),(by rfl),T.b.n_len,QB,#[Za,‹0›,#[Zc]]],#[Zc]]]]],#[Zc]]],#[Zx,1,Za1.nd,(Or.inl rfl)],#[Zh,#[Zw,2,Za1.nd,(Or.inl rfl),#[Zs,f_l_left,hr,#[Za,‹0›,#[Za,‹1›,#[Zc]]],(by rfl)]],#[Zh,(@ZmA _ _ 3 4 _ _ _ _ _ _ _ _ _ _ _ rfl Za1.nd rfl rfl (by decide) rfl rfl #[Za,#[Zs,f_l_sizes,hr,#[Za,‹2›,#[Za,#[Ze],#[Zc]]],(by rfl)],#[Za,#[Zs,f_l_ways,hr,#[Za,‹2›,#[Zc]],(by rfl)],#[Zc]]] rfl (by rfl)),#[Zh,#[Zcf,#[Zs,f_near_plan,hr,#[Za,‹3›,#[Za,‹4›,#[Zc]]],(by rfl)],#[gT,K,2,#[Zz,#[Zx,5,Za1.nd,(Or.inl rfl)],#[Zz,#[Zx,6,Za1.nd,(Or.inl rfl)],(@ZaH _)]]]],#[Zh,#[Zw,7,Za1.nd,(Or.inl rfl),#[Zs,f_prices_for,hr,#[Za,‹3›,#[Za,‹4›,#[Zc]]],(by rfl)]],#[Zi,#[Zao,PassesOwn.never,#[Zav,T.b.n_range,#[Za,#[Ze],#[Zc]]],#[Zx,8,Za1.nd,(Or.inl rfl)],#[Zh,#[Zw,9,Za1.nd,(Or.inl rfl),#[ZI,(ixL K),#[ZG,#[Za,#[Zs,f_l_any,hr,#[Za,‹2›,#[Za,#[Ze],#[Zc]]],(by rfl)],#[Za,#[Zs,f_l_deep,hr,#[Za,‹2›,#[Zc]],(by rfl)],#[Za,#[ZG,#[Za,#[Zs,f_l_any,hr,#[Za,‹2›,#[Za,#[Ze],#[Zc]]],(by rfl)],#[Zc]]],#[Za,#[Zv,#[Za,#[Zs,f_l_any,hr,#[Za,‹2›,#[Za,#[Ze],#[Zc]]],(by rfl)],#[Za,#[Ze],#[Zc]]]],#[Zc]]]]]],#[Zs,f_l_pick,hr,#[Za,‹2›,#[Za,#[Ze],#[Zc]]],(by rfl)]]],#[Zi,#[Zao,PassesOwn.never,(@iT _ K _ _ _ #[Zv,#[Za,#[Zv,#[Za,‹9›,#[Za,‹7›,#[Zc]]]],#[Za,#[Zv,#[Za,‹6›,#[Za,‹9›,#[Zc]]]],#[Za,#[Zv,#[Za,‹6›,#[Za,#[Zq,Zdq,#[ZG,#[Za,‹9›,#[Zc]]],#[Zbv,(slL K),‹7›,#[ZaQ,#[Ze]],(@ZcB _)]],#[Zc]]]],#[Za,#[Zv,#[Za,‹9›,#[Za,‹9›,#[Zc]]]],#[Zc]]]]]] (by rfl)),#[gT,K,2,#[Zz,#[Zx,10,Za1.nd,(Or.inl rfl)],#[Zz,#[Zx,11,Za1.nd,(Or.inl rfl)],(@ZaH _)]]],#[Zh,#[Zw,12,Za1.nd,(Or.inl rfl),#[Zac,(@ZnC _ K _ hr (by rfl)),T.b.n_str,boot_str,#[Za,#[ZG,#[Za,‹10›,#[Za,‹11›,#[Zc]]]],#[Zc]]]],#[Zh,#[Zw,13,Za1.nd,(Or.inl rfl),#[Zs,f_shows_near,hr,#[Za,‹3›,#[Za,‹4›,#[Za,‹10›,#[Za,‹11›,#[Zc]]]]],(by rfl)]],#[Zh,#[ZZ,(@PW.pt _ _ _ #[Zcd,#[ZaO,#[Zaf,#[Zk,(Zcs K),(by rfl),T.b.n_isinstance,boot_isinstance,#[Za,‹13›,#[Za,#[Za6,T.b.n_bool,boot_bool,(by rfl)],#[Zc]]]]]],#[ZbJ,#[ZA,ZfH,‹13›,#[Zs,f_l_shows,hr,#[Za,‹3›,#[Za,‹4›,#[Za,‹10›,#[Za,‹11›,#[Zc]]]]],(by rfl)],(ZF _)]]]),#[Zi,#[Zl,#[Zae]]],#[ZD]],#[Zi,#[ZZ,#[ZA,ZfH,#[Zac,(@ZnC _ K _ hr (by rfl)),T.b.n_str,boot_str,#[Za,#[ZG,#[Za,‹10›,#[Za,‹11›,#[Zc]]]],#[Zc]]],‹12›,(ZF _)],#[Zi,#[Zl,#[Zae]]],#[ZD]]]]]]]]]]]]]]]],#[Zi,#[Zl,#[Zae]]]],?_⟩
 have hlen:(((ns.map V.int).length:Nat):Int)=(ns.length:Int):=by rw[Qb]
 refine⟨_,rfl,a,_,rfl,.inl hS,_,_,rfl,_,_,rfl,rfl,_,rfl,?_,?_,?_⟩
 ·split<;>omega
 ·split<;>omega
 refine Zam (fun i σ H2=>∃v1 v2 v3 v4 v5 v6 v7 v8 v9 v10 v11 v12 v13:Option V,σ=[some (.ref a),v1,v2,v3,v4,v5,v6,v7,v8,v9,v10,v11,v12,v13]∧Zn H H2) ⟨_,_,_,_,_,_,_,_,_,_,_,_,_,rfl,Zn.refl H⟩ ?_ ?_
 ·rintro i σ H2 hi ⟨v1,v2,v3,v4,v5,v6,v7,v8,v9,v10,v11,v12,v13,rfl,s2⟩
  have hi9:(i:Int)<100:=by
   have:(i:Int)<(1+(if (((ns.map V.int).length:Nat):Int)<12 then (((ns.map V.int).length:Nat):Int) else 12)).toNat:=by omega
   split at this<;>omega
  refine⟨_,rfl,_,rfl,a,ns,_,rfl,s2.seq hS,h63,by omega,by omega,fun p H3 hp L3 s3=>?_⟩
  have nHp:H p=none:=s2.free hp
  have keep:∀ {H5 H6:Hp},Zn H H5→But p H5 H6→Zn H H6:=fun {H5 H6} s b x o e=>b x o (s x o e) (Zg e nHp)
  refine⟨_,rfl,p,0,6,rfl,by decide,by decide,L3,by decide,fun sz ms c5 H5 hs0 hs5 m1 m12 hms L5 a1 a2 B5=>?_⟩
  have nps:p≠sz:=by obtain⟨o,ho⟩:=L3.here;exact Zg ho hs0
  refine⟨_,rfl,p,c5,rfl,L5,by omega,fun wy H6 w2 w6 L6 B6=>⟨_,_,rfl,?_⟩⟩
  have hs6:=B6 sz _ hs5 nps.symm
  have s6:Zn H H6:=keep (keep (s2.trans s3) B5) B6
  obtain⟨wn,rfl⟩:∃wn:Nat,wy=wn:=⟨wy.toNat,by omega⟩
  have n100:ms.length≤1000:=by omega
  refine⟨_,rfl,_,rfl,sz,ms,wn,rfl,SqL.of hs6,m1,m12,hms,by omega,by omega,fun rn x pr t H7 hrn0 hrn hT hG s7=>?_⟩
  refine⟨rn,_,rfl,SqT.of hrn,rfl,_,_,rfl,_,_,rfl,rfl,?_⟩
  refine⟨_,rfl,_,rfl,sz,ms,wn,rfl,SqL.of (s7 _ _ hs6),m1,m12,hms,by omega,by omega,fun r ts pf H8 hr0 hr8 hat hE hP s8=>?_⟩
  have s68:=s7.trans s8
  have hs8:=s68 _ _ hs6
  have L8:=L6.same s68
  have nrp:r≠p:=fun z=>by obtain⟨o,ho⟩:=(L6.same s7).here;rw[z,ho]at hr0;cases hr0
  obtain⟨tlv,tpl,_,tok,tdp,tno⟩:=Zl5 m12 hG
  have hX8:=(hT.mono (ZX s8)).dhO L8
  have hsm:=Zlf m12 hms hP
  have l144:=ZdS m12
  have lts:=pr_len' hE
  have hrb:∀d∈(Zm ms.length ms.length).map (fun p=>tD (q3 (tri pf p))),Rb d:=fun d hd=>by
   obtain⟨u,hu,rfl⟩:=QC.mp hd
   exact Zmn (hsm _ (QC.mpr ⟨u,hu,rfl⟩))
  have hds8:DHs H8 (ZS ts) ((Zm ms.length ms.length).map fun p=>tD (q3 (tri pf p))):=by have:=ZjJ hat hE;rw[Q3]at this;exact this
  have ldr:((Zm ms.length ms.length).map fun p=>tD (q3 (tri pf p))).length=(Zm ms.length ms.length).length:=Qb ..
  have hz:=Zls hrb (by omega)
  obtain⟨gdt,lft⟩:=ZeT t tpl
  rw[tlv,ZaG]at lft
  obtain⟨tht,_⟩:=Zk2 n100 tok gdt lft (by omega)
  have thx:Th 100 8000 20 (toD t):=tht.mono (by omega) (by omega) (by omega)
  have s08:Zn H H8:=s6.trans s68
  clear hP hsm hT hG tlv tpl tok tdp tno gdt lft tht s7 s8 s68 B5 B6 hs5 hs6 L3 L5 L6 hrn hrn0 hr0
  refine⟨_,rfl,by omega,by omega,?_⟩
  refine Zam (fun j σ H9=>∃ (w8 w9 w10 w11 w12 w13:Option V) (c9:Int),σ=[some (.ref a),some (.int (0+(i:Int))),some (.ref p),some (.ref sz),some (.int wn),some (.int pr),some x,some (.ref r),w8,w9,w10,w11,w12,w13]∧Z9 H9 p c9∧c5+1≤c9∧c9≤c5+1+200*j∧But p H8 H9) ⟨_,_,_,_,_,_,_,rfl,L8,by omega,by omega,But.refl _ _⟩ ?_ ?_
  ·rintro j σ H9 hj ⟨w8,w9,w10,w11,w12,w13,c9,rfl,L9,g1,g2,B9⟩
   have nP:∀ {G:Hp} {c:Int} {a:Addr},Z9 G p c→G a=none→a≠p:=fun L h z=>by
    obtain⟨o,ho⟩:=L.here
    rw[z,ho]at h;cases h
   have k3:cA 3=66:=rfl
   have k2:cA 2=21:=rfl
   have k1:cA 1=6:=rfl
   refine⟨_,rfl,p,c9,3,rfl,by decide,by decide,L9,by omega,fun z1 d1 c10 H10 hz1 th1 L10 e1 e2 B10=>?_⟩
   have hz1:DH (off p H10) z1 d1:=by obtain⟨o,ho⟩:=L9.here;exact hz1.mono (Zft ho)
   refine⟨_,rfl,p,c10,rfl,L10,by omega,fun z2 d2 c11 H11 hz2 th2 L11 e3 e4 B11=>?_⟩
   refine⟨_,rfl,p,c11,2,rfl,by decide,by decide,L11,by omega,fun z3 d3 c12 H12 hz3 th3 L12 e5 e6 B12=>?_⟩
   have hz3:DH (off p H12) z3 d3:=by obtain⟨o,ho⟩:=L11.here;exact hz3.mono (Zft ho)
   refine⟨(by show 1≤sizeLine;decide),fun b3 hb3=>?_⟩
   have n3:=nP L12 hb3
   have t1:=Zd hb3 (.lst [z3])
   have f1:(upd H12 b3 (.lst [z3])) b3=some (.lst [z3]):=Zb
   generalize upd H12 b3 (.lst [z3])=G1 at t1 f1 ⊢
   refine⟨_,rfl,p,c12,1,rfl,by decide,by decide,L12.same t1,by omega,fun z4 d4 c13 H13 hz4 th4 L13 e7 e8 B13=>?_⟩
   have hz4:DH (off p H13) z4 d4:=by obtain⟨o,ho⟩:=(L12.same t1).here;exact hz4.mono (Zft ho)
   refine⟨(by show 2≤sizeLine;decide),fun b4 hb4=>?_⟩
   have n4:=nP L13 hb4
   have t2:=Zd hb4 (.tup [z4,.int 0])
   have f2:(upd H13 b4 (.tup [z4,.int 0])) b4=some (.tup [z4,.int 0]):=Zb
   generalize upd H13 b4 (.tup [z4,.int 0])=G2 at t2 f2 ⊢
   refine⟨(by show 4≤sizeLine;decide),fun so hso=>?_⟩
   have nso:=nP (L13.same t2) hso
   have t3:=Zd hso (.lst [z1,z2,.ref b3,.ref b4])
   have f3:(upd G2 so (.lst [z1,z2,.ref b3,.ref b4])) so=some (.lst [z1,z2,.ref b3,.ref b4]):=Zb
   generalize upd G2 so (.lst [z1,z2,.ref b3,.ref b4])=G3 at t3 f3 ⊢
   have t23:=t2.trans t3
   have B133:But p H13 G3:=But.same t23
   have B123:But p H12 G3:=((But.same t1).trans B13).trans B133
   have B113:=B12.trans B123
   have B103:=B11.trans B113
   have B93:=B10.trans B103
   have all:∀v∈([z1,z2,.ref b3,.ref b4]:List V),∃d,DH (off p G3) v d∧Th 100 8000 20 d:=fun v hv=>by
    have q1:lA 3=81∧wA 3=6249∧lA 2=27∧wA 2=2082∧lA 1=9∧wA 1=693:=by decide
    obtain⟨q1,q2,q3,q4,q5,q6⟩:=q1
    have l3:=th3.lf
    have x3:=th3.wt
    have l4:=th4.lf
    have x4:=th4.wt
    have hz0:=(ZcJ (i:=0) (by decide)).wt
    simp only[List.mem_cons,List.not_mem_nil,or_false]at hv
    rcases hv with rfl|rfl|rfl|rfl
    ·exact⟨_,hz1.mono (Zbb B103),th1.mono (by omega) (by omega) (by omega)⟩
    ·exact⟨_,hz2.mono (Zbb B113),th2.mono (by omega) (by omega) (by omega)⟩
    ·exact⟨.list [d3],.lst (ZbH (t23 _ _ (B13 _ _ f1 n3)) n3) (.cons (hz3.mono (Zbb B123)) .nil),by show lfD d3+0≤_;omega,by show d3.weight+1+0≤_;omega,(Zbc fun d' hd=>by rw[Qg.mp hd];exact th3.gd).mono (by omega)⟩
    ·exact⟨.tuple [d4,.int 0],.tup (ZbH (t3 _ _ f2) n4) (.cons (hz4.mono (Zbb B133)) (.cons (.int 0) .nil)),by show lfD d4+(1+0)≤_;omega,by show d4.weight+1+((PyData.int 0).weight+1+0)≤_;omega,(ZcI (D:=3) (Zmu th4.gd ((ZcJ (by decide)).gd.mono (by omega)))).mono (by omega)⟩
   have L14:Z9 G3 p c13:=L13.same t23
   clear hz1 hz2 hz3 hz4 th1 th2 th3 th4 B103 B113 B123 B133 B10 B11 B12 B13 L9 L10 L11 L12 L13 f1 f2 t1 t2 t3 t23 hb3 hb4 hso
   refine⟨_,rfl,p,c13,4,rfl,L14,by omega,by decide,by decide,fun k H14 k0 k1 L15 B15=>?_⟩
   obtain⟨v,hv,hatv⟩:=Zdf (xs:=[z1,z2,.ref b3,.ref b4]) k0 k1
   obtain⟨d,hd,th⟩:=all v hv
   refine⟨so,_,_,v,rfl,rfl,SqL.of (B15 _ _ f3 nso),hatv,?_⟩
   have hd:=hd.mono (Zbb B15)
   have B8:But p H8 H14:=(B9.trans B93).trans B15
   have hv14:=hd.on
   have hx14:=(hX8.mono (Zbb B8)).on
   have hr14:=B8 _ _ hr8 nrp
   have hs14:=B8 _ _ hs8 nps.symm
   have hds14:DHs H14 (ZS ts) ((Zm ms.length ms.length).map fun p=>tD (q3 (tri pf p))):=by have:=ZjJ (AtT.butP hat L8 B8) hE;rw[Q3]at this;exact this
   clear all hv hatv hd f3 nso B93 B9
   refine⟨_,rfl,_,rfl,(by show 2≤sizeLine;decide),fun q1 hq1=>?_⟩
   have r1:=Zd hq1 (.tup [v,.ref r])
   have e1':(upd H14 q1 (.tup [v,.ref r])) q1=some (.tup [v,.ref r]):=Zb
   generalize upd H14 q1 (.tup [v,.ref r])=g1 at r1 e1' ⊢
   refine⟨_,rfl,_,rfl,(by show 2≤sizeLine;decide),fun q2 hq2=>?_⟩
   have r2:=Zd hq2 (.tup [x,v])
   have e2':(upd g1 q2 (.tup [x,v])) q2=some (.tup [x,v]):=Zb
   generalize upd g1 q2 (.tup [x,v])=g2 at r2 e2' ⊢
   refine⟨_,rfl,_,rfl,(by show 1≤sizeLine;decide),fun l3 hl3=>?_⟩
   have r3:=Zd hl3 (.lst [v])
   have e3':(upd g2 l3 (.lst [v])) l3=some (.lst [v]):=Zb
   generalize upd g2 l3 (.lst [v])=g3 at r3 e3' ⊢
   have y3:=r1.trans (r2.trans r3)
   refine⟨_,rfl,_,rfl,r,_,rfl,SqL.of (y3 _ _ hr14),fun l4 hl4=>?_⟩
   rw[ZeC]
   have r4:=Zd hl4 (.lst (ZS ts).tail)
   have e4':(upd g3 l4 (.lst (ZS ts).tail)) l4=some (.lst (ZS ts).tail):=Zb
   generalize upd g3 l4 (.lst (ZS ts).tail)=g4 at r4 e4' ⊢
   refine⟨l3,l4,_,_,rfl,rfl,r4 _ _ e3',e4',(by rw[Qy,List.length_tail,ZT,sizeLine_eq];omega),fun l5 hl5=>?_⟩
   have r5:=Zd hl5 (.lst ([v]++(ZS ts).tail))
   have e5':(upd g4 l5 (.lst ([v]++(ZS ts).tail))) l5=some (.lst ([v]++(ZS ts).tail)):=Zb
   generalize upd g4 l5 (.lst ([v]++(ZS ts).tail))=g5 at r5 e5' ⊢
   refine⟨(by show 2≤sizeLine;decide),fun q3' hq3'=>?_⟩
   have r6:=Zd hq3' (.tup [x,.ref l5])
   have e6':(upd g5 q3' (.tup [x,.ref l5])) q3'=some (.tup [x,.ref l5]):=Zb
   generalize upd g5 q3' (.tup [x,.ref l5])=g6 at r6 e6' ⊢
   refine⟨_,rfl,_,rfl,(by show 2≤sizeLine;decide),fun q4 hq4=>?_⟩
   have r7:=Zd hq4 (.tup [v,v])
   have e7':(upd g6 q4 (.tup [v,v])) q4=some (.tup [v,v]):=Zb
   generalize upd g6 q4 (.tup [v,v])=g7 at r7 e7' ⊢
   refine⟨(by show 4≤sizeLine;decide),fun tt htt=>?_⟩
   have r8:=Zd htt (.tup [.ref q1,.ref q2,.ref q3',.ref q4])
   have e8':(upd g7 tt (.tup [.ref q1,.ref q2,.ref q3',.ref q4])) tt=some (.tup [.ref q1,.ref q2,.ref q3',.ref q4]):=Zb
   generalize upd g7 tt (.tup [.ref q1,.ref q2,.ref q3',.ref q4])=g8 at r8 e8' ⊢
   have y7:=r8
   have y6:=r7.trans y7
   have y5:=r6.trans y6
   have y2:=r3.trans (r4.trans (r5.trans y5))
   have y1:=r2.trans y2
   have y0:=r1.trans y1
   have hvG:=hv14.mono y0
   have hxG:=hx14.mono y0
   have hdG:=hds14.mono y0
   have hsG:=y0 _ _ hs14
   have tw:=th.wt
   have all:∀w∈([.ref q1,.ref q2,.ref q3',.ref q4]:List V),Pq g8 w:=fun w hw=>by
    have gr:Gd 22 (.list ((Zm ms.length ms.length).map fun p=>tD (q3 (tri pf p)))):=hz.gd.mono (by omega)
    have wr:=hz.wt
    simp only[List.mem_cons,List.not_mem_nil,or_false]at hw
    rcases hw with rfl|rfl|rfl|rfl
    ·exact⟨q1,v,.ref r,d,_,rfl,y1 _ _ e1',hvG,th,.lst (y0 _ _ hr14) hdG,gr,by omega⟩
    ·exact⟨q2,x,v,_,d,rfl,y2 _ _ e2',hxG,thx,hvG,th.gd.mono (by omega),by omega⟩
    ·refine⟨q3',x,.ref l5,_,.list ([d]++((Zm ms.length ms.length).map fun p=>tD (q3 (tri pf p))).tail),rfl,y6 _ _ e6',hxG,thx,.lst (y5 _ _ e5') ((DHs.cons hvG .nil).app (by rw[← List.drop_one,← List.drop_one];exact hdG.drop 1)),Zbc (D:=21) fun d' hd'=>?_,?_⟩
     ·rcases Qt.mp hd' with hd'|hd'
      ·rw[Qg.mp hd'];exact th.gd.mono (by omega)
      ·exact(hrb d' (List.mem_of_mem_tail hd')).gd.mono (by omega)
     ·show PyData.weightAll ([d]++((Zm ms.length ms.length).map fun p=>tD (q3 (tri pf p))).tail)≤_
      rw[ZgV]
      have h9:=ZmR ((Zm ms.length ms.length).map fun p=>tD (q3 (tri pf p))) 1
      rw[List.drop_one]at h9
      have h8:PyData.weightAll [d]=d.weight+1+0:=rfl
      have wr:PyData.weightAll ((Zm ms.length ms.length).map fun p=>tD (q3 (tri pf p)))≤60200:=wr
      omega
    ·exact⟨q4,v,v,d,d,rfl,y7 _ _ e7',hvG,th,hvG,th.gd.mono (by omega),by omega⟩
   have LG:Z9 g8 p (c13+1):=L15.same y0
   have BG:But p H8 g8:=B8.trans (But.same y0)
   clear y0 y1 y2 y3 y5 y6 y7 r1 r2 r3 r4 r5 r6 r7 r8 e1' e2' e3' e4' e5' e6' e7' hvG hxG hdG hv14 hx14 hr14 hs14 hds14 L15 B15 B8 hq1 hq2 hl3 hl4 hl5 hq3' hq4 htt
   refine⟨tt,rfl,⟨_,SqT.of e8'⟩,?_⟩
   refine Ze0 (K:=K) (a:=tt) (xs:=[.ref q1,.ref q2,.ref q3',.ref q4]) (fun n σ H15=>(∃w10 w11 w12 w13:Option V,σ=[some (.ref a),some (.int (0+(i:Int))),some (.ref p),some (.ref sz),some (.int wn),some (.int pr),some x,some (.ref r),some (.int (0+(j:Int))),some v,w10,w11,w12,w13])∧Zn g8 H15) ⟨⟨_,_,_,_,rfl⟩,Zn.refl _⟩ (fun _ _ _ _ h=>SqT.of (h.2 _ _ e8')) ?_ ?_
   ·rintro n w σ H15 hw ⟨⟨w10,w11,w12,w13,rfl⟩,s15⟩
    obtain⟨qa,u,wv,d,e,rfl,hq,hu,th,hwv,ge,we⟩:=all w (QA hw)
    refine⟨qa,_,rfl,SqT.of (s15 _ _ hq),rfl,_,_,rfl,_,_,rfl,rfl,?_⟩
    have hu15:=hu.mono s15
    have hw15:=hwv.mono s15
    have hs15:=s15 _ _ hsG
    have tw:=th.wt
    have tl:=th.lf
    have td:=th.gd.dp
    have nd:=ZlD d
    obtain⟨h1,h2,h3,h4⟩:=Zil (th.gd.mono (by omega)) (by omega) ge (by omega)
    refine⟨_,rfl,_,rfl,(by show 2≤sizeLine;decide),fun e1 he1=>?_⟩
    have se:=Zd he1 (.lst [u,wv])
    have fe:(upd H15 e1 (.lst [u,wv])) e1=some (.lst [u,wv]):=Zb
    generalize upd H15 e1 (.lst [u,wv])=H16 at se fe ⊢
    have hu16:=hu15.mono se
    have hw16:=hw15.mono se
    have hs16:=se _ _ hs15
    refine⟨_,.list [d,e],rfl,.lst (SqL.of fe) (.cons hu16.dv (.cons hw16.dv .nil)),h1,h2,h3,h4,?_⟩
    refine⟨_,rfl,_,rfl,_,rfl,_,rfl,sz,ms,wn,u,wv,d,e,rfl,hs16,m1,m12,hms,by omega,by omega,hu16,by omega,hw16,by omega,fun b1 H17 hb1 s17=>?_⟩
    have hs17:=s17 _ _ hs16
    refine⟨_,rfl,_, "bool",_,_,rfl,.bl _,Zla K,_,rfl,ZaB ⟨_,rfl,_,rfl,_,rfl,_,rfl,_,rfl,sz,ms,wn,u,wv,d,e,rfl,hs17,m1,m12,hms,by omega,by omega,hu16.mono s17,th.gd.lay,by omega,by omega,by omega,hw16.mono s17,by omega,fun b2 H18 hb2 s18=>?_⟩⟩
    have eb:b1=b2:=by
     cases b1<;>cases b2
     ·rfl
     ·have:=hb1.mpr (hb2.mp rfl);cases this
     ·have:=hb2.mpr (hb1.mp rfl);cases this
     ·rfl
    subst eb
    refine⟨rfl,_,rfl,Zgf rfl ?_⟩
    have s168:=s17.trans s18
    refine⟨_,rfl,_,rfl,(by show 2≤sizeLine;decide),fun e2 he2=>?_⟩
    have se2:=Zd he2 (.lst [u,wv])
    have fe2:(upd H18 e2 (.lst [u,wv])) e2=some (.lst [u,wv]):=Zb
    generalize upd H18 e2 (.lst [u,wv])=H19 at se2 fe2 ⊢
    have s169:=s168.trans se2
    refine⟨_,.list [d,e],rfl,.lst (SqL.of fe2) (.cons (hu16.mono s169).dv (.cons (hw16.mono s169).dv .nil)),h1,h2,h3,h4,?_⟩
    exact⟨_,rfl,rfl,_,rfl,Zng rfl ⟨⟨_,_,_,_,rfl⟩,s15.trans (se.trans s169)⟩⟩
   ·rintro σ H15 ⟨⟨w10,w11,w12,w13,rfl⟩,s15⟩
    exact⟨_,_,_,_,_,_,c13+1,rfl,LG.same s15,by omega,by omega,BG.trans (But.same s15)⟩
  ·rintro σ H9 ⟨w8,w9,w10,w11,w12,w13,c9,rfl,L9,g1,g2,B9⟩
   exact⟨_,_,_,_,_,_,_,_,_,_,_,_,_,rfl,keep s08 B9⟩
 ·rintro σ H2 ⟨v1,v2,v3,v4,v5,v6,v7,v8,v9,v10,v11,v12,v13,rfl,s2⟩
  exact q H2
end
theorem ZH{K:PySem.W.Frag}{h:Heap}{mg:Str→Option Value}{x:Str}{st:Stmt}{ps:List Str}{f:Addr}{od an:Option Addr}{sl:Array (Option Value)}{oc kV dc pm cd ct:Value}(X:K.In h)(G:h.Ns mainGlobals mg)
  (a:PySem.W.nsIn K mainGlobals x=some (some (.ref f))) (l:K.lookup f=some ⟨oc,od,.func (PySem.W.fnOf x x (Zp st) (Zo st) (Zf st) .none kV dc pm an cd ct),sl⟩) (c:PySem.W.codeIn K cd x=true) (k:PySem.W.keepIn K (.ref f)=true)
  (hb:∀ (kV doc pm:Value) (an:Option Addr) (cdv ct:Value) (us:List Value),us.length=ps.length→bindArgs (PySem.W.fnOf x x (Zp st) (Zo st) (Zf st) .none kV doc pm an cdv ct) ⟨us,[]⟩=pure (ps.zip us)):Top K mg x st ps :=
 ⟨_,_,ZgF (st:=st) l c k,PySem.W.mg_of X G a,(ZgF (st:=st) l c k).binds hb⟩
theorem Zki{n:Nat}{us:List Value}(h:us.length=n+1):∃a r,us=a::r∧r.length=n:=by
 obtain⟨a,r,rfl⟩:=List.exists_cons_of_length_eq_add_one h
 exact⟨a,r,rfl,Nat.succ.inj h⟩
theorem Ze3(us:List Value)(h:us.length=1):∃a0,us=[a0]:=List.length_eq_one_iff.mp h
theorem ZcQ(us:List Value)(h:us.length=2):∃a0 a1,us=[a0,a1]:=by
 obtain⟨a,r,rfl,g⟩:=Zki h
 obtain⟨b0,rfl⟩:=Ze3 r g
 exact⟨a,b0,rfl⟩
theorem Zi4(us:List Value)(h:us.length=3):∃a0 a1 a2,us=[a0,a1,a2]:=by
 obtain⟨a,r,rfl,g⟩:=Zki h
 obtain⟨b0,b1,rfl⟩:=ZcQ r g
 exact⟨a,b0,b1,rfl⟩
theorem Zie(us:List Value)(h:us.length=4):∃a0 a1 a2 a3,us=[a0,a1,a2,a3]:=by
 obtain⟨a,r,rfl,g⟩:=Zki h
 obtain⟨b0,b1,b2,rfl⟩:=Zi4 r g
 exact⟨a,b0,b1,b2,rfl⟩
theorem ZmJ(us:List Value)(h:us.length=5):∃a0 a1 a2 a3 a4,us=[a0,a1,a2,a3,a4]:=by
 obtain⟨a,r,rfl,g⟩:=Zki h
 obtain⟨b0,b1,b2,b3,rfl⟩:=Zie r g
 exact⟨a,b0,b1,b2,b3,rfl⟩
theorem all_mk{l:PySem.W.OpenLaw}{w:World}{K:PySem.W.Frag}{h:Heap}{mg:Str→Option Value}{fa:Addr}(X:K.In h)(G:h.Ns mainGlobals mg)(hfa:mg "law" = some (.ref fa))
  (a0:#[Xns,K,"is_number",f0]) (l0:#[Xlk,K,f0,oc0,od0,"is_number","is_number",ZaR,kV0,dc0,pm0,an0,cd0,ct0,sl0]) (c0:#[Xci,K,cd0,"is_number"]) (k0:#[Xki,K,f0])
  (a1:#[Xns,K,"is_triple",f1]) (l1:#[Xlk,K,f1,oc1,od1,"is_triple","is_triple",ZaV,kV1,dc1,pm1,an1,cd1,ct1,sl1]) (c1:#[Xci,K,cd1,"is_triple"]) (k1:#[Xki,K,f1])
  (a2:#[Xns,K,"finds_rows",f2]) (l2:#[Xlk,K,f2,oc2,od2,"finds_rows","finds_rows",ZaD,kV2,dc2,pm2,an2,cd2,ct2,sl2]) (c2:#[Xci,K,cd2,"finds_rows"]) (k2:#[Xki,K,f2])
  (a3:#[Xns,K,"cost_of",f3]) (l3:#[Xlk,K,f3,oc3,od3,"cost_of","cost_of",Zbp,kV3,dc3,pm3,an3,cd3,ct3,sl3]) (c3:#[Xci,K,cd3,"cost_of"]) (k3:#[Xki,K,f3])
  (a4:#[Xns,K,"size_and_cost",f4]) (l4:#[Xlk,K,f4,oc4,od4,"size_and_cost","size_and_cost",Zaa,kV4,dc4,pm4,an4,cd4,ct4,sl4]) (c4:#[Xci,K,cd4,"size_and_cost"]) (k4:#[Xki,K,f4])
  (a5:#[Xns,K,"shows_near",f5]) (l5:#[Xlk,K,f5,oc5,od5,"shows_near","shows_near",Zal,kV5,dc5,pm5,an5,cd5,ct5,sl5]) (c5:#[Xci,K,cd5,"shows_near"]) (k5:#[Xki,K,f5])
  (a6:#[Xns,K,"is_near",f6]) (l6:#[Xlk,K,f6,oc6,od6,"is_near","is_near",Zbt,kV6,dc6,pm6,an6,cd6,ct6,sl6]) (c6:#[Xci,K,cd6,"is_near"]) (k6:#[Xki,K,f6])
  (a7:#[Xns,K,"are_prices",f7]) (l7:#[Xlk,K,f7,oc7,od7,"are_prices","are_prices",Zan,kV7,dc7,pm7,an7,cd7,ct7,sl7]) (c7:#[Xci,K,cd7,"are_prices"]) (k7:#[Xki,K,f7])
  (a8:#[Xns,K,"stretches_of",f8]) (l8:#[Xlk,K,f8,oc8,od8,"stretches_of","stretches_of",Z2,kV8,dc8,pm8,an8,cd8,ct8,sl8]) (c8:#[Xci,K,cd8,"stretches_of"]) (k8:#[Xki,K,f8])
  (a9:#[Xns,K,"cut_prices",f9]) (l9:#[Xlk,K,f9,oc9,od9,"cut_prices","cut_prices",Zak,kV9,dc9,pm9,an9,cd9,ct9,sl9]) (c9:#[Xci,K,cd9,"cut_prices"]) (k9:#[Xki,K,f9])
  (a10:#[Xns,K,"part_sums",f10]) (l10:#[Xlk,K,f10,oc10,od10,"part_sums","part_sums",Zaz,kV10,dc10,pm10,an10,cd10,ct10,sl10]) (c10:#[Xci,K,cd10,"part_sums"]) (k10:#[Xki,K,f10])
  (a11:#[Xns,K,"most_price",f11]) (l11:#[Xlk,K,f11,oc11,od11,"most_price","most_price",ZaE,kV11,dc11,pm11,an11,cd11,ct11,sl11]) (c11:#[Xci,K,cd11,"most_price"]) (k11:#[Xki,K,f11])
  (a12:#[Xns,K,"near_plan",f12]) (l12:#[Xlk,K,f12,oc12,od12,"near_plan","near_plan",ZaS,kV12,dc12,pm12,an12,cd12,ct12,sl12]) (c12:#[Xci,K,cd12,"near_plan"]) (k12:#[Xki,K,f12])
  (a13:#[Xns,K,"prices_for",f13]) (l13:#[Xlk,K,f13,oc13,od13,"prices_for","prices_for",Zai,kV13,dc13,pm13,an13,cd13,ct13,sl13]) (c13:#[Xci,K,cd13,"prices_for"]) (k13:#[Xki,K,f13])
  (a14:#[Xns,K,"least_groves",f14]) (l14:#[Xlk,K,f14,oc14,od14,"least_groves","least_groves",Zah,kV14,dc14,pm14,an14,cd14,ct14,sl14]) (c14:#[Xci,K,cd14,"least_groves"]) (k14:#[Xki,K,f14])
  (a15:#[Xns,K,"least_tree",f15]) (l15:#[Xlk,K,f15,oc15,od15,"least_tree","least_tree",ZaF,kV15,dc15,pm15,an15,cd15,ct15,sl15]) (c15:#[Xci,K,cd15,"least_tree"]) (k15:#[Xki,K,f15])
  (a16:#[Xns,K,"least_grove",f16]) (l16:#[Xlk,K,f16,oc16,od16,"least_grove","least_grove",Zas,kV16,dc16,pm16,an16,cd16,ct16,sl16]) (c16:#[Xci,K,cd16,"least_grove"]) (k16:#[Xki,K,f16])
  (a17:#[Xns,K,"least_cut",f17]) (l17:#[Xlk,K,f17,oc17,od17,"least_cut","least_cut",Zax,kV17,dc17,pm17,an17,cd17,ct17,sl17]) (c17:#[Xci,K,cd17,"least_cut"]) (k17:#[Xki,K,f17])
  (a18:#[Xns,K,"_law_mix",f18]) (l18:#[Xlk,K,f18,oc18,od18,"_law_mix","_law_mix",Zck,kV18,dc18,pm18,an18,cd18,ct18,sl18]) (c18:#[Xci,K,cd18,"_law_mix"]) (k18:#[Xki,K,f18])
  (a19:#[Xns,K,"_law_left",f19]) (l19:#[Xlk,K,f19,oc19,od19,"_law_left","_law_left",ZbW,kV19,dc19,pm19,an19,cd19,ct19,sl19]) (c19:#[Xci,K,cd19,"_law_left"]) (k19:#[Xki,K,f19])
  (a20:#[Xns,K,"_law_pick",f20]) (l20:#[Xlk,K,f20,oc20,od20,"_law_pick","_law_pick",Zb0,kV20,dc20,pm20,an20,cd20,ct20,sl20]) (c20:#[Xci,K,cd20,"_law_pick"]) (k20:#[Xki,K,f20])
  (a21:#[Xns,K,"_law_many",f21]) (l21:#[Xlk,K,f21,oc21,od21,"_law_many","_law_many",ZbO,kV21,dc21,pm21,an21,cd21,ct21,sl21]) (c21:#[Xci,K,cd21,"_law_many"]) (k21:#[Xki,K,f21])
  (a22:#[Xns,K,"_law_sizes",f22]) (l22:#[Xlk,K,f22,oc22,od22,"_law_sizes","_law_sizes",Zbl,kV22,dc22,pm22,an22,cd22,ct22,sl22]) (c22:#[Xci,K,cd22,"_law_sizes"]) (k22:#[Xki,K,f22])
  (a23:#[Xns,K,"_law_ways",f23]) (l23:#[Xlk,K,f23,oc23,od23,"_law_ways","_law_ways",ZbZ,kV23,dc23,pm23,an23,cd23,ct23,sl23]) (c23:#[Xci,K,cd23,"_law_ways"]) (k23:#[Xki,K,f23])
  (a24:#[Xns,K,"_law_rows_in",f24]) (l24:#[Xlk,K,f24,oc24,od24,"_law_rows_in","_law_rows_in",ZaW,kV24,dc24,pm24,an24,cd24,ct24,sl24]) (c24:#[Xci,K,cd24,"_law_rows_in"]) (k24:#[Xki,K,f24])
  (a25:#[Xns,K,"_law_cost",f25]) (l25:#[Xlk,K,f25,oc25,od25,"_law_cost","_law_cost",Zbf,kV25,dc25,pm25,an25,cd25,ct25,sl25]) (c25:#[Xci,K,cd25,"_law_cost"]) (k25:#[Xki,K,f25])
  (a26:#[Xns,K,"_law_is_plan",f26]) (l26:#[Xlk,K,f26,oc26,od26,"_law_is_plan","_law_is_plan",ZaT,kV26,dc26,pm26,an26,cd26,ct26,sl26]) (c26:#[Xci,K,cd26,"_law_is_plan"]) (k26:#[Xki,K,f26])
  (a27:#[Xns,K,"_law_stretches",f27]) (l27:#[Xlk,K,f27,oc27,od27,"_law_stretches","_law_stretches",Zab,kV27,dc27,pm27,an27,cd27,ct27,sl27]) (c27:#[Xci,K,cd27,"_law_stretches"]) (k27:#[Xki,K,f27])
  (a28:#[Xns,K,"_law_cuts",f28]) (l28:#[Xlk,K,f28,oc28,od28,"_law_cuts","_law_cuts",Za0,kV28,dc28,pm28,an28,cd28,ct28,sl28]) (c28:#[Xci,K,cd28,"_law_cuts"]) (k28:#[Xki,K,f28])
  (a29:#[Xns,K,"_law_beside",f29]) (l29:#[Xlk,K,f29,oc29,od29,"_law_beside","_law_beside",ZaL,kV29,dc29,pm29,an29,cd29,ct29,sl29]) (c29:#[Xci,K,cd29,"_law_beside"]) (k29:#[Xki,K,f29])
  (a30:#[Xns,K,"_law_shows",f30]) (l30:#[Xlk,K,f30,oc30,od30,"_law_shows","_law_shows",Zat,kV30,dc30,pm30,an30,cd30,ct30,sl30]) (c30:#[Xci,K,cd30,"_law_shows"]) (k30:#[Xki,K,f30])
  (a31:#[Xns,K,"_law_any",f31]) (l31:#[Xlk,K,f31,oc31,od31,"_law_any","_law_any",ZbT,kV31,dc31,pm31,an31,cd31,ct31,sl31]) (c31:#[Xci,K,cd31,"_law_any"]) (k31:#[Xki,K,f31])
  (a32:#[Xns,K,"_law_deep",f32]) (l32:#[Xlk,K,f32,oc32,od32,"_law_deep","_law_deep",ZbP,kV32,dc32,pm32,an32,cd32,ct32,sl32]) (c32:#[Xci,K,cd32,"_law_deep"]) (k32:#[Xki,K,f32])
  (a33:#[Xns,K,"law",f33]) (l33:#[Xlk,K,f33,oc33,od33,"law","law",Zb9,kV33,dc33,pm33,an33,cd33,ct33,sl33]) (c33:#[Xci,K,cd33,"law"]) (k33:#[Xki,K,f33])
  (z0:PySem.W.nsIn K mainGlobals "abs" = some none) (z1:PySem.W.nsIn K mainGlobals "all" = some none) (z2:PySem.W.nsIn K mainGlobals "bool" = some none) (z3:PySem.W.nsIn K mainGlobals "dict" = some none) (z4:PySem.W.nsIn K mainGlobals "int" = some none) (z5:PySem.W.nsIn K mainGlobals "isinstance" = some none) (z6:PySem.W.nsIn K mainGlobals "len" = some none) (z7:PySem.W.nsIn K mainGlobals "list" = some none) (z8:PySem.W.nsIn K mainGlobals "max" = some none) (z9:PySem.W.nsIn K mainGlobals "min" = some none) (z10:PySem.W.nsIn K mainGlobals "range" = some none) (z11:PySem.W.nsIn K mainGlobals "sorted" = some none) (z12:PySem.W.nsIn K mainGlobals "str" = some none) (z13:PySem.W.nsIn K mainGlobals "sum" = some none) (z14:PySem.W.nsIn K mainGlobals "tuple" = some none) (z15:PySem.W.nsIn K mainGlobals "zip" = some none) :
  ∃fd:FuncData,(∀ (s:Shared) (v:Value),BindsTo s fd ⟨[v],[]⟩ [("_law_script",v)])∧∀base:Heap,K.In base→base.Ns mainGlobals mg→ZdQ l.prog w K mg base CX0 50 fa fd ["_law_script"] (ZhB K):=by
 have e:=hfa.symm.trans (PySem.W.mg_of X G a33)
 cases e
 have T:Zar K mg:=⟨⟨Qz X G z0,Qz X G z1,Qz X G z2,Qz X G z3,Qz X G z4,Qz X G z5,Qz X G z6,Qz X G z7,Qz X G z8,Qz X G z9,Qz X G z10,Qz X G z11,Qz X G z12,Qz X G z13,Qz X G z14,Qz X G z15⟩,ZH X G a0 l0 c0 k0 (fun _ _ _ _ _ _ us hl=>by obtain⟨_,rfl⟩:=Ze3 us hl;exact rfl),ZH X G a1 l1 c1 k1 (fun _ _ _ _ _ _ us hl=>by obtain⟨_,rfl⟩:=Ze3 us hl;exact rfl),ZH X G a2 l2 c2 k2 (fun _ _ _ _ _ _ us hl=>by obtain⟨_,_,_,_,rfl⟩:=Zie us hl;exact rfl),ZH X G a3 l3 c3 k3 (fun _ _ _ _ _ _ us hl=>by obtain⟨_,_,rfl⟩:=ZcQ us hl;exact rfl),ZH X G a4 l4 c4 k4 (fun _ _ _ _ _ _ us hl=>by obtain⟨_,_,rfl⟩:=ZcQ us hl;exact rfl),ZH X G a5 l5 c5 k5 (fun _ _ _ _ _ _ us hl=>by obtain⟨_,_,_,_,rfl⟩:=Zie us hl;exact rfl),ZH X G a6 l6 c6 k6 (fun _ _ _ _ _ _ us hl=>by obtain⟨_,_,_,rfl⟩:=Zi4 us hl;exact rfl),ZH X G a7 l7 c7 k7 (fun _ _ _ _ _ _ us hl=>by obtain⟨_,_,rfl⟩:=ZcQ us hl;exact rfl),ZH X G a8 l8 c8 k8 (fun _ _ _ _ _ _ us hl=>by obtain⟨_,rfl⟩:=Ze3 us hl;exact rfl),ZH X G a9 l9 c9 k9 (fun _ _ _ _ _ _ us hl=>by obtain⟨_,_,rfl⟩:=ZcQ us hl;exact rfl),ZH X G a10 l10 c10 k10 (fun _ _ _ _ _ _ us hl=>by obtain⟨_,_,_,_,rfl⟩:=Zie us hl;exact rfl),ZH X G a11 l11 c11 k11 (fun _ _ _ _ _ _ us hl=>by obtain⟨_,_,_,_,_,rfl⟩:=ZmJ us hl;exact rfl),ZH X G a12 l12 c12 k12 (fun _ _ _ _ _ _ us hl=>by obtain⟨_,_,rfl⟩:=ZcQ us hl;exact rfl),ZH X G a13 l13 c13 k13 (fun _ _ _ _ _ _ us hl=>by obtain⟨_,_,rfl⟩:=ZcQ us hl;exact rfl),ZH X G a14 l14 c14 k14 (fun _ _ _ _ _ _ us hl=>by obtain⟨_,_,rfl⟩:=ZcQ us hl;exact rfl),ZH X G a15 l15 c15 k15 (fun _ _ _ _ _ _ us hl=>by obtain⟨_,_,_,_,_,rfl⟩:=ZmJ us hl;exact rfl),ZH X G a16 l16 c16 k16 (fun _ _ _ _ _ _ us hl=>by obtain⟨_,_,_,_,_,rfl⟩:=ZmJ us hl;exact rfl),ZH X G a17 l17 c17 k17 (fun _ _ _ _ _ _ us hl=>by obtain⟨_,_,_,_,rfl⟩:=Zie us hl;exact rfl),ZH X G a18 l18 c18 k18 (fun _ _ _ _ _ _ us hl=>by obtain⟨_,_,rfl⟩:=ZcQ us hl;exact rfl),ZH X G a19 l19 c19 k19 (fun _ _ _ _ _ _ us hl=>by obtain⟨_,_,rfl⟩:=ZcQ us hl;exact rfl),ZH X G a20 l20 c20 k20 (fun _ _ _ _ _ _ us hl=>by obtain⟨_,_,rfl⟩:=ZcQ us hl;exact rfl),ZH X G a21 l21 c21 k21 (fun _ _ _ _ _ _ us hl=>by obtain⟨_,rfl⟩:=Ze3 us hl;exact rfl),ZH X G a22 l22 c22 k22 (fun _ _ _ _ _ _ us hl=>by obtain⟨_,_,rfl⟩:=ZcQ us hl;exact rfl),ZH X G a23 l23 c23 k23 (fun _ _ _ _ _ _ us hl=>by obtain⟨_,rfl⟩:=Ze3 us hl;exact rfl),ZH X G a24 l24 c24 k24 (fun _ _ _ _ _ _ us hl=>by obtain⟨_,rfl⟩:=Ze3 us hl;exact rfl),ZH X G a25 l25 c25 k25 (fun _ _ _ _ _ _ us hl=>by obtain⟨_,_,rfl⟩:=ZcQ us hl;exact rfl),ZH X G a26 l26 c26 k26 (fun _ _ _ _ _ _ us hl=>by obtain⟨_,_,_,rfl⟩:=Zi4 us hl;exact rfl),ZH X G a27 l27 c27 k27 (fun _ _ _ _ _ _ us hl=>by obtain⟨_,rfl⟩:=Ze3 us hl;exact rfl),ZH X G a28 l28 c28 k28 (fun _ _ _ _ _ _ us hl=>by obtain⟨_,_,_,rfl⟩:=Zi4 us hl;exact rfl),ZH X G a29 l29 c29 k29 (fun _ _ _ _ _ _ us hl=>by obtain⟨_,_,_,rfl⟩:=Zi4 us hl;exact rfl),ZH X G a30 l30 c30 k30 (fun _ _ _ _ _ _ us hl=>by obtain⟨_,_,_,_,rfl⟩:=Zie us hl;exact rfl),ZH X G a31 l31 c31 k31 (fun _ _ _ _ _ _ us hl=>by obtain⟨_,_,rfl⟩:=ZcQ us hl;exact rfl),ZH X G a32 l32 c32 k32 (fun _ _ _ _ _ _ us hl=>by obtain⟨_,rfl⟩:=Ze3 us hl;exact rfl)⟩
 exact⟨PySem.W.fnOf "law" "law" (Zp Zb9) (Zo Zb9) (Zf Zb9) .none kV33 dc33 pm33 an33 cd33 ct33,fun s v=>.of_eq rfl,fun base _ _=>Zmd (ZgF (st:=Zb9) l33 c33 k33) T⟩
theorem walk{l:PySem.W.OpenLaw}{q:Program}{loose:List Str}{XP:(Str→Option Value)→Heap→Prop}{YP:World→Heap→Prop}{d:DefRec}{K:Params→PySem.W.Frag}(hn:l.most=some 63)(hdf:d.params.defaults=[])
  (hY:∀ (w:World) (h:Heap),YP w h→(K w.params).In h)
  (F:∀ (w:World) (mg:Str→Option Value) (fa:Addr) (h:Heap),(K w.params).In h→h.Ns mainGlobals mg→mg d.name=some (.ref fa) →
   ∃fd:FuncData,(∀ (s:Shared) (u:Value),BindsTo s fd ⟨[u],[]⟩ [("_law_script",u)])∧∀base:Heap,(K w.params).In base→base.Ns mainGlobals mg→ZdQ l.prog w (K w.params) mg base CX0 50 fa fd ["_law_script"] (ZhB (K w.params))) :
  PySem.W.WalkO q loose XP YP l.row.toRowW d [] (fun f vs=>PySem.call f vs) :=
 L2.walk_of (n:=63) (k:=50) (x := "_law_script") (CX:=fun _=>CX0) (sp:=fun w=>ZhB (K w.params)) hn (by decide) hdf ⟨rfl,by decide,by decide,rfl⟩ hY F (fun _ _ a ns hl _ hS=>⟨a,ns,rfl,hS,hl,fun _=>rfl⟩) fun _ _ _ _ _ z=>z
end My
open PySem PySem.W PyProof.Rows
namespace PySem.W.Fast
def tw11212729450830121493:=0
def tw5207414880905298555:=0
def tw5549713894584006240:=0
def tw1342567837322638921:=0
def tw3313181136168920158:=0
def tw8658833926581365079:=0
def tw14310966202115834554:=0
def tw16702635294645993672:=0
def tw17104826312316539359:=0
def tw16689735653404042911:=0
def tw11675230700209042288:=0
def tw12403490440148210701:=0
def tw7011493346901102129:=0
def tw521069560693383339:=0
def tw3769973650675044741:=0
def tw2588957021026395817:=0
def tw9744233810575587703:=0
def tw6425382259798339099:=0
def tw16898671937152684746:=0
def tw10744531358736259952:=0
def tw284618031575422805:=0
def tw13110915599254251457:=0
def tw17735545598790898279:=0
def tw2454117282502581199:=0
def tw16051507941217473432:=0
def tw17064382804966963745:=0
def tw7938231600141573143:=0
def tw12461534975999702854:=0
def tw10108434360546256156:=0
def tw10889132945723816442:=0
def tw11582279185054330320:=0
def tw13645717652143092884:=0
def tw11333762940837013002:=0
def tw10232625052856379843:=0
def tw16511031755629821099:=0
def tw15238215031756740270:=0
def tw8785082370170229633:=0
def tw12342580694703681915:=0
def tw17018962606473790541:=0
def tw7481034181121523920:=0
def tw9925178784190014718:=0
def tw6391871436223707178:=0
def tw8666896373147480279:=0
def tw14689756430603896557:=0
def tw9433644142811119402:=0
def tw8341377716076527278:=0
def tw1978879353892719106:=0
def tw14504679337748124611:=0
def tw10954707309431350801:=0
def tw2756462418134341912:=0
def tw7017033093589238722:=0
def tw10186149475302288104:=0
def tw6304418449406461602:=0
def tw3381849139636961465:=0
def tw13918718547707699151:=0
def tw3477762380128078799:=0
def tw7385760197818959522:=0
def tw17049077567486275596:=0
def tw10144824357343415883:=0
def tw17883649156500882381:=0
def tw4775803830076075270:=0
def tw513250071803099524:=0
def tw15900039452238965693:=0
def tw8108362503999877323:=0
def tw502910153644559300:=0
def tw5893607079231368561:=0
def tw9458411523769530990:=0
def tw13955426322939309070:=0
def tw15397640673745259454:=0
def tw10328786702810798852:=0
def tw18023145146558918369:=0
def tw12529262113536477245:=0
def tw12010609994531770792:=0
def tw10355112292559499529:=0
def tw1341633867956422324:=0
def tw16694968178890584130:=0
def tw14304167329806938592:=0
def tw15735580536765994783:=0
def tw12545980193262783153:=0
def tw1521985937880769624:=0
def tw12078551102653487879:=0
def tw5107801393603767214:=0
def tw2805844330268819080:=0
def tw9013332287644635696:=0
def tw7694827000149217296:=0
def tw16112754015213594859:=0
def tw11082897777359324869:=0
def tw12486739478819622678:=0
def tw12074471657020088649:=0
def tw14476109925737366675:=0
def tw12749584389252362971:=0
def tw16008503361308727295:=0
def tw8543831468552185223:=0
def tw1269482066306937451:=0
def tw9219669798205453816:=0
def tw4752572739306795604:=0
def tw15206586850503182489:=0
def tw6417934528299886520:=0
def tw9650800279677458153:=0
def tw749064055705981807:=0
def tw4927250418238183428:=0
def tw13376842358441615188:=0
def tw8705496416201527852:=0
def tw12654020058364220143:=0
def tw16372727067651042058:=0
def tw12200745557431077893:=0
def tw4506475766266412730:=0
def tw8211654528275170767:=0
def tw14452697155440801054:=0
def tw16664783733184934025:=0
def tw3359457282759764921:=0
def tw13808353435188547817:=0
def tw3191495416134773726:=0
def tw7182697162550549819:=0
def tw4117654610162599305:=0
def tw2582007796202563789:=0
def tw11307924635529954950:=0
def tw5226942982118539979:=0
def tw7495920563218244371:=0
def tw14497696542528571185:=0
def tw12003304975544709033:=0
def tw11168132205970505140:=0
def tw11517225289053337976:=0
def tw13887046946999565145:=0
def tw17365363016676312779:=0
def tw2197748761663096777:=0
def tw13056139906439171978:=0
def tw13012328429314606857:=0
def tw11474670695174673336:=0
def tw1353300341334433329:=0
def tw12057397037977911402:=0
def tw4573192314196388208:=0
def tw14625156632657027740:=0
def tw17937713703547504891:=0
def tw13443085400825747490:=0
def tw2291663367260991486:=0
def tw12622064671688984735:=0
def tw1436078697946196468:=0
def tw11773956545069424243:=0
def tw12371783957095863602:=0
def tw1467224372107541907:=0
def tw12689638697937101246:=0
def tw12040294050840258417:=0
def tw15463267025275536168:=0
def tw434232893992055550:=0
def tw15791376086155269827:=0
def tw1638149936352803122:=0
def tw6231907348856914964:=0
def tw2088476423998865820:=0
def tw6882477921630281834:=0
def tw1187668035505541012:=0
def tw1945686127750903304:=0
def tw16112209515196780275:=0
def tw14173653398475572133:=0
def tw5379101829669276394:=0
def tw6218934645500124743:=0
def tw15548871662914899396:=0
def tw2444727179953031229:=0
def tw4854173234842750193:=0
def tw1263728068072066215:=0
def tw2769738373600535296:=0
def tw13645651819398403442:=0
def tw12288330110072161575:=0
def tw1385803929305418789:=0
def tw12917344791504912342:=0
def tw1978469565555382357:=0
def tw729194902911869834:=0
def tw5364322539594816137:=0
def tw8597461503195705924:=0
def tw8660916718570675244:=0
def tw14238730350640579603:=0
def tw6120105682958233098:=0
def tw11505428123720770902:=0
def tw17390543971817576151:=0
def tw7832161001368722980:=0
def tw9473601656241374431:=0
def tw17088776876011863844:=0
def tw10607594557059114663:=0
def tw8631228566453491852:=0
def tw11258302508432423177:=0
def tw15562624020677045685:=0
def tw13197675457608678957:=0
def tw13240285922532781275:=0
def tw5936638050912029215:=0
def tw6718930587590955156:=0
def tw6466472138651232354:=0
def tw9457839295930860440:=0
def tw4756658225914297013:=0
def tw2778856904181545328:=0
def tw6137373294842423559:=0
def tw1139203734785518230:=0
def tw14096487529438565874:=0
def tw560343155332002867:=0
def tw806838872830721348:=0
def tw6853702905499794346:=0
def tw18051622135681197889:=0
end PySem.W.Fast
set_option maxRecDepth 100000 in
set_option maxHeartbeats 0 in
theorem PySem.Challenge.cw_mergetree_k44_no_near_ones_holds : PySem.Challenge.rw_mergetree_k44_no_near_ones.Holds := by
 w_on;o_law;k_head;(case hw=>w_witness2)
 k_fill
 refine My.walk (l:=PySem.Challenge.rw_mergetree_k44_no_near_ones) rfl rfl (fun w h Y=>PySem.W.kIn_of Y) ?F
 case F =>
  intro w mg fa h KX G hmg
  refine' My.all_mk KX G hmg ?a0 ?l0 ?c0 ?k0 ?a1 ?l1 ?c1 ?k1 ?a2 ?l2 ?c2 ?k2 ?a3 ?l3 ?c3 ?k3 ?a4 ?l4 ?c4 ?k4 ?a5 ?l5 ?c5 ?k5 ?a6 ?l6 ?c6 ?k6 ?a7 ?l7 ?c7 ?k7 ?a8 ?l8 ?c8 ?k8 ?a9 ?l9 ?c9 ?k9 ?a10 ?l10 ?c10 ?k10 ?a11 ?l11 ?c11 ?k11 ?a12 ?l12 ?c12 ?k12 ?a13 ?l13 ?c13 ?k13 ?a14 ?l14 ?c14 ?k14 ?a15 ?l15 ?c15 ?k15 ?a16 ?l16 ?c16 ?k16 ?a17 ?l17 ?c17 ?k17 ?a18 ?l18 ?c18 ?k18 ?a19 ?l19 ?c19 ?k19 ?a20 ?l20 ?c20 ?k20 ?a21 ?l21 ?c21 ?k21 ?a22 ?l22 ?c22 ?k22 ?a23 ?l23 ?c23 ?k23 ?a24 ?l24 ?c24 ?k24 ?a25 ?l25 ?c25 ?k25 ?a26 ?l26 ?c26 ?k26 ?a27 ?l27 ?c27 ?k27 ?a28 ?l28 ?c28 ?k28 ?a29 ?l29 ?c29 ?k29 ?a30 ?l30 ?c30 ?k30 ?a31 ?l31 ?c31 ?k31 ?a32 ?l32 ?c32 ?k32 ?a33 ?l33 ?c33 ?k33 ?z0 ?z1 ?z2 ?z3 ?z4 ?z5 ?z6 ?z7 ?z8 ?z9 ?z10 ?z11 ?z12 ?z13 ?z14 ?z15
  (case a0|l0|c0|k0=>k_is)
  (case a1|l1|c1|k1=>k_is)
  (case a2|l2|c2|k2=>k_is)
  (case a3|l3|c3|k3=>k_is)
  (case a4|l4|c4|k4=>k_is)
  (case a5|l5|c5|k5=>k_is)
  (case a6|l6|c6|k6=>k_is)
  (case a7|l7|c7|k7=>k_is)
  (case a8|l8|c8|k8=>k_is)
  (case a9|l9|c9|k9=>k_is)
  (case a10|l10|c10|k10=>k_is)
  (case a11|l11|c11|k11=>k_is)
  (case a12|l12|c12|k12=>k_is)
  (case a13|l13|c13|k13=>k_is)
  (case a14|l14|c14|k14=>k_is)
  (case a15|l15|c15|k15=>k_is)
  (case a16|l16|c16|k16=>k_is)
  (case a17|l17|c17|k17=>k_is)
  (case a18|l18|c18|k18=>k_is)
  (case a19|l19|c19|k19=>k_is)
  (case a20|l20|c20|k20=>k_is)
  (case a21|l21|c21|k21=>k_is)
  (case a22|l22|c22|k22=>k_is)
  (case a23|l23|c23|k23=>k_is)
  (case a24|l24|c24|k24=>k_is)
  (case a25|l25|c25|k25=>k_is)
  (case a26|l26|c26|k26=>k_is)
  (case a27|l27|c27|k27=>k_is)
  (case a28|l28|c28|k28=>k_is)
  (case a29|l29|c29|k29=>k_is)
  (case a30|l30|c30|k30=>k_is)
  (case a31|l31|c31|k31=>k_is)
  (case a32|l32|c32|k32=>k_is)
  (case a33|l33|c33|k33=>k_is)
  (case z0=>k_is)
  (case z1=>k_is)
  (case z2=>k_is)
  (case z3=>k_is)
  (case z4=>k_is)
  (case z5=>k_is)
  (case z6=>k_is)
  (case z7=>k_is)
  (case z8=>k_is)
  (case z9=>k_is)
  (case z10=>k_is)
  (case z11=>k_is)
  (case z12=>k_is)
  (case z13=>k_is)
  (case z14=>k_is)
  (case z15=>k_is)
