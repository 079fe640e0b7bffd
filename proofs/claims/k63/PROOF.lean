import PyProof.Rows.All
import Wide.All
import OpenK.AllK
import Wide.FinOn
import Lean
import PyProof.EqAt
import PyProof.EqKinds
import PyProof.TupleCall
import PyProof.AttrMissHeap
import KE.KEqDict
import KE.KItemsList
import PyProof.WalksMore
import PyProof.TupleOfStr
import PySem.Challenge.RW_mergetree_k63_whole_bounds_never_passed
set_option maxHeartbeats 4000000
set_option maxRecDepth 100000
set_option Elab.async false
set_option linter.all false
local macro_rules|`(tactic|ac_rfl)=>`(tactic|decide +kernel)
abbrev Qa:=@List.length_map
abbrev Qb:=@List.getElem?_eq_getElem
abbrev Qc:=@PySem.Heap.get?_push_of_some
abbrev Qd:=@List.length_append
abbrev Qe:=@List.getElem?_eq_some_iff
abbrev Qf:=@List.mem_append_right
abbrev Qg:=@Nat.le_refl
abbrev Qh:=@List.map_append
abbrev Qi:=@List.map_cons
abbrev Qj:=@Option.some.inj
abbrev Qk:=@List.mem_singleton
abbrev Ql:=@List.mem_cons_of_mem
abbrev Qm:=@List.mem_append
abbrev Qn:=@List.mem_map_of_mem
abbrev Qo:=@PySem.Heap.lt_size
abbrev Qp:=@Nat.zero_le
abbrev Qq:=@List.length_take
abbrev Qr:=@Bool.false_ne_true
abbrev Qs:=@List.getElem?_map
abbrev Qt:=@PySem.boot_len
abbrev Qu:=@List.take_of_length_le
abbrev Qv:=@List.mem_append_left
abbrev Qw:=@List.mem_of_getElem?
abbrev Qx:=@List.size_toArray
abbrev Qy:=@List.map_map
abbrev Qz:=@PySem.Heap.get?_push_size
abbrev QA:=@Nat.lt_of_lt_of_le
abbrev QB:=@Nat.ne_of_lt
abbrev QC:=@List.length_cons
abbrev QD:=@List.length_singleton
abbrev QE:=@Array.length_toList
abbrev QF:=@List.getD_eq_getElem?_getD
abbrev QG:=@PySem.W.mg_none_of
abbrev QH:=@List.mem_cons
abbrev QI:=@List.length_drop
abbrev QJ:=@List.mem_map
abbrev QK:=@List.mem_cons_self
abbrev QL:=@List.eq_nil_of_length_eq_zero
abbrev QM:=@List.take_add_one
abbrev QN:=@List.sum_cons
abbrev QO:=@Array.toList_append
abbrev QP:=@Nat.le_trans
abbrev QR:=@List.getElem?_append_right
abbrev QS:=@List.append_assoc
abbrev QT:=@Array.getElem?_toList
abbrev QU:=@List.map_congr_left
abbrev QV:=@List.getElem_mem
abbrev QW:=@PySem.F.plainAttrs_list
abbrev QX:=@Array.getElem_toList
abbrev QY:=@List.take_append_drop
abbrev QZ:=@List.mem_of_mem_drop
abbrev Q0:=@List.mem_of_mem_take
abbrev Q1:=@PySem.W.kia_one
abbrev Q3:=@PySem.W.kia_tup
abbrev Q4:=@Nat.ne_of_gt
abbrev Q5:=@List.getElem?_append_left
abbrev Q6:=@PySem.F.slot_list_append
abbrev Q7:=@PySem.F.type_list_append
abbrev Q8:=@List.nodup_cons
abbrev Q9:=@PyProof.Rows.callWith_type1
abbrev Qaa:=@PySem.Heap.size_push
abbrev Qab:=@List.getElem?_eq_none
abbrev Qac:=@Nat.lt_irrefl
abbrev Qad:=@List.mem_iff_getElem
abbrev Qae:=@List.flatMap_cons
abbrev Qaf:=@Int.natCast_add
abbrev Qag:=@PySem.mem_of_lookup
abbrev Qah:=@Nat.add_lt_add_left
abbrev Qai:=@Int.add_zero
abbrev Qaj:=@Nat.le_succ
abbrev Qak:=@List.zip_cons_cons
abbrev Qal:=@List.getElem?_toArray
abbrev Qam:=@List.getLastD_eq_getLast?
abbrev Qan:=@List.find?_cons
abbrev Qao:=@Array.toList_push
abbrev Qap:=@List.flatten_cons
abbrev Qaq:=@Nat.lt_add_of_pos_right
abbrev Qar:=@List.find?_cons_of_neg
abbrev Qas:=@Nat.add_sub_cancel
abbrev Qat:=@List.length_eq_one_iff
abbrev Qau:=@List.length_pos_of_mem
abbrev Qav:=@List.append_nil
abbrev Qaw:=@List.sum_append
abbrev Qax:=@List.dropLast_concat_getLast
abbrev Qay:=@List.length_replicate
abbrev Qaz:=@List.take_sublist
abbrev QaA:=@List.reverse_cons
abbrev QaB:=@List.getElem_drop
abbrev QaC:=@List.getElem_take
abbrev QaD:=@List.drop_sublist
abbrev QaE:=@List.length_range
abbrev QaF:=@List.pairwise_append
abbrev QaG:=@Array.toList_reverse
abbrev QaH:=@Int.le_refl
abbrev QaI:=@Bool.and_eq_true
abbrev QaJ:=@List.lookup_cons
abbrev QaK:=@Nat.le_add_right
abbrev QaL:=@List.mem_flatMap
abbrev QaM:=@Option.bind_some
abbrev QaN:=@List.pairwise_iff_getElem
abbrev QaO:=@List.filterMap_cons
abbrev QaP:=@List.reverse_append
abbrev QaQ:=@List.flatten_append
abbrev QaR:=@List.any_cons
abbrev QaS:=@Array.getElem_mem_toList
abbrev QaT:=@List.getLast?_eq_getLast
abbrev QaU:=@Bool.eq_iff_iff
abbrev QaV:=@Nat.min_eq_left
abbrev QaW:=@Int.emod_lt_of_pos
abbrev QaX:=@PySem.W.kitx_list
abbrev QaY:=@PySem.W.kitx_dict
abbrev QaZ:=@Option.map_eq_some_iff
abbrev Qa0:=@List.Perm.append_right
abbrev Qa3:=@Nat.lt_succ_self
abbrev Qa4:=@List.all_eq_true
namespace L2
open PySem PySem.Spec PyProof.Rows
abbrev Key:=Sum Int Str
def Zfz:Key→Value→Bool
 | .inl k,v=>Value.isInt k v
 | .inr x,v=>Value.isStrOf x v
def ZpZ(w:World):Key→Int
 | .inl k=>hashInt k
 | .inr x=>hashStr w x
theorem Zah:∀ {k:Key} {v:Value},Zfz k v=true→(∃i t,k=Sum.inl i∧v=Value.int i t)∨(∃x t,k=Sum.inr x∧v=Value.str x t)
 | .inl i,v,h=>by
  obtain⟨t,e⟩:=Value.isInt_shape (k:=i) (v:=v) h
  exact .inl ⟨i,t,rfl,e⟩
 | .inr x,v,h=>by
  obtain⟨t,e⟩:=Value.isStrOf_shape (x:=x) (v:=v) h
  exact .inr ⟨x,t,rfl,e⟩
theorem Zj9(i:Int)(t:Tok):Zfz (.inl i) (.int i t)=true:=by simp[Zfz,Value.isInt]
theorem Zky(x:Str)(t:Tok):Zfz (.inr x) (.str x t)=true:=by simp[Zfz,Value.isStrOf]
theorem Zn6(a b:Int):decide ((Sum.inl a:Key)=Sum.inl b)=(a == b):=by
 by_cases e:a=b
 ·subst e;simp
 ·have h:¬ (Sum.inl a:Key)=Sum.inl b:=fun q=>e (Sum.inl.inj q)
  rw[decide_eq_false h]
  exact(beq_eq_false_iff_ne.mpr e).symm
theorem ZoQ(a b:Str):decide ((Sum.inr a:Key)=Sum.inr b)=decide (a=b):=by
 by_cases e:a=b
 ·subst e;simp
 ·have h:¬ (Sum.inr a:Key)=Sum.inr b:=fun q=>e (Sum.inr.inj q)
  rw[decide_eq_false h,decide_eq_false e]
theorem Zoj(a:Int)(b:Str):decide ((Sum.inl a:Key)=Sum.inr b)=false:=decide_eq_false (fun q=>nomatch q)
theorem Zoq(a:Str)(b:Int):decide ((Sum.inr a:Key)=Sum.inl b)=false:=decide_eq_false (fun q=>nomatch q)
def Z5(prog:Program)(w:World):PySem.KeyKind prog w Key where
 is:=Zfz
 hash:=ZpZ w
 inj:=fun v a b ha hb=>by
  rcases Zah ha with⟨i,t,rfl,rfl⟩|⟨x,t,rfl,rfl⟩
  ·rcases Zah hb with⟨j,u,rfl,e⟩|⟨y,u,rfl,e⟩
   ·injection e with e1 _;rw[e1]
   ·exact nomatch e
  ·rcases Zah hb with⟨j,u,rfl,e⟩|⟨y,u,rfl,e⟩
   ·exact nomatch e
   ·injection e with e1 _;rw[e1]
 byValue:=fun k v h=>by
  rcases Zah h with⟨i,t,rfl,rfl⟩|⟨x,t,rfl,rfl⟩<;>rfl
 pyHash:=fun hv h=>by
  rcases Zah hv with⟨i,t,rfl,rfl⟩|⟨x,t,rfl,rfl⟩
  ·exact wpAny_pyHash_int h
  ·exact wpAny_pyHash_str h
 eqBool:=fun hu hv h=>by
  rcases Zah hu with⟨i,t,rfl,rfl⟩|⟨x,t,rfl,rfl⟩
  ·rcases Zah hv with⟨j,u,rfl,rfl⟩|⟨y,u,rfl,rfl⟩
   ·rw[Zn6]at h;exact wpAny_eqBool_int h
   ·rw[Zoj]at h;exact SeqAt.EqAt.int_str i t y u _ _ _ _ h
  ·rcases Zah hv with⟨j,u,rfl,rfl⟩|⟨y,u,rfl,rfl⟩
   ·rw[Zoq]at h;exact SeqAt.EqAt.str_int x t j u _ _ _ _ h
   ·rw[ZoQ]at h;exact wpAny_eqBool_str h
 «strs»:=fun k x t v h=>by
  rcases Zah h with⟨i,u,rfl,e⟩|⟨y,u,rfl,e⟩
  ·exact nomatch e
  ·injection e with e1 _
   subst e1
   cases v<;>rfl
theorem Zir(prog:Program)(w:World)(k:Key)(v:Value):(Z5 prog w).is k v=Zfz k v:=rfl
theorem Zia(prog:Program)(w:World)(i:Int)(t:Tok):(Z5 prog w).is (.inl i) (.int i t)=true:=Zj9 i t
theorem Zhr(prog:Program)(w:World)(x:Str)(t:Tok):(Z5 prog w).is (.inr x) (.str x t)=true:=Zky x t
inductive V where
 | non|bl (b:Bool)|int (i:Int)|str (x:Str)|byt (b:Array UInt8)|flt (b:UInt64)|ref (a:Addr)|ty (n:String)
 deriving DecidableEq
def ZA:V→Value→Prop
 | .non,u=>u=Value.none
 | .bl b,u=>u=Value.bool b
 | .int i,u=>∃t,u=Value.int i t
 | .str x,u=>∃t,u=Value.str x t
 | .byt b,u=>∃t,u=Value.bytes b t
 | .flt b,u=>∃t,u=Value.float b t
 | .ref a,u=>u=Value.ref a
 | .ty n,u=>u=Value.type n
abbrev Zy:List V→List Value→Prop:=Paired ZA
theorem Zy.length{xs:List V}{us:List Value}(r:Zy xs us):xs.length=us.length:=Paired.length r
theorem Zy.get:∀ {xs:List V} {us:List Value} {i:Nat} {x:V},Zy xs us→xs[i]? = some x→∃u,us[i]? = some u∧ZA x u
 | _,_,_,_,.nil,e=>by simp at e
 | _,_,0,_,.cons r _,e=>by simp at e;subst e;exact⟨_,rfl,r⟩
 | _,_,i+1,x,.cons _ t,e=>by
  obtain⟨u,h1,h2⟩:=Zy.get (i:=i) (x:=x) t (by simpa using e)
  exact⟨u,by simpa using h1,h2⟩
theorem Zy.set{x:V}{u:Value}(r:ZA x u):∀ {xs:List V} {us:List Value} (i:Nat),Zy xs us→Zy (xs.set i x) (us.set i u)
 | _,_,_,.nil=>.nil
 | _,_,0,.cons _ t=>.cons r t
 | _,_,i+1,.cons q t=>.cons q (Zy.set r i t)
theorem Zy.append:∀ {xs ys:List V} {us ws:List Value},Zy xs us→Zy ys ws→Zy (xs++ys) (us++ws)
 | _,_,_,_,.nil,s=>s
 | _,_,_,_,.cons r t,s=>.cons r (Zy.append t s)
theorem Zy.take:∀ {xs:List V} {us:List Value} (n:Nat),Zy xs us→Zy (xs.take n) (us.take n)
 | _,_,0,_=>.nil
 | _,_,_+1,.nil=>.nil
 | _,_,n+1,.cons r t=>.cons r (Zy.take n t)
theorem Zy.drop:∀ {xs:List V} {us:List Value} (n:Nat),Zy xs us→Zy (xs.drop n) (us.drop n)
 | _,_,0,r=>r
 | _,_,_+1,.nil=>.nil
 | _,_,n+1,.cons _ t=>Zy.drop n t
def ZcI:Option V→Option Value→Prop
 | some v,some u=>ZA v u
 | none,none=>True
 | _,_=>False
def KV{κ:Type}:List (κ×V)→List (κ×Value)→Prop:=Paired fun (p:κ×V) (q:κ×Value)=>p.1=q.1∧ZA p.2 q.2
def kV:Key→V
 | .inl i=>.int i
 | .inr x=>.str x
inductive HO where
  | lst (xs:List V)
  | tup (xs:List V)
  | dK (kvs:List (Key×V))|dT (kvs:List (List Key×V))
  | set (S:Int→Bool) (n:Nat)
  | ins (C dx:Addr) (fs:List (Str×V))
  | own (x:Addr)
  | xd (fs:List (Str×V))
  | met (f x:Addr)
  | rng (lo hi:Int)
  | frz (o:Obj) (u:HO)
  | tbl (ps:Array Value)
  | ext (φ:Heap→Prop)
abbrev Hp:=Addr→Option HO
def upd(H:Hp)(a:Addr)(o:HO):Hp:=fun b=>if b=a then some o else H b
theorem Zd{H:Hp}{a:Addr}{o:HO}:upd H a o a=some o:=by unfold upd;rw[if_pos rfl]
theorem Zc{H:Hp}{a b:Addr}{o:HO}(h:b≠a):upd H a o b=H b:=by unfold upd;rw[if_neg h]
theorem Zk2{H:Hp}{a b:Addr}{o u:HO}(h:H a=some o)(h':H b=some u)(d:o≠u):a≠b:=by
 intro e;subst e;rw[h]at h';exact d (Qj h')
theorem Zb{H:Hp}{a b:Addr}{o:HO}(h:H a=some o)(h':H b=none):a≠b:=by
 intro e;subst e;rw[h]at h';cases h'
section
variable (P:Program) (w:World)
def Zaa(H:Hp)(h:Heap)(a:Addr):HO→Prop
 | .lst xs=>xs.length≤sizeLine∧∃ (its:List Value) (n:Nat),Zy xs its∧h.get? a=some { cls:=.type "list",data:=.seq its.toArray n }
 | .tup xs=>xs.length≤sizeLine∧∃its:List Value,Zy xs its∧IsTup h a its.toArray
 | .dK kvs=>kvs.length≤sizeLine∧(a == sysModules)=false∧∃vs,KV kvs vs∧h.DictOf (Z5 P w) a vs
 | .dT kvs=>kvs.length≤sizeLine∧(a == sysModules)=false∧∃xs:List (List Key×Addr×Value),
   Paired (fun (p:List Key×V) (q:List Key×Addr×Value)=>p.1=q.1∧H q.2.1=some (.tup (p.1.map kV))∧ZA p.2 q.2.2) kvs xs ∧
   ∃o es ep,h.get? a=some o∧o.ExactDict∧o.data=.dict es ep∧es.toList=xs.map (entryOfKey (tupleKind (Z5 P w)))∧(xs.map (·.1)).Nodup
 | .set S n=>h.SetOf (intKind P w) a S n
 | .ins C dx fs=>H dx=some (.own a)∧fs.length≤1000∧dx≠a∧h.get? a=some (PySem.W.instObj C dx) ∧
   ∃mA,h.Ns1 dx mA∧(∀f,ZcI (fs.lookup f) (mA f))∧PySem.Within mA (fs.map (·.1))
 | .own _=>∃o,h.get? a=some o
 | .xd fs=>∃mA,h.Ns1 a mA∧∀f,ZcI (fs.lookup f) (mA f)
 | .rng lo hi=>∃t u v,h.get? a=some { cls:=.type "range",data:=.fields #[.int lo t,.int hi u,.int 1 v] }
 | .frz o u=>h.get? a=some o∧Zaa H h a u
 | .tbl ps=>h.get? a=some { cls:=.none,data:=.fields ps }
 | .met f x=>h.get? a=some (PySem.W.methodObj (.ref f) (.ref x))
 | .ext φ=>φ h∧(∃o,h.get? a=some o)∧∀h1 h2:Heap,φ h1→(∀o,h1.get? a=some o→h2.get? a=some o)→φ h2
def HOk(H:Hp)(h:Heap):Prop:=∀a o,H a=some o→Zaa P w H h a o
end
section
variable {P:Program} {w:World} {H H':Hp} {h h':Heap} {a:Addr} {o:HO}
theorem Zaa.lt(x:Zaa P w H h a o):a<h.objs.size:=by
 cases o with
 | lst xs=>obtain⟨_,_,_,_,e⟩:=x;exact Qo e
 | tup xs=>obtain⟨_,_,_,p⟩:=x;exact p.lt
 | dK kvs=>obtain⟨_,_,_,_,o,_,_,e,_⟩:=x;exact Qo e
 | dT kvs=>obtain⟨_,_,_,_,o,_,_,e,_⟩:=x;exact Qo e
 | set S n=>obtain⟨o,_,_,_,e,_⟩:=x;exact Qo e
 | ins C dx fs=>obtain⟨_,_,_,e,_⟩:=x;exact Qo e
 | own y=>obtain⟨_,e⟩:=x;exact Qo e
 | xd fs=>obtain⟨_,⟨_,_,_,e,_⟩,_⟩:=x;exact Qo e
 | rng lo hi=>obtain⟨_,_,_,e⟩:=x;exact Qo e
 | frz ob u=>obtain⟨e,_⟩:=x;exact Qo e
 | tbl ps=>exact Qo (show h.get? a=some _ from x)
 | met f y=>exact Qo (show h.get? a=some _ from x)
 | ext φ=>obtain⟨_,⟨_,e⟩,_⟩:=x;exact Qo e
theorem Paired.mapP{α β:Type}{F G:α→β→Prop}:∀ {l₁:List α} {l₂:List β},Paired F l₁ l₂→(∀a b,F a b→G a b)→Paired G l₁ l₂
 | _,_,.nil,_=>.nil
 | _,_,.cons r t,f=>.cons (f _ _ r) (Paired.mapP t f)
theorem Zaa.stay(x:Zaa P w H h a o)(k:∀b u,(b=a∨H b=some (.own a))→h.get? b=some u→h'.get? b=some u)
  (ho:∀b,H b=some (.own a)→H' b=some (.own a)) (ht:∀b xs,H b=some (.tup xs)→H' b=some (.tup xs)):Zaa P w H' h' a o:=by
 induction o with
 | lst xs=>obtain⟨z,its,n,r,e⟩:=x;exact⟨z,its,n,r,k _ _ (.inl rfl) e⟩
 | tup xs=>obtain⟨z,its,r,ob,e,c⟩:=x;exact⟨z,its,r,ob,k _ _ (.inl rfl) e,c⟩
 | dK kvs=>obtain⟨z,y,vs,r,ob,es,ep,e,c⟩:=x;exact⟨z,y,vs,r,ob,es,ep,k _ _ (.inl rfl) e,c⟩
 | dT kvs =>
  obtain⟨z,y,xs,r,ob,es,ep,e,c⟩:=x
  exact⟨z,y,xs,Paired.mapP r fun p q z=>⟨z.1,ht _ _ z.2.1,z.2.2⟩,ob,es,ep,k _ _ (.inl rfl) e,c⟩
 | set S n=>obtain⟨ob,es,ep,t,e,c⟩:=x;exact⟨ob,es,ep,t,k _ _ (.inl rfl) e,c⟩
 | ins C dx fs =>
  obtain⟨d,z,ne,e,mA,⟨od,es,ep,e2,c⟩,r⟩:=x
  exact⟨ho _ d,z,ne,k _ _ (.inl rfl) e,mA,⟨od,es,ep,k _ _ (.inr d) e2,c⟩,r⟩
 | own y=>obtain⟨ob,e⟩:=x;exact⟨ob,k _ _ (.inl rfl) e⟩
 | xd fs=>obtain⟨mA,⟨od,es,ep,e,c⟩,r⟩:=x;exact⟨mA,⟨od,es,ep,k _ _ (.inl rfl) e,c⟩,r⟩
 | rng lo hi=>obtain⟨t,u,v,e⟩:=x;exact⟨t,u,v,k _ _ (.inl rfl) e⟩
 | frz ob u ih=>obtain⟨e,q⟩:=x;exact⟨k _ _ (.inl rfl) e,ih q⟩
 | tbl ps =>
  have e:h.get? a=some { cls:=.none,data:=.fields ps }:=x
  show h'.get? a=some { cls:=.none,data:=.fields ps }
  exact k a _ (.inl rfl) e
 | met f y =>
  have e:h.get? a=some (PySem.W.methodObj (.ref f) (.ref y)):=x
  show h'.get? a=some (PySem.W.methodObj (.ref f) (.ref y))
  exact k a _ (.inl rfl) e
 | ext φ=>obtain⟨p,⟨o,e⟩,st⟩:=x;exact⟨st _ _ p fun o q=>k _ _ (.inl rfl) q,⟨o,k _ _ (.inl rfl) e⟩,st⟩
theorem HOk.lt(x:HOk P w H h)(e:H a=some o):a<h.objs.size:=(x a o e).lt
theorem HOk.fresh(x:HOk P w H h)(e:h.objs.size≤a):H a=none:=by
 cases q:H a with
 | none=>rfl
 | some u=>exact absurd (QA (x.lt q) e) (Qac _)
theorem HOk.kept(x:HOk P w H h)(k:∀b u,h.get? b=some u→h'.get? b=some u):HOk P w H h':=fun a o e =>
 (x a o e).stay (fun b u _ q=>k b u q) (fun _ q=>q) fun _ _ q=>q
theorem HOk.laid(x:HOk P w H h)(k:∀b u,h.get? b=some u→h'.get? b=some u)(hp:h.objs.size≤a)(new:Zaa P w (upd H a o) h' a o):HOk P w (upd H a o) h':=fun b u e=>by
 have hn:=x.fresh hp
 by_cases hb:b=a
 ·subst hb;rw[Zd]at e;cases e;exact new
 ·rw[Zc hb]at e
  exact(x b u e).stay (fun c v _ q=>k c v q) (fun c q=>by rw[Zc (Zb q hn)];exact q) fun c xs q=>by rw[Zc (Zb q hn)];exact q
end
def Rd(H:Hp)(a:Addr)(u:HO):Prop:=H a=some u∨∃o,H a=some (.frz o u)
theorem Rd.ok{P:Program}{w:World}{H:Hp}{h:Heap}{a:Addr}{u:HO}(r:Rd H a u)(x:HOk P w H h):Zaa P w H h a u:=by
 rcases r with r|⟨o,r⟩
 ·exact x a u r
 ·obtain⟨_,q⟩:=x a _ r
  exact q
def Mut:Option HO→Prop
 | some (.lst _)=>True
 | some (.dK _)=>True
 | some (.dT _)=>True
 | some (.set _ _)=>True
 | some (.ins _ _ _)=>True
 | some (.ext _)=>True
 | _=>False
section
variable {P:Program} {w:World} {H:Hp} {h h':Heap} {x e:Addr} {o':HO}
theorem HOk.write(ok:HOk P w H h)(mu:Mut (H x))(he:e=x∨H e=some (.own x))(k:∀b u,b≠e→h.get? b=some u→h'.get? b=some u)(heo:∃u,h'.get? e=some u)
  (new:Zaa P w (upd H x o') h' x o'):HOk P w (upd H x o') h':=fun b u q=>by
 have nown:∀c y,H c=some (.own y)→c≠x:=fun c y r z=>by subst z;rw[r]at mu;exact mu
 have ntup:∀c xs,H c=some (.tup xs)→c≠x:=fun c xs r z=>by subst z;rw[r]at mu;exact mu
 by_cases hb:b=x
 ·subst hb;rw[Zd]at q;cases q;exact new
 ·rw[Zc hb]at q
  by_cases hbe:b=e
  ·have q':H b=some (.own x):=by
    rcases he with z|z
    ·exact absurd (hbe.trans z) hb
    ·rw[hbe];exact z
   rw[q]at q';cases q'
   obtain⟨v,hv⟩:=heo
   exact⟨v,by rw[hbe];exact hv⟩
  ·refine(ok b u q).stay (fun c v hc r=>k c v ?_ r) (fun c r=>by rw[Zc (nown c b r)];exact r) fun c xs r=>by rw[Zc (ntup c xs r)];exact r
   rcases hc with rfl|hc
   ·exact hbe
   ·rintro rfl
    rcases he with z|z
    ·exact nown c b hc z
    ·rw[hc]at z;cases z;exact hb rfl
end
structure Un (fs ex:List Addr) (H H':Hp) (h h':Heap):Prop where
 keep:∀b o,h.get? b=some o→H b=none→b ∉ fs→b ∉ ex→h'.get? b=some o
 slot:∀b o,h.get? b=some o→H b=none→b∈fs→b ∉ ex→∃sl,h'.get? b=some { o with slots:=sl }
 free:∀b o,h.get? b=some o→H b=none→b ∉ ex→H' b=none
 there:∀b o,h.get? b=some o→b ∉ ex→∃o',h'.get? b=some o'
 tups:∀b xs,H b=some (.tup xs)→H' b=some (.tup xs)
 frzs:∀b o u,H b=some (.frz o u)→H' b=some (.frz o u)
 tbls:∀b ps,H b=some (.tbl ps)→∃more,H' b=some (.tbl (ps++more))
section
variable {fs fs' ex ex':List Addr} {H H1 H2:Hp} {h h1 h2 h':Heap} {a x e:Addr} {o:HO}
theorem Un.any(u:Un fs ex H H1 h h1){b:Addr}{ob:Obj}(q:h.get? b=some ob)(n:H b=none)(hx:b ∉ ex):∃sl,h1.get? b=some { ob with slots:=sl }:=by
 by_cases hb:b∈fs
 ·exact u.slot b ob q n hb hx
 ·exact⟨ob.slots,u.keep b ob q n hb hx⟩
theorem Un.kept(k:∀b u,h.get? b=some u→h'.get? b=some u):Un fs ex H H h h' :=
 ⟨fun b ob q _ _ _=>k b ob q,fun b ob q _ _ _=>⟨ob.slots,k b ob q⟩,fun _ _ _ n _=>n,fun b ob q _=>⟨ob,k b ob q⟩,fun _ _ q=>q,fun _ _ _ q=>q,fun _ ps q=>⟨#[],by rw[q];simp⟩⟩
theorem Un.refl:Un fs ex H H h h:=Un.kept fun _ _ q=>q
theorem Un.laid(k:∀b u,h.get? b=some u→h'.get? b=some u)(hp:h.objs.size≤a)(hn:H a=none):Un fs ex H (upd H a o) h h' where
 keep:=fun b u q _ _ _=>k b u q
 slot:=fun b u q _ _ _=>⟨u.slots,k b u q⟩
 free:=fun b u q n _=>by rw[Zc (QB (QA (Qo q) hp))];exact n
 there:=fun b u q _=>⟨u,k b u q⟩
 tups:=fun b xs q=>by rw[Zc (Zb q hn)];exact q
 frzs:=fun b u xs q=>by rw[Zc (Zb q hn)];exact q
 tbls:=fun b ps q=>⟨#[],by rw[Zc (Zb q hn),q];simp⟩
theorem Un.write(mu:Mut (H x))(he:e=x∨H e=some (.own x))(k:∀b u,b≠e→h.get? b=some u→h'.get? b=some u)(heo:∃u,h'.get? e=some u):Un fs ex H (upd H x o) h h':=by
 have hx:∀b,H b=none→b≠x:=fun b n z=>by subst z;rw[n]at mu;exact mu
 have hb:∀b,H b=none→b≠e:=fun b n z=>by
  subst z
  rcases he with r|r
  ·exact hx b n r
  ·rw[n]at r;cases r
 have hm:∀b u,H b=some u→¬ Mut (some u)→b≠x:=fun b u q nm z=>by subst z;rw[q]at mu;exact nm mu
 refine⟨fun b u q n _ _=>k b u (hb b n) q,fun b u q n _ _=>⟨u.slots,k b u (hb b n) q⟩,fun b u q n _=>by rw[Zc (hx b n)];exact n,fun b u q _=>?_,
  fun b xs q=>by rw[Zc (hm b _ q fun z=>z)];exact q,fun b u xs q=>by rw[Zc (hm b _ q fun z=>z)];exact q,fun b ps q=>⟨#[],by rw[Zc (hm b _ q fun z=>z),q];simp⟩⟩
 by_cases hbe:b=e
 ·subst hbe;exact heo
 ·exact⟨u,k b u hbe q⟩
end
def trk(h:Heap)(H:Hp):List Addr:=(List.range h.objs.size).filter fun a=>(H a).isSome
def Zg1(h:Heap)(H:Hp):Heap:=PySem.W.hideAll h (trk h H)
theorem Zkx(h:Heap)(H:Hp):(Zg1 h H).objs.size=h.objs.size:=PySem.W.hideAll_size _ _
theorem ZlM{h:Heap}{H:Hp}{b:Addr}{o:Obj}(e:h.get? b=some o)(n:H b=none):(Zg1 h H).get? b=some o :=
 PySem.W.hideAll_get _ e fun hm=>by
  have q:(H b).isSome=true:=(List.mem_filter.mp hm).2
  rw[n]at q;simp at q
theorem Znh{h:Heap}{H:Hp}{b:Addr}{o:Obj}(e:(Zg1 h H).get? b=some o):h.get? b=some o∧H b=none:=by
 have e':h.get? b=some o:=PySem.W.of_hideAll (trk h H) e
 refine⟨e',?_⟩
 cases q:H b with
 | none=>rfl
 | some x =>
  have hm:b∈trk h H:=List.mem_filter.mpr ⟨List.mem_range.mpr (Qo e'),by simp[q]⟩
  have z:(Zg1 h H).get? b=none:=PySem.W.hideAll_none (trk h H) hm
  rw[z]at e;cases e
def Zmz(g h:Heap)(L:Addr):List (Addr×Obj):=(List.range h.objs.size).filterMap fun a=>if a=L∨(g.get? a).isSome=true then none else (h.get? a).map fun o=>(a,o)
def rest(g h:Heap)(L d:Addr):List (Addr×Obj):=(Zmz g h L).filter fun p=>decide (p.1≠d)
structure Mod (K:PySem.W.Frag) (mg:Str→Option Value) (base:Heap):Prop where
 kin:K.In base
 glob:base.Ns mainGlobals mg
 blt:∃mb,base.Ns builtinsNs mb∧∀x:Str,x ≠ "__name__"→mb x=bootBuiltins x
 nolimit:base.NoLimit
structure Cx where
 prog:Program
 w:World
 K:PySem.W.Frag
 mg:Str→Option Value
 base:Heap
 A:Around
 N:List Str
 s₀:Shared
 H₀:Hp
 env:Env
 outer:List Env
 stack:List Env
 ex:List Addr
 fn:Str→Bool
 calm:Bool
 pn:List (Addr×Obj)
 xe:Value→Shared→Prop
def frs(l:List Env):List Addr:=l.filterMap (·.frame)
abbrev Cx.fs(X:Cx):List Addr:=frs X.outer
def Vis(sc:Scope)(x:Str):Prop:=sc.names.lookup x=some .local∨sc.names.lookup x=some .cell∨sc.names.lookup x=some .free
def Loc(sc:Scope)(x:Str):Prop:=sc.names.lookup x=some .local∨sc.names.lookup x=some .cell
def ZpM(env:Env)(h:Heap)(m:Str→Option Value)(x:Str)(u:Value):Prop :=
 (env.kindOf x=some .local∧m x=some u)∨((env.kindOf x=some .cell∨env.kindOf x=some .free)∧∃c,env.cells.lookup x=some c∧h.IsCell c (some u))
structure Cx.Ok (X:Cx):Prop where
 mod:Mod X.K X.mg X.base
 kind:X.env.scope.kind=.function
 glob:X.env.globals=mainGlobals
 blt:X.env.builtins=builtinsNs
 above:X.s₀.heap.objs.size≤X.env.locals
 inj:∀x y c,X.env.cells.lookup x=some c→X.env.cells.lookup y=some c→x=y
 has:∀x,(X.env.kindOf x=some .cell∨X.env.kindOf x=some .free)→∃c,X.env.cells.lookup x=some c
 cab:∀x c,X.fn x=true→X.env.cells.lookup x=some c→X.s₀.heap.objs.size≤c
 hd:X.calm=true→X.A.handled=none
 frames:X.A.frames=some X.stack
 stk:X.stack=X.outer∨(X.stack=X.env::X.outer∧X.env.frame=some X.env.locals)
 exf:∀b∈X.ex,b≠X.env.locals∧∀x c,X.env.cells.lookup x=some c→c≠b
 bs:∀b o,X.base.get? b=some o→X.s₀.heap.get? b=some o∧X.H₀ b=none
 bsz:X.base.objs.size≤X.s₀.heap.objs.size
 noex:∀b o,X.base.get? b=some o→b ∉ X.ex
 exfs:∀b∈X.ex,b ∉ X.fs
 funs:X.s₀.heap.FunFrames X.base X.outer
 frf:∀b∈X.fs,X.H₀ b=none
structure Inv (X:Cx) (pins:List (Addr×Obj)) (σ:List (Option V)) (H:Hp) (s:Shared):Prop where
 ok:X.Ok
 os:s.os=X.s₀.os
 bare:AllBare s.gens
 base:Un X.fs X.ex X.H₀ H X.s₀.heap s.heap
 loc:∃m,s.heap.Ns X.env.locals m∧∀ (i:Nat) (x:Str) (v:V),X.N[i]? = some x→σ[i]? = some (some v)→Vis X.env.scope x→∃u,ZA v u∧ZpM X.env s.heap m x u
 cell:∀x c,X.env.cells.lookup x=some c→∃v,s.heap.IsCell c v
 free:H X.env.locals=none
 freeC:∀x c,X.env.cells.lookup x=some c→H c=none
 pin:∀p∈X.pn++pins,s.heap.get? p.1=some p.2∧H p.1=none∧p.1≠X.env.locals∧p.1 ∉ X.fs∧∀v,p.2.data≠.cell v
 hok:HOk X.prog X.w H s.heap
 len:σ.length=X.N.length
section
variable {X:Cx} {pins:List (Addr×Obj)} {σ:List (Option V)} {H H':Hp} {s:Shared} {h':Heap}
theorem Cx.Ok.nofr(ok:X.Ok){b:Addr}{o:Obj}(e:X.base.get? b=some o):b ∉ X.fs:=fun hb=>by
 have:=(ok.funs.mem hb).1
 rw[e]at this;cases this
theorem Inv.bs(I:Inv X pins σ H s):∀b o,X.base.get? b=some o→s.heap.get? b=some o∧H b=none:=fun b o e =>
 ⟨I.base.keep b o (I.ok.bs b o e).1 (I.ok.bs b o e).2 (I.ok.nofr e) (I.ok.noex b o e),I.base.free b o (I.ok.bs b o e).1 (I.ok.bs b o e).2 (I.ok.noex b o e)⟩
theorem Inv.bk(I:Inv X pins σ H s):∀b o,X.base.get? b=some o→s.heap.get? b=some o:=fun b o e=>(I.bs b o e).1
theorem Inv.mod(I:Inv X pins σ H s):Mod X.K X.mg X.base:=I.ok.mod
theorem Inv.kIn(I:Inv X pins σ H s):X.K.In s.heap:=I.ok.mod.kin.keeps I.bk
theorem Inv.lt(I:Inv X pins σ H s):X.env.locals<s.heap.objs.size:=let ⟨_,hn,_⟩:=I.loc;hn.lt
theorem Inv.sz(I:Inv X pins σ H s):X.s₀.heap.objs.size≤s.heap.objs.size:=QP I.ok.above (Nat.le_of_lt I.lt)
theorem Inv.nofs(I:Inv X pins σ H s){a:Addr}(h:s.heap.objs.size≤a):a ∉ X.fs:=fun hb=>by
 obtain⟨_,o,ho,_⟩:=I.ok.funs.mem hb
 exact absurd (QA (Qo ho) (QP I.sz h)) (Qac _)
theorem Inv.cne(I:Inv X pins σ H s):∀x c,X.env.cells.lookup x=some c→c≠X.env.locals:=fun x c e z=>by
 obtain⟨v,o,ho,hd⟩:=I.cell x c e
 obtain⟨m,⟨o',es,ep,ho',hd',_⟩,_⟩:=I.loc
 rw[z,ho']at ho;cases ho;rw[hd']at hd;cases hd
theorem Inv.funs(I:Inv X pins σ H s):s.heap.FunFrames X.base X.outer:=by
 have all:∀ (l:List Env),(∀b∈frs l,b∈X.fs)→X.s₀.heap.FunFrames X.base l→s.heap.FunFrames X.base l:=by
  intro l
  induction l with
  | nil=>intro _ _;trivial
  | cons env r ih =>
   intro hs hl
   obtain⟨hk,⟨L,o,hf,hn,ho,hd⟩,hr⟩:=hl
   have hL:L∈X.fs:=hs L (by unfold frs;rw[QaO,hf];exact QK)
   obtain⟨sl,e⟩:=I.base.slot L o ho (I.ok.frf L hL) hL fun z=>I.ok.exfs L z hL
   exact⟨hk,⟨L,_,hf,hn,e,hd⟩,ih (fun b hb=>hs b (by unfold frs;rw[QaO,hf];exact Ql _ hb)) hr⟩
 exact all X.outer (fun _ hb=>hb) I.ok.funs
theorem Inv.stack(I:Inv X pins σ H s):s.heap.FunFrames X.base X.stack:=by
 rcases I.ok.stk with e|⟨e,hf⟩
 ·rw[e];exact I.funs
 ·rw[e]
  obtain⟨m,hn,_⟩:=I.loc
  refine .cons (by rw[I.ok.kind];decide) hf hn ?_ I.funs
  exact Heap.get?_none_of_le (QP I.ok.bsz I.ok.above)
theorem Inv.stkSub(I:Inv X pins σ H s):∀b∈frs X.stack,b∈X.env.locals::X.fs:=fun b hb=>by
 rcases I.ok.stk with e|⟨e,hf⟩
 ·rw[e]at hb;exact Ql _ hb
 ·rw[e]at hb
  unfold frs at hb
  rw[QaO,hf]at hb
  exact hb
theorem Inv.stkFree(I:Inv X pins σ H s):∀b∈frs X.stack,H b=none:=fun b hb=>by
 rcases QH.mp (I.stkSub b hb) with e|hb
 ·rw[e];exact I.free
 ·obtain⟨_,o,ho,_⟩:=I.ok.funs.mem hb
  exact I.base.free b o ho (I.ok.frf b hb) fun z=>I.ok.exfs b z hb
theorem Inv.step{g':Array GenState}{t':Nat}{d':Drawn}{ch:List Addr}(I:Inv X pins σ H s)
  (hch:∀b∈ch,(b∈X.ex∨X.s₀.heap.objs.size≤b)∧b≠X.env.locals∧(∀x c,X.env.cells.lookup x=some c→c≠b)∧∀p∈X.pn++pins,p.1≠b)
  (keep:∀b o,b≠X.env.locals→b ∉ X.fs→b ∉ ch→s.heap.get? b=some o→H b=none→h'.get? b=some o)
  (slot:∀b o,b≠X.env.locals→b∈X.fs→b ∉ ch→s.heap.get? b=some o→H b=none→∃sl,h'.get? b=some { o with slots:=sl }) (free:∀b o,b ∉ ch→s.heap.get? b=some o→H b=none→H' b=none)
  (there:∀b o,b ∉ ch→s.heap.get? b=some o→∃o',h'.get? b=some o')
  (tups:∀b xs,H b=some (.tup xs)→H' b=some (.tup xs)) (frzs:∀b o u,H b=some (.frz o u)→H' b=some (.frz o u)) (tbls:∀b ps,H b=some (.tbl ps)→∃more,H' b=some (.tbl (ps++more)))
  (ns:∀m,s.heap.Ns X.env.locals m→h'.Ns X.env.locals m) (hok:HOk X.prog X.w H' h') (hg:AllBare g') :
  Inv X pins σ H' { s with heap:=h',gens:=g',drawn:=d',toks:=t' }:=by
 have neL:∀b o,X.s₀.heap.get? b=some o→b≠X.env.locals:=fun b o e=>QB (QA (Qo e) I.ok.above)
 have neC:∀b o,X.s₀.heap.get? b=some o→b ∉ X.ex→b ∉ ch:=fun b o e hx hb=>by
  rcases(hch b hb).1 with z|z
  ·exact hx z
  ·exact absurd (QA (Qo e) z) (Qac _)
 have cellK:∀x c,X.env.cells.lookup x=some c→∀v,s.heap.IsCell c v→h'.IsCell c v:=fun x c e v ⟨o,ho,hd⟩=>by
  have nch:c ∉ ch:=fun z=>(hch c z).2.2.1 x c e rfl
  by_cases hc:c∈X.fs
  ·obtain⟨sl,q⟩:=slot c o (I.cne x c e) hc nch ho (I.freeC x c e)
   exact⟨_,q,hd⟩
  ·exact⟨o,keep c o (I.cne x c e) hc nch ho (I.freeC x c e),hd⟩
 refine⟨I.ok,I.os,hg,⟨fun b o e n hb hx=>?_,fun b o e n hb hx=>?_,fun b o e n hx=>?_,fun b o e hx=>?_,fun b xs e=>tups b xs (I.base.tups b xs e),fun b o xs e=>frzs b o xs (I.base.frzs b o xs e),fun b ps e=>?_⟩,?_,fun x c e=>?_,?_,fun x c e=>?_,fun p hp=>?_,hok,I.len⟩
 ·exact keep b o (neL b o e) hb (neC b o e hx) (I.base.keep b o e n hb hx) (I.base.free b o e n hx)
 ·obtain⟨sl,e1⟩:=I.base.slot b o e n hb hx
  obtain⟨sl',e2⟩:=slot b _ (neL b o e) hb (neC b o e hx) e1 (I.base.free b o e n hx)
  exact⟨sl',e2⟩
 ·obtain⟨o',e1⟩:=I.base.there b o e hx
  exact free b o' (neC b o e hx) e1 (I.base.free b o e n hx)
 ·obtain⟨o',e1⟩:=I.base.there b o e hx
  exact there b o' (neC b o e hx) e1
 ·obtain⟨m1,e1⟩:=I.base.tbls b ps e
  obtain⟨m2,e2⟩:=tbls b _ e1
  exact⟨m1++m2,by rw[e2,Array.append_assoc]⟩
 ·obtain⟨m,hn,hl⟩:=I.loc
  refine⟨m,ns m hn,fun i x v e1 e2 e3=>?_⟩
  obtain⟨u,r,l⟩:=hl i x v e1 e2 e3
  refine⟨u,r,?_⟩
  rcases l with l|⟨k,c,e,z⟩
  ·exact .inl l
  ·exact .inr ⟨k,c,e,cellK x c e _ z⟩
 ·obtain⟨v,z⟩:=I.cell x c e
  exact⟨v,cellK x c e v z⟩
 ·obtain⟨m,⟨o,_,_,ho,_⟩,_⟩:=I.loc
  exact free _ o (fun z=>(hch _ z).2.1 rfl) ho I.free
 ·obtain⟨v,o,ho,hd⟩:=I.cell x c e
  exact free c o (fun z=>(hch c z).2.2.1 x c e rfl) ho (I.freeC x c e)
 ·obtain⟨e,n,ne,nf,d⟩:=I.pin p hp
  have nch:p.1 ∉ ch:=fun z=>(hch p.1 z).2.2.2 p hp rfl
  exact⟨keep p.1 p.2 ne nf nch e n,free p.1 p.2 nch e n,ne,nf,d⟩
theorem Inv.un{t':Nat}(I:Inv X pins σ H s)(u:Un X.fs [] H H' s.heap h')(hok:HOk X.prog X.w H' h'):Inv X pins σ H' { s with heap:=h',toks:=t' }:=by
 obtain⟨m,⟨o,es,ep,ho,r⟩,_⟩:=id I.loc
 obtain⟨sl,hL⟩:=u.any ho I.free (by simp)
 exact I.step (g':=s.gens) (d':=s.drawn) (ch:=[]) (fun _ z=>nomatch z) (fun b o _ hb _ e n=>u.keep b o e n hb (by simp)) (fun b o _ hb _ e n=>u.slot b o e n hb (by simp)) (fun b o _ e n=>u.free b o e n (by simp)) (fun b o _ e=>u.there b o e (by simp)) u.tups u.frzs u.tbls (fun m' hm=>by
  obtain⟨o',es',ep',ho',r'⟩:=hm
  rw[ho]at ho';cases ho'
  exact⟨_,es',ep',hL,r'⟩) hok I.bare
theorem Inv.call{g':Array GenState}{t':Nat}{d':Drawn}{ch:List Addr}(I:Inv X pins σ H s)(u:Un (frs X.stack) ch H H' s.heap h')(hok:HOk X.prog X.w H' h')(hg:AllBare g')
  (hch:∀b∈ch,(b∈X.ex∨X.s₀.heap.objs.size≤b)∧b≠X.env.locals∧(∀x c,X.env.cells.lookup x=some c→c≠b)∧∀p∈X.pn++pins,p.1≠b) :
  Inv X pins σ H' { s with heap:=h',gens:=g',drawn:=d',toks:=t' }:=by
 obtain⟨m,⟨o,es,ep,ho,r⟩,_⟩:=id I.loc
 obtain⟨sl,hL⟩:=u.any ho I.free fun z=>(hch _ z).2.1 rfl
 exact I.step (ch:=ch) hch (fun b o hL hb hc e n=>u.keep b o e n (fun z=>(QH.mp (I.stkSub b z)).elim hL hb) hc) (fun b o _ _ hc e n=>u.any e n hc) (fun b o hc e n=>u.free b o e n hc) (fun b o hc e=>u.there b o e hc) u.tups u.frzs u.tbls (fun m' hm=>by
  obtain⟨o',es',ep',ho',r'⟩:=hm
  rw[ho]at ho';cases ho'
  exact⟨_,es',ep',hL,r'⟩) hok hg
theorem Inv.turned{t':Nat}{it:Addr}(I:Inv X pins σ H s)(k:∀b o,b≠it→s.heap.get? b=some o→h'.get? b=some o)(hn:H it=none)(hL:it≠X.env.locals)
  (h1:it∈X.ex∨X.s₀.heap.objs.size≤it) (h2:∀x c,X.env.cells.lookup x=some c→c≠it) (h3:∀p∈X.pn++pins,p.1≠it):Inv X pins σ H { s with heap:=h',toks:=t' }:=by
 have nit:∀b u,H b=some u→b≠it:=fun b u e z=>by rw[z,hn]at e;cases e
 refine I.step (g':=s.gens) (d':=s.drawn) (ch:=[it]) (fun b hb=>?_) (fun b o _ _ hc e _=>k b o (fun z=>hc (by simp[z])) e) (fun b o _ _ hc e _=>⟨o.slots,k b o (fun z=>hc (by simp[z])) e⟩) (fun _ _ _ _ n=>n)
  (fun b o hc e=>⟨o,k b o (fun z=>hc (by simp[z])) e⟩) (fun _ _ e=>e) (fun _ _ _ e=>e) (fun b ps e=>⟨#[],by rw[e];simp⟩) (fun m hm=>?_) (fun b u e=>?_) I.bare
 ·have e:b=it:=by simpa using hb
  subst e
  exact⟨h1,hL,h2,h3⟩
 ·obtain⟨o,es,ep,ho,r⟩:=hm
  exact⟨o,es,ep,k _ o (Ne.symm hL) ho,r⟩
 ·refine(I.hok b u e).stay (fun c v hc q=>k c v ?_ q) (fun _ q=>q) fun _ _ q=>q
  rcases hc with z|z
  ·rw[z];exact nit b u e
  ·exact nit c _ z
theorem Inv.tok(I:Inv X pins σ H s)(t:Nat):Inv X pins σ H { s with toks:=t }:=I.un (h':=s.heap) (t':=t) Un.refl I.hok
theorem Inv.kept{t':Nat}(I:Inv X pins σ H s)(k:∀b u,s.heap.get? b=some u→h'.get? b=some u):Inv X pins σ H { s with heap:=h',toks:=t' }:=I.un (Un.kept k) (I.hok.kept k)
theorem Inv.laid{a:Addr}{o:HO}{t':Nat}(I:Inv X pins σ H s)(k:∀b u,s.heap.get? b=some u→h'.get? b=some u)(hp:s.heap.objs.size≤a)(new:Zaa X.prog X.w (upd H a o) h' a o) :
  Inv X pins σ (upd H a o) { s with heap:=h',toks:=t' }:=I.un (Un.laid k hp (I.hok.fresh hp)) (I.hok.laid k hp new)
theorem Inv.write{x e:Addr}{o:HO}{t':Nat}(I:Inv X pins σ H s)(mu:Mut (H x))(he:e=x∨H e=some (.own x))(k:∀b u,b≠e→s.heap.get? b=some u→h'.get? b=some u)(heo:∃u,h'.get? e=some u)
  (new:Zaa X.prog X.w (upd H x o) h' x o):Inv X pins σ (upd H x o) { s with heap:=h',toks:=t' }:=I.un (Un.write mu he k heo) (I.hok.write mu he k heo new)
theorem Inv.pins_of{pins':List (Addr×Obj)}(I:Inv X pins σ H s)(h:∀p∈pins',s.heap.get? p.1=some p.2∧H p.1=none∧p.1≠X.env.locals∧p.1 ∉ X.fs∧∀v,p.2.data≠.cell v):Inv X pins' σ H s :=
 ⟨I.ok,I.os,I.bare,I.base,I.loc,I.cell,I.free,I.freeC,fun p hp=>(Qm.mp hp).elim (fun z=>I.pin p (Qv _ z)) (h p),I.hok,I.len⟩
theorem Zhs{N:List Str}(hN:N.Nodup){i j:Nat}{x:Str}(a:N[i]? = some x)(b:N[j]? = some x):i=j:=by
 obtain⟨h1,e1⟩:=Qe.mp a
 obtain⟨h2,e2⟩:=Qe.mp b
 exact(List.getElem_inj hN).mp (e1.trans e2.symm)
theorem Zf2{M:Model}{A:Around}{E:Value→Shared→Prop}{i:Nat}{x:Str}{v:V}{u:Value}{Q:Unit→Shared→Prop}(I:Inv X pins σ H s)(hN:X.N.Nodup)(hi:X.N[i]? = some x)(hx:Loc X.env.scope x)(r:ZA v u)
  (h:∀s',Inv X pins (σ.set i (some v)) H s'→(∃a,Heap.SameBut a s.heap s'.heap∧(a=X.env.locals∨X.env.cells.lookup x=some a))→Q () s') (hf:X.fn x=true∨X.env.scope.names.lookup x=some .local:=by first|exact .inl rfl|exact .inr rfl|assumption):wpAny M A (storeName X.env x u) Q E s:=by
 obtain⟨m,hn,hl⟩:=id I.loc
 have hcls:(X.env.scope.kind == .class||(X.env.scope.kind == .module&&X.env.locals != X.env.globals))=false:=by rw[I.ok.kind];rfl
 have hiσ:i<σ.length:=by rw[I.len];exact(Qe.mp hi).1
 have cne:=I.cne
 have tracked:∀ {a:Addr} {h':Heap},(∃o,s.heap.get? a=some o∧H a=none)→Heap.SameBut a s.heap h'→HOk X.prog X.w H h':=fun {a h'} ha hs b ob e=>by
  obtain⟨_,_,hfree⟩:=ha
  refine(I.hok b ob e).stay (fun c w' hc q=>(hs.2 c ?_).trans q) (fun _ q=>q) fun _ _ q=>q
  rintro rfl
  rcases hc with rfl|hc
  ·rw[hfree]at e;cases e
  ·rw[hfree]at hc;cases hc
 rcases hx with hk|hk
 ·refine wpAny_storeName_local hk hn (fun h' hn' hs=>?_) hcls
  obtain⟨oL,_,_,hoL,_⟩:=id hn
  refine h _ ⟨I.ok,I.os,I.bare,⟨fun b o e n hb hx=>?_,fun b o e n hb hx=>?_,I.base.free,fun b o e hx=>?_,I.base.tups,I.base.frzs,I.base.tbls⟩,⟨_,hn',fun j y v' e1 e2 e3=>?_⟩,fun y c e=>?_,I.free,I.freeC,fun p hp=>?_,tracked ⟨oL,hoL,I.free⟩ hs,by simpa using I.len⟩ ⟨_,hs,.inl rfl⟩
  ·exact(hs.2 b (QB (QA (Qo e) I.ok.above))).trans (I.base.keep b o e n hb hx)
  ·obtain⟨sl,e1⟩:=I.base.slot b o e n hb hx
   exact⟨sl,(hs.2 b (QB (QA (Qo e) I.ok.above))).trans e1⟩
  ·obtain⟨o',e1⟩:=I.base.there b o e hx
   exact⟨o',(hs.2 b (QB (QA (Qo e) I.ok.above))).trans e1⟩
  ·by_cases hj:j=i
   ·subst hj
    rw[hi]at e1;cases e1
    rw[List.getElem?_set_self hiσ]at e2
    cases e2
    exact⟨u,r,.inl ⟨hk,by simp⟩⟩
   ·rw[List.getElem?_set_ne (Ne.symm hj)]at e2
    obtain⟨u',r',q⟩:=hl j y v' e1 e2 e3
    refine⟨u',r',?_⟩
    rcases q with⟨k,e⟩|⟨k,c,e,z⟩
    ·refine .inl ⟨k,?_⟩
     have:y≠x:=fun e=>hj (Zhs hN e1 (e ▸ hi))
     simp[this,e]
    ·exact .inr ⟨k,c,e,z.sameBut hs (cne y c e)⟩
  ·obtain⟨w',z⟩:=I.cell y c e
   exact⟨w',z.sameBut hs (cne y c e)⟩
  ·obtain⟨e,n,ne,nf,d⟩:=I.pin p hp
   exact⟨(hs.2 p.1 ne).trans e,n,ne,nf,d⟩
 ·have hfn:X.fn x=true:=by
   rcases hf with z|z
   ·exact z
   ·rw[z]at hk;cases hk
  obtain⟨c,hc⟩:=I.ok.has x (.inl hk)
  obtain⟨w',z⟩:=I.cell x c hc
  refine wpAny_storeName_cell I.ok.kind hk hc z (fun h' hc' hs=>?_)
  obtain⟨oc,hoc,hocd⟩:=id z
  refine h { s with heap:=h' } ⟨I.ok,I.os,I.bare,⟨fun b o e n hb hx=>?_,fun b o e n hb hx=>?_,I.base.free,fun b o e hx=>?_,I.base.tups,I.base.frzs,I.base.tbls⟩,⟨m,hn.sameBut hs (Ne.symm (cne x c hc)),fun j y v' e1 e2 e3=>?_⟩,fun y c' e=>?_,I.free,I.freeC,fun p hp=>?_,tracked ⟨oc,hoc,I.freeC x c hc⟩ hs,by simpa using I.len⟩ ⟨c,hs,.inr hc⟩
  ·exact(hs.2 b (QB (QA (Qo e) (I.ok.cab x c hfn hc)))).trans (I.base.keep b o e n hb hx)
  ·obtain⟨sl,e1⟩:=I.base.slot b o e n hb hx
   exact⟨sl,(hs.2 b (QB (QA (Qo e) (I.ok.cab x c hfn hc)))).trans e1⟩
  ·obtain⟨o',e1⟩:=I.base.there b o e hx
   exact⟨o',(hs.2 b (QB (QA (Qo e) (I.ok.cab x c hfn hc)))).trans e1⟩
  ·by_cases hj:j=i
   ·subst hj
    rw[hi]at e1;cases e1
    rw[List.getElem?_set_self hiσ]at e2
    cases e2
    exact⟨u,r,.inr ⟨.inl hk,c,hc,hc'⟩⟩
   ·rw[List.getElem?_set_ne (Ne.symm hj)]at e2
    obtain⟨u',r',q⟩:=hl j y v' e1 e2 e3
    refine⟨u',r',?_⟩
    rcases q with q|⟨k,c',e,z'⟩
    ·exact .inl q
    ·refine .inr ⟨k,c',e,z'.sameBut hs ?_⟩
     rintro rfl
     exact hj (Zhs hN e1 (I.ok.inj _ _ _ e hc ▸ hi))
  ·by_cases hcc:c'=c
   ·subst hcc;exact⟨_,hc'⟩
   ·obtain⟨w2,z2⟩:=I.cell y c' e
    exact⟨w2,z2.sameBut hs hcc⟩
  ·obtain⟨e,n,ne,nf,d⟩:=I.pin p hp
   refine⟨(hs.2 p.1 ?_).trans e,n,ne,nf,d⟩
   intro q
   rw[q,hoc]at e
   have q':oc=p.2:=Qj e
   exact d w' (by rw[← q'];exact hocd)
theorem Zc3{M:Model}{A:Around}{E:Value→Shared→Prop}{i:Nat}{x:Str}{v:V}{u:Value}{Q:Unit→Shared→Prop}(I:Inv X pins σ H s)(hN:X.N.Nodup)(hi:X.N[i]? = some x)(hx:Loc X.env.scope x)(r:ZA v u)
  (h:∀s',Inv X pins (σ.set i (some v)) H s'→Q () s') (hf:X.fn x=true∨X.env.scope.names.lookup x=some .local:=by first|exact .inl rfl|exact .inr rfl|assumption):wpAny M A (storeName X.env x u) Q E s :=
 Zf2 I hN hi hx r (fun s' I' _=>h s' I') hf
theorem Inv.call'{s':Shared}{ch:List Addr}(I:Inv X pins σ H s)(ho:s'.os=s.os)(u:Un (frs X.stack) ch H H' s.heap s'.heap)(hok:HOk X.prog X.w H' s'.heap)(hg:AllBare s'.gens)
  (hch:∀b∈ch,(b∈X.ex∨X.s₀.heap.objs.size≤b)∧b≠X.env.locals∧(∀x c,X.env.cells.lookup x=some c→c≠b)∧∀p∈X.pn++pins,p.1≠b):Inv X pins σ H' s':=by
 obtain⟨h',g',d',t',o'⟩:=s'
 have e:o'=s.os:=ho
 subst e
 exact I.call (g':=g') (t':=t') (d':=d') u hok hg hch
end
abbrev XK:=Value→Option Addr→Hp→Prop
abbrev St:=List (Option V)
abbrev VK:=V→Hp→Prop
abbrev TE:=St→Hp→VK→Prop
abbrev TT:=St→Hp→(Bool→Hp→Prop)→Prop
abbrev TA:=St→Hp→(List V→Hp→Prop)→Prop
structure ZbG where
 nx:St→Hp→Prop
 rt:VK
 bk:St→Hp→Prop:=fun _ _=>False
 ct:St→Hp→Prop:=fun _ _=>False
abbrev TS:=ZbG→St→Hp→Prop
def EP(X:Cx)(pins:List (Addr×Obj))(σ:St)(Q:VK)(u:Value)(s':Shared):Prop:=∃v H',Inv X pins σ H' s'∧ZA v u∧Q v H'
def TP(X:Cx)(pins:List (Addr×Obj))(σ:St)(Q:Bool→Hp→Prop)(b:Bool)(s':Shared):Prop:=∃H',Inv X pins σ H' s'∧Q b H'
def AP(X:Cx)(pins:List (Addr×Obj))(σ:St)(Q:List V→Hp→Prop)(us:List Value)(s':Shared):Prop:=∃vs H',Inv X pins σ H' s'∧Zy vs us∧Q vs H'
def SP(X:Cx)(pins:List (Addr×Obj))(D:ZbG)(f:Flow)(s':Shared):Prop :=
 match f with
 | .next=>∃σ' H',Inv X pins σ' H' s'∧D.nx σ' H'
 | .brk=>∃σ' H',Inv X pins σ' H' s'∧D.bk σ' H'
 | .cont=>∃σ' H',Inv X pins σ' H' s'∧D.ct σ' H'
 | .ret u=>∃v σ' H',Inv X pins σ' H' s'∧ZA v u∧D.rt v H'
def PE(X:Cx)(e:Expr)(t:TE):Prop :=
 ∀ (pins:List (Addr×Obj)) (s:Shared) (σ:St) (H:Hp) (Q:VK),Inv X pins σ H s→t σ H Q→wpAny (model X.prog X.w) X.A (eval e X.env) (EP X pins σ Q) X.xe s
def PT(X:Cx)(e:Expr)(t:TT):Prop :=
 ∀ (pins:List (Addr×Obj)) (s:Shared) (σ:St) (H:Hp) (Q:Bool→Hp→Prop),Inv X pins σ H s→t σ H Q→wpAny (model X.prog X.w) X.A (isTrue e X.env (eval e X.env)) (TP X pins σ Q) X.xe s
def PW(X:Cx)(e:Expr)(t:TT):Prop :=
 ∀ (whole:Sem Value) (pins:List (Addr×Obj)) (s:Shared) (σ:St) (H:Hp) (Q:Bool→Hp→Prop),Inv X pins σ H s→t σ H Q→wpAny (model X.prog X.w) X.A (isTrue e X.env whole) (TP X pins σ Q) X.xe s
theorem PW.pt{X:Cx}{e:Expr}{t:TT}(h:PW X e t):PT X e t:=h _
def PA(X:Cx)(es:List Expr)(t:TA):Prop :=
 ∀ (pos:Pos) (pins:List (Addr×Obj)) (s:Shared) (σ:St) (H:Hp) (Q:List V→Hp→Prop),Inv X pins σ H s→t σ H Q→wpAny (model X.prog X.w) X.A (spliced (backTo pos (starEach es X.env))) (AP X pins σ Q) X.xe s
def PS(X:Cx)(st:Stmt)(t:TS):Prop :=
 ∀ (pins:List (Addr×Obj)) (s:Shared) (σ:St) (H:Hp) (D:ZbG),Inv X pins σ H s→t D σ H→wpAny (model X.prog X.w) X.A (exec st X.env) (SP X pins D) X.xe s
def PSs(X:Cx)(st:List Stmt)(t:TS):Prop :=
 ∀ (pins:List (Addr×Obj)) (s:Shared) (σ:St) (H:Hp) (D:ZbG),Inv X pins σ H s→t D σ H→wpAny (model X.prog X.w) X.A (execs st X.env) (SP X pins D) X.xe s
theorem thn{α:Type}{t:Sem α}{Q Q':α→Shared→Prop}{M:Model}{A:Around}{E:Value→Shared→Prop}{s:Shared}(h:wpAny M A t Q E s)(hQ:∀a s,Q a s→Q' a s):wpAny M A t Q' E s:=wpAny_mono h hQ fun _ _ x=>x
section
variable {X:Cx}
def ZmR(i:Nat):TE:=fun σ H Q=>∃v,σ[i]? = some (some v)∧Q v H
def tC(v:V):TE:=fun _ H Q=>Q v H
theorem Zih{i:Nat}{x:Str}{pos:Pos}(hN:X.N[i]? = some x)(hv:Vis X.env.scope x)(hd:(x == ("__debug__" : Str))=false:=by decide)(hcd:(x == ("__classdict__" : Str))=false:=by decide):PE X (.Name x pos) (ZmR i):=by
 intro pins s σ H Q I h
 obtain⟨v,e,h⟩:=h
 obtain⟨m,hn,hl⟩:=I.loc
 obtain⟨u,r,l⟩:=hl i x v hN e hv
 have fin:EP X pins σ Q u s:=⟨v,H,I,r,h⟩
 rcases l with⟨hk,hm⟩|⟨hk,c,hc,hcell⟩
 ·exact wpAny_Name (wpAny_loadName_local I.ok.kind hk hn hm fin) hd
 ·rcases hk with hk|hk
  ·exact wpAny_Name (wpAny_loadName_cell I.ok.kind hk hc hcell fin) hd
  ·exact wpAny_Name (wpAny_loadName_free I.ok.kind hk hc hcell fin hcd) hd
theorem Zh{i j pos}:PE X (.Constant (.int i) j pos) (tC (.int i)):=fun _ _ _ H _ I h=>wpAny_Constant_int ⟨.int i,H,I.tok _,⟨_,rfl⟩,h⟩
theorem ZfD{b j pos}:PE X (.Constant (.bool b) j pos) (tC (.bl b)):=fun _ _ _ H _ I h=>Constant_bool ⟨.bl b,H,I,rfl,h⟩
theorem Zaj{j pos}:PE X (.Constant .none j pos) (tC .non):=fun _ _ _ H _ I h=>Constant_none ⟨.non,H,I,rfl,h⟩
theorem Za2{x j pos}:PE X (.Constant (.str x) j pos) (tC (.str x)):=fun _ _ _ H _ I h=>Calls.Constant_str ⟨.str x,H,I.tok _,⟨_,rfl⟩,h⟩
def Gl(X:Cx)(x:Str):Prop:=X.env.kindOf x=some .globalImplicit
theorem ZiS{E:Value→Shared→Prop}{pins:List (Addr×Obj)}{s:Shared}{σ:St}{H:Hp}{x:Str}{u:Value}{pos:Pos}{Q:Value→Shared→Prop}(I:Inv X pins σ H s)(hg:Gl X x)(hm:X.mg x=some u)(h:Q u s)
  (hd:(x == ("__debug__" : Str))=false:=by decide):wpAny (model X.prog X.w) X.A (eval (.Name x pos) X.env) Q E s :=
 Calls.Name_function_global I.ok.kind hg (Calls.loadGlobal_global (by rw[I.ok.glob];exact I.mod.glob.keeps I.bk) hm h) hd
theorem Zdz{E:Value→Shared→Prop}{pins:List (Addr×Obj)}{s:Shared}{σ:St}{H:Hp}{x:Str}{u:Value}{pos:Pos}{Q:Value→Shared→Prop}(I:Inv X pins σ H s)(hg:Gl X x)(hm:X.mg x=none)(hv:bootBuiltins x=some u)(h:Q u s)
  (hn:x ≠ "__name__":=by decide) (hd:(x == ("__debug__" : Str))=false:=by decide):wpAny (model X.prog X.w) X.A (eval (.Name x pos) X.env) Q E s:=by
 obtain⟨mb,h1,h2⟩:=I.mod.blt
 exact Calls.Name_function_global I.ok.kind hg (Calls.loadGlobal_builtin (by rw[I.ok.glob];exact I.mod.glob.keeps I.bk) hm (by rw[I.ok.blt];exact h1.keeps I.bk) ((h2 x hn).trans hv) h) hd
theorem Znu{x:Str}{v:V}{u:Value}{pos:Pos}(hg:Gl X x)(hm:X.mg x=none)(hv:bootBuiltins x=some u)(r:ZA v u)(hn:x ≠ "__name__":=by decide)(hd:(x == ("__debug__" : Str))=false:=by decide):PE X (.Name x pos) (tC v) :=
 fun _ _ _ H _ I h=>Zdz I hg hm hv ⟨v,H,I,r,h⟩ hn hd
variable {a b:Expr} {ta tb:TE} {pos:Pos}
def tB(t:TE):TT:=fun σ H Q=>t σ H fun x H1=>∃c,x=.bl c∧Q c H1
theorem ZeY{e:Expr}{t:TE}(h:PE X e t)(he:∀whole,isTrue e X.env whole=(do let v ← whole;standAt e.pos;holding [v] (truthy v)):=by intro _;rfl):PT X e (tB t):=by
 intro pins s σ H Q I hw
 refine isTrue_plain (thn (h pins s σ H _ I hw) ?_) (he _)
 rintro v s1 ⟨x,H1,I1,r1,q1⟩
 obtain⟨d,rfl,q⟩:=q1
 cases r1
 exact wpAny_truthy_bool ⟨H1,I1,q⟩
variable {tA tB':TT} {rest:List Expr}
def ZpV(t u:TT):TT:=fun σ H Q=>t σ H fun c H1=>if c=true then u σ H1 Q else Q false H1
def tOr(t u:TT):TT:=fun σ H Q=>t σ H fun c H1=>if c=true then Q true H1 else u σ H1 Q
def ZpS(t:TT):TT:=fun σ H Q=>t σ H fun c H1=>Q (!c) H1
theorem ZdQ(ha:PT X a tA):PW X (.BoolOp .And [a] pos) tA:=by
 intro wh pins s σ H Q I h
 refine isTrue_and (thn (ha pins s σ H Q I h) fun c s1 e=>?_)
 cases c with
 | true=>exact isTrue_and_nil e
 | false=>exact e
theorem Zgy(ha:PT X a tA):PW X (.BoolOp .Or [a] pos) tA:=by
 intro wh pins s σ H Q I h
 refine isTrue_or (thn (ha pins s σ H Q I h) fun c s1 e=>?_)
 cases c with
 | false=>exact isTrue_or_nil e
 | true=>exact e
theorem Zem(ha:PT X a tA)(hb:PW X (.BoolOp .And (b::rest) pos) tB'):PW X (.BoolOp .And (a::b::rest) pos) (ZpV tA tB'):=by
 intro wh pins s σ H Q I h
 refine isTrue_and (thn (ha pins s σ H _ I h) ?_)
 rintro c s1 ⟨H1,I1,q1⟩
 cases c with
 | true=>exact hb wh pins s1 σ H1 Q I1 q1
 | false=>exact⟨H1,I1,q1⟩
theorem ZhX(ha:PT X a tA)(hb:PW X (.BoolOp .Or (b::rest) pos) tB'):PW X (.BoolOp .Or (a::b::rest) pos) (tOr tA tB'):=by
 intro wh pins s σ H Q I h
 refine isTrue_or (thn (ha pins s σ H _ I h) ?_)
 rintro c s1 ⟨H1,I1,q1⟩
 cases c with
 | true=>exact⟨H1,I1,q1⟩
 | false=>exact hb wh pins s1 σ H1 Q I1 q1
theorem ZlH(ha:PT X a tA):PT X (.UnaryOp .Not a pos) (ZpS tA):=by
 intro pins s σ H Q I h
 exact isTrue_not (ha pins s σ H (fun c H1=>Q (!c) H1) I h)
def Zpg(ta tb:TE):TE:=fun σ H Q=>ta σ H fun x H1=>∃c,x=.bl c∧if c=true then tb σ H1 Q else Q (.bl false) H1
def ZpH(ta:TE):TE:=fun σ H Q=>ta σ H fun x H1=>∃c,x=.bl c∧Q (.bl (!c)) H1
theorem ZgO{op}{t:TE}(h:PE X a t):PE X (.BoolOp op [a] pos) t:=fun pins s σ H Q I hw=>BoolOp_one (h pins s σ H Q I hw)
theorem Ze8(ha:PE X a ta)(hb:PE X (.BoolOp .And (b::rest) pos) tb):PE X (.BoolOp .And (a::b::rest) pos) (Zpg ta tb):=by
 intro pins s σ H Q I h
 refine BoolOp_and (thn (ha pins s σ H _ I h) ?_)
 rintro v s1 ⟨x,H1,I1,r1,q1⟩
 obtain⟨c,rfl,q1⟩:=q1
 cases r1
 refine wpAny_truthy_bool ?_
 cases c with
 | true=>exact hb pins s1 σ H1 Q I1 q1
 | false=>exact⟨.bl false,H1,I1,rfl,q1⟩
theorem ZnZ(ha:PE X a ta):PE X (.UnaryOp .Not a pos) (ZpH ta):=by
 intro pins s σ H Q I h
 refine UnaryOp_ (thn (ha pins s σ H _ I h) ?_)
 rintro v s1 ⟨x,H1,I1,r1,q1⟩
 obtain⟨c,rfl,q1⟩:=q1
 cases r1
 exact not_of (wpAny_truthy_bool ⟨.bl (!c),H1,I1,rfl,q1⟩)
def tIf(t:TT)(ta tb:TE):TE:=fun σ H Q=>t σ H fun c H1=>if c=true then ta σ H1 Q else tb σ H1 Q
theorem Zbe{c:Expr}(hc:PT X c tA)(ha:PE X a ta)(hb:PE X b tb):PE X (.IfExp c a b pos) (tIf tA ta tb):=by
 intro pins s σ H Q I h
 refine wpAny_IfExp (thn (hc pins s σ H _ I h) ?_)
 rintro d s1 ⟨H1,I1,q1⟩
 cases d with
 | true=>exact ha pins s1 σ H1 Q I1 q1
 | false=>exact hb pins s1 σ H1 Q I1 q1
end
def SqL(K:PySem.W.Frag)(H:Hp)(a:Addr)(xs:List V):Prop :=
 Rd H a (.lst xs) ∨
  ∃ (o:Obj) (its:Array Value) (n:Nat),K.lookup a=some o∧o.cls=.type "list"∧o.dict=none∧o.data=.seq its n∧its.size≤sizeLine∧Zy xs its.toList
def SqT(K:PySem.W.Frag)(H:Hp)(a:Addr)(xs:List V):Prop :=
 Rd H a (.tup xs) ∨
  ∃ (o:Obj) (its:Array Value) (n:Nat),K.lookup a=some o∧o.cls=.type "tuple"∧o.data=.seq its n∧its.size≤sizeLine∧Zy xs its.toList
def Zqg:Value→Option V
 | .none=>some .non
 | .bool b=>some (.bl b)
 | .int i _=>some (.int i)
 | .str x _=>some (.str x)
 | .bytes b _=>some (.byt b)
 | .float b _=>some (.flt b)
 | .ref a=>some (.ref a)
 | .type n=>some (.ty n)
 | _=>none
theorem ZA.abs{x:V}{u:Value}(r:ZA x u):Zqg u=some x:=by
 cases x with
 | non=>cases r;rfl
 | bl _=>cases r;rfl
 | int _=>obtain⟨t,rfl⟩:=r;rfl
 | str _=>obtain⟨t,rfl⟩:=r;rfl
 | byt _=>obtain⟨t,rfl⟩:=r;rfl
 | flt _=>obtain⟨t,rfl⟩:=r;rfl
 | ref _=>cases r;rfl
 | ty _=>cases r;rfl
theorem ZA.inj{x y:V}{u:Value}(r:ZA x u)(q:ZA y u):x=y:=Qj (r.abs.symm.trans q.abs)
theorem Zy.inj:∀ {xs ys:List V} {us:List Value},Zy xs us→Zy ys us→xs=ys
 | _,_,_,.nil,.nil=>rfl
 | _,_,_,.cons r t,.cons r' t'=>by rw[r.inj r',Zy.inj t t']
section
variable {X:Cx} {pins:List (Addr×Obj)} {σ:St} {H:Hp} {s:Shared} {a:Addr} {xs ys:List V}
theorem SqL.of{K:PySem.W.Frag}(h:H a=some (.lst xs)):SqL K H a xs:=.inl (.inl h)
theorem SqT.of{K:PySem.W.Frag}(h:H a=some (.tup xs)):SqT K H a xs:=.inl (.inl h)
theorem Inv.list(I:Inv X pins σ H s)(h:SqL X.K H a xs):∃its:List Value,Zy xs its∧PlainL s.heap a its.toArray∧xs.length≤sizeLine:=by
 rcases h with h|⟨o,its,n,hk,hc,hd,hs,hz,r⟩
 ·obtain⟨z,its,n,r,e⟩:=h.ok I.hok
  exact⟨its,r,⟨_,n,e,rfl,rfl,rfl⟩,z⟩
 ·refine⟨its.toList,r,⟨o,n,I.kIn a o hk,hc,hd,by simpa using hs⟩,?_⟩
  have e:=r.length
  simp only[Array.length_toList]at e
  omega
theorem Inv.tuple(I:Inv X pins σ H s)(h:SqT X.K H a xs):∃its:List Value,Zy xs its∧IsTup s.heap a its.toArray∧xs.length≤sizeLine:=by
 rcases h with h|⟨o,its,n,hk,hc,hs,hz,r⟩
 ·obtain⟨z,its,r,p⟩:=h.ok I.hok
  exact⟨its,r,p,z⟩
 ·refine⟨its.toList,r,⟨o,I.kIn a o hk,hc,n,by simpa using hs⟩,?_⟩
  have e:=r.length
  simp only[Array.length_toList]at e
  omega
theorem Inv.list_inj(I:Inv X pins σ H s)(h:SqL X.K H a xs)(h':SqL X.K H a ys):xs=ys:=by
 obtain⟨its,r,⟨o,n,e,_,_,d⟩,_⟩:=I.list h
 obtain⟨its',r',⟨o',n',e',_,_,d'⟩,_⟩:=I.list h'
 rw[e]at e';cases e'
 rw[d]at d'
 injection d' with d1 _
 have:its=its':=by simpa using congrArg Array.toList d1
 subst this
 exact r.inj r'
theorem Inv.tuple_inj(I:Inv X pins σ H s)(h:SqT X.K H a xs)(h':SqT X.K H a ys):xs=ys:=by
 obtain⟨its,r,⟨o,e,_,n,d⟩,_⟩:=I.tuple h
 obtain⟨its',r',⟨o',e',_,n',d'⟩,_⟩:=I.tuple h'
 rw[e]at e';cases e'
 rw[d]at d'
 injection d' with d1 _
 have:its=its':=by simpa using congrArg Array.toList d1
 subst this
 exact r.inj r'
end
abbrev Cx.wish(X:Cx)(E:Value→Shared→Prop):Cx:={ X with xe:=E }
abbrev Cx.nox(X:Cx):Cx:=X.wish fun _ _=>False
theorem Cx.Ok.wish{X:Cx}(ok:X.Ok)(E:Value→Shared→Prop):(X.wish E).Ok :=
 ⟨ok.mod,ok.kind,ok.glob,ok.blt,ok.above,ok.inj,ok.has,ok.cab,ok.hd,ok.frames,ok.stk,ok.exf,ok.bs,ok.bsz,ok.noex,ok.exfs,ok.funs,ok.frf⟩
theorem Cx.Ok.unwish{X:Cx}{E:Value→Shared→Prop}(ok:(X.wish E).Ok):X.Ok :=
 ⟨ok.mod,ok.kind,ok.glob,ok.blt,ok.above,ok.inj,ok.has,ok.cab,ok.hd,ok.frames,ok.stk,ok.exf,ok.bs,ok.bsz,ok.noex,ok.exfs,ok.funs,ok.frf⟩
section
variable {X:Cx} {pins:List (Addr×Obj)} {σ:St} {H:Hp} {s:Shared} {E:Value→Shared→Prop}
theorem Inv.wish(I:Inv X pins σ H s)(E:Value→Shared→Prop):Inv (X.wish E) pins σ H s:=⟨I.ok.wish E,I.os,I.bare,I.base,I.loc,I.cell,I.free,I.freeC,I.pin,I.hok,I.len⟩
theorem Inv.unwish(I:Inv (X.wish E) pins σ H s):Inv X pins σ H s:=⟨I.ok.unwish,I.os,I.bare,I.base,I.loc,I.cell,I.free,I.freeC,I.pin,I.hok,I.len⟩
theorem SP.unwish{D:ZbG}{f:Flow}{s':Shared}(h:SP (X.wish E) pins D f s'):SP X pins D f s':=by
 cases f with
 | next=>obtain⟨σ',H',I,q⟩:=h;exact⟨σ',H',I.unwish,q⟩
 | brk=>obtain⟨σ',H',I,q⟩:=h;exact⟨σ',H',I.unwish,q⟩
 | cont=>obtain⟨σ',H',I,q⟩:=h;exact⟨σ',H',I.unwish,q⟩
 | ret u=>obtain⟨v,σ',H',I,r,q⟩:=h;exact⟨v,σ',H',I.unwish,r,q⟩
theorem PSs.nox{st:List Stmt}{t:TS}(h:PSs X.nox st t):PSs X st t:=fun pins s σ H D I hw =>
 wpAny_mono (h pins s σ H D (I.wish _) hw) (fun _ _ q=>q.unwish) fun _ _ z=>False.elim z
end
section
variable {X:Cx} {st:Stmt} {rest:List Stmt} {t u:TS} {e:Expr} {te:TE} {pos:Pos}
def ZpG:TS:=fun D σ H=>D.nx σ H
def ZpP(t u:TS):TS:=fun D σ H=>t { D with nx:=u D } σ H
theorem ZQ:PSs X [] ZpG:=fun _ _ σ H _ I h=>wpAny_execs_nil ⟨σ,H,I,h⟩
theorem Zg(h1:PS X st t)(h2:PSs X rest u):PSs X (st::rest) (ZpP t u):=by
 intro pins s σ H D I h
 refine wpAny_execs_cons (thn (h1 pins s σ H { D with nx:=u D } I h) fun f s1 q=>?_)
 cases f with
 | next =>
  obtain⟨σ',H',I',q⟩:=q
  exact h2 pins s1 σ' H' D I' q
 | ret v=>exact q
 | brk=>exact q
 | cont=>exact q
theorem Zj(h1:PS X st t):PSs X [st] t:=by
 intro pins s σ H D I h
 refine wpAny_execs_cons (thn (h1 pins s σ H D I h) fun f s1 q=>?_)
 cases f with
 | next=>exact wpAny_execs_nil q
 | ret v=>exact q
 | brk=>exact q
 | cont=>exact q
theorem Inv.quiet{pins:List (Addr×Obj)}{σ:St}{H:Hp}{s:Shared}(I:Inv X pins σ H s):interactive X.env=false:=by simp[interactive,I.ok.kind]
def Zpq(te:TE):TS:=fun D σ H=>te σ H fun _ H1=>D.nx σ H1
theorem Za0(he:PE X e te)(hs:swapsWith e none pos.line X.env=pure false:=by rfl):PS X (.Expr e pos) (Zpq te):=by
 intro pins s σ H D I h
 exact wpAny_Expr_any (thn (he pins s σ H _ I h) fun v s1 ⟨x,H1,I1,r1,q1⟩=>⟨σ,H1,I1,q1⟩) I.quiet hs
def Zp4(te:TE):TS:=fun D σ H=>te σ H D.rt
theorem Zr(he:PE X e te):PS X (.Return (some e) pos) (Zp4 te):=by
 intro pins s σ H D I h
 exact wpAny_Return_some (thn (he pins s σ H _ I h) fun v s1 ⟨x,H1,I1,r1,q1⟩=>⟨x,σ,H1,I1,r1,q1⟩)
def ZpW(c:TT)(t u:TS):TS:=fun D σ H=>c σ H fun b H1=>if b=true then t D σ H1 else u D σ H1
theorem Zaw{c:Expr}{a b:List Stmt}{tc:TT}(hc:PT X c tc)(ha:PSs X a t)(hb:PSs X b u):PS X (.If c a b pos) (ZpW tc t u):=by
 intro pins s σ H D I h
 refine wpAny_If (thn (hc pins s σ H _ I h) ?_)
 rintro d s1 ⟨H1,I1,q1⟩
 cases d with
 | true=>exact ha pins s1 σ H1 D I1 q1
 | false=>exact hb pins s1 σ H1 D I1 q1
end
abbrev TG:=V→St→Hp→(St→Hp→Prop)→Prop
abbrev TGs:=List V→St→Hp→(St→Hp→Prop)→Prop
def PG(X:Cx)(target:Expr)(t:TG):Prop :=
 ∀ (pins:List (Addr×Obj)) (s:Shared) (σ:St) (H:Hp) (v:V) (u:Value) (Q:St→Hp→Prop),Inv X pins σ H s→ZA v u→t v σ H Q →
  wpAny (model X.prog X.w) X.A (assign target X.env u) (fun _ s'=>∃σ' H',Inv X pins σ' H' s'∧Q σ' H') X.xe s
def PGs(X:Cx)(ts:List Expr)(t:TGs):Prop :=
 ∀ (pins:List (Addr×Obj)) (s:Shared) (σ:St) (H:Hp) (vs:List V) (us:List Value) (Q:St→Hp→Prop),Inv X pins σ H s→Zy vs us→t vs σ H Q →
  wpAny (model X.prog X.w) X.A (assignInOrder ((assignEach ts X.env).map (·.2)) us) (fun _ s'=>∃σ' H',Inv X pins σ' H' s'∧Q σ' H') X.xe s
abbrev Znf:=V→V→V→Hp→(Hp→Prop)→Prop
def ZoC(X:Cx)(t:Znf):Prop :=
 ∀ (pins:List (Addr×Obj)) (s:Shared) (σ:St) (H:Hp) (o i v:V) (ov iv u:Value) (Q:Hp→Prop),Inv X pins σ H s→ZA o ov→ZA i iv→ZA v u→t o i v H Q →
  wpAny (model X.prog X.w) X.A (setItem ov iv u) (fun _ s'=>∃H',Inv X pins σ H' s'∧Q H') X.xe s
abbrev TIp:=V→V→Hp→VK→Prop
def PIp(X:Cx)(op:Operator)(t:TIp):Prop :=
 ∀ (pins:List (Addr×Obj)) (s:Shared) (σ:St) (H:Hp) (x y:V) (v u:Value) (Q:VK),Inv X pins σ H s→ZA x v→ZA y u→t x y H Q →
  wpAny (model X.prog X.w) X.A (inplaceOp op v u) (EP X pins σ Q) X.xe s
section
variable {X:Cx} {pos:Pos}
def Zju(i:Nat):TG:=fun v σ H Q=>Q (σ.set i (some v)) H
theorem ZP{i:Nat}{x:Str}(hN:X.N.Nodup)(hi:X.N[i]? = some x)(hx:Loc X.env.scope x)(hf:X.fn x=true∨X.env.scope.names.lookup x=some .local:=by first|exact .inl rfl|exact .inr rfl|assumption):PG X (.Name x pos) (Zju i):=by
 intro pins s σ H v u Q I r h
 exact wpAny_assign_Name (Zc3 I hN hi hx r (fun s' I'=>⟨_,H,I',h⟩) hf)
def Zp5:TGs:=fun vs σ H Q=>vs=[]∧Q σ H
def ZoY(t:TG)(u:TGs):TGs:=fun vs σ H Q=>∃v r,vs=v::r∧t v σ H fun σ' H'=>u r σ' H' Q
theorem ZaT:PGs X [] Zp5:=by
 intro pins s σ H vs us Q I r h
 obtain⟨e,h⟩:=h
 subst e
 cases r
 exact assignInOrder_nil ⟨σ,H,I,h⟩
theorem Zw{e:Expr}{es:List Expr}{t:TG}{u:TGs}(h1:PG X e t)(h2:PGs X es u)
  (hs:(assignEach (e::es) X.env).map (·.2)=assign e X.env::(assignEach es X.env).map (·.2):=by rfl):PGs X (e::es) (ZoY t u):=by
 intro pins s σ H vs us Q I r h
 obtain⟨v,vr,e1,h⟩:=h
 subst e1
 cases r with
 | cons r rr =>
  rw[hs]
  refine assignInOrder_cons (thn (h1 pins s σ H _ _ _ I r h) ?_)
  rintro _ s1 ⟨σ1,H1,I1,q1⟩
  exact h2 pins s1 σ1 H1 _ _ Q I1 rr q1
def Zpb(K:PySem.W.Frag)(n:Nat)(t:TGs):TG:=fun v σ H Q=>∃a xs,v=.ref a∧SqT K H a xs∧xs.length=n∧t xs σ H Q
theorem ZnQ{es:List Expr}{k:Nat}{t:TGs}{n:Nat}(hc:X.calm=true)(h:PGs X es t)
  (hn:(assignEach es X.env).length=n:=by rfl) (hst:(assignEach es X.env).findIdx? (·.1)=none:=by rfl):PG X (.Tuple es k pos) (Zpb X.K n t):=by
 intro pins s σ H v u Q I r hw
 obtain⟨a,xs,e1,hq,hl,hw⟩:=hw
 subst e1
 cases r
 obtain⟨its,rv,ht,hz⟩:=I.tuple hq
 refine assign_Tuple_tuple (I.ok.hd hc) ht (by simp[hn,← hl,rv.length]) hst fun h' hx=>?_
 have I1:Inv X pins σ H { s with heap:=h' }:=I.kept (t':=s.toks) fun b o e=>hx b o (QB (Qo e)) e
 exact h pins _ σ H xs _ Q I1 (by simpa using rv) hw
def Zqc(to ti:TE)(t:Znf):TG:=fun v σ H Q=>to σ H fun o H1=>ti σ H1 fun i H2=>t o i v H2 fun H3=>Q σ H3
theorem ZdA{o i:Expr}{to ti:TE}{t:Znf}(ho:PE X o to)(hi:PE X i ti)(hs:ZoC X t)
  (ha:∀v,assign (.Subscript o i pos) X.env v=(do
   let ov ← holding [v] (eval o X.env)
   let iv ← holding [v,ov] (eval i X.env)
   standAt pos
   holding [v,ov,iv] (setItem ov iv v)
   release [v,ov,iv] []):=by intro _;rfl):PG X (.Subscript o i pos) (Zqc to ti t):=by
 intro pins s σ H v u Q I r h
 rw[ha]
 refine wpAny_bind (wpAny_holding (thn (ho pins s σ H _ I h) ?_))
 rintro ov s1 ⟨x,H1,I1,r1,q1⟩
 refine wpAny_bind (wpAny_holding (thn (hi pins s1 σ H1 _ I1 q1) ?_))
 rintro iv s2 ⟨y,H2,I2,r2,q2⟩
 refine wpAny_bind (wpAny_standAt (wpAny_bind (wpAny_holding (thn (hs pins s2 σ H2 x y v ov iv u _ I2 r1 r2 r q2) ?_))))
 rintro _ s3 ⟨H3,I3,q3⟩
 exact wpAny_release ⟨σ,H3,I3,q3⟩
def Zok(te:TE)(g:TG):TS:=fun D σ H=>te σ H fun x H1=>g x σ H1 D.nx
theorem Zbt{tg e:Expr}{te:TE}{g:TG}(he:PE X e te)(hg:PG X tg g)(hs:swapsWithSole [tg] e pos.line X.env=pure false:=by rfl)(hw:swappedStores [tg] e X.env=pure none:=by rfl)
  (h1:(assignEach [tg] X.env).map (·.2)=[assign tg X.env]:=by rfl):PS X (.Assign [tg] e pos) (Zok te g):=by
 intro pins s σ H D I h
 refine wpAny_Assign_stores (thn (he pins s σ H _ I h) ?_) hs hw
 rintro v s1 ⟨x,H1,I1,r1,q1⟩
 rw[h1]
 exact thn (hg pins s1 σ H1 x v _ I1 r1 q1) fun _ s2 q=>q
theorem Zv{i:Nat}{x:Str}{e:Expr}{te:TE}{pos':Pos}(hN:X.N.Nodup)(hi:X.N[i]? = some x)(hx:Loc X.env.scope x)(he:PE X e te)(hs:swapsWith e (some (.Name x pos')) pos.line X.env=pure false:=by rfl)(hf:X.fn x=true∨X.env.scope.names.lookup x=some .local:=by first|exact .inl rfl|exact .inr rfl|assumption) :
  PS X (.Assign [.Name x pos'] e pos) (Zok te (Zju i)):=by
 intro pins s σ H D I h
 refine wpAny_Assign_Name (thn (he pins s σ H _ I h) ?_) hs
 rintro v s1 ⟨y,H1,I1,r1,q1⟩
 exact Zc3 I1 hN hi hx r1 (fun s2 I2=>⟨_,H1,I2,q1⟩) hf
def Zp7(i j:Nat)(ta:TA):TS:=fun D σ H=>ta σ H fun vs H1=>∃v w,vs=[v,w]∧D.nx ((σ.set i (some v)).set j (some w)) H1
theorem ZnS{i j:Nat}{x y:Str}{a b:Expr}{ta:TA}{px py pt:Pos}{kt k2 pt2}(hc:X.calm=true)(hN:X.N.Nodup)(hi:X.N[i]? = some x)(hj:X.N[j]? = some y)(hij:i≠j)
  (hx:X.env.scope.names.lookup x=some .local) (hy:X.env.scope.names.lookup y=some .local) (ha:PA X [a,b] ta)
  (hw:swappedStores [.Tuple [.Name x px,.Name y py] kt pt] (.Tuple [a,b] k2 pt2) X.env=pure (some [x,y]))
  (hs:swapsWithSole [.Tuple [.Name x px,.Name y py] kt pt] (.Tuple [a,b] k2 pt2) pos.line X.env=pure false:=by rfl) :
  PS X (.Assign [.Tuple [.Name x px,.Name y py] kt pt] (.Tuple [a,b] k2 pt2) pos) (Zp7 i j ta):=by
 intro pins s σ H D I h
 rw[exec_Assign_arm]
 refine wpAny_bind (wpAny_standAt ?_)
 rw[hs]
 refine wpAny_bind (wpAny_pure ?_)
 rw[if_neg (by decide)]
 refine wpAny_bind (Tuple_ (thn (ha _ pins s σ H _ I h) ?_))
 rintro us s1 ⟨vs,H1,I1,r1,q1⟩
 obtain⟨v,w,e1,q1⟩:=q1
 subst e1
 obtain⟨u1,u2,rfl,rv,rw'⟩:∃u1 u2,us=[u1,u2]∧ZA v u1∧ZA w u2:=by
  cases r1 with
  | cons p q =>
   cases q with
   | cons p' q' =>
    cases q'
    exact⟨_,_,rfl,p,p'⟩
 refine wpAny_newObj_type ?_ (by show 2≤sizeLine;decide)
 have I2:Inv X pins σ H1 { s1 with heap:=s1.heap.push { cls:=.type "tuple",data:=.seq [u1,u2].toArray } }:=I1.kept (t':=s1.toks) fun b o e=>Qc _ e
 rw[hw]
 refine wpAny_bind (wpAny_pure ?_)
 show wpAny (model X.prog X.w) X.A (do rule "assign.swapped-stores";let items ← unpackItems (.ref s1.heap.objs.size) 2 none;assignInOrder [fun v=>bindName X.env y v,fun v=>bindName X.env x v] items.reverse;pure Flow.next) _ _ _
 refine wpAny_bind (wpAny_rule (wpAny_bind (unpackItems_tuple (items:=#[u1,u2]) (I.ok.hd hc) (IsTup.new s1.heap _) fun h' hx'=>?_)))
 have I3:=I2.kept (h':=h') (t':=s1.toks) fun b o e=>hx' b o (QB (Qo e)) e
 show wpAny _ _ (assignInOrder [fun v=>bindName X.env y v,fun v=>bindName X.env x v] [u2,u1] >>= fun _=>pure Flow.next) _ _ _
 refine wpAny_bind (assignInOrder_cons (wpAny_bindName (Zc3 I3 hN hj (.inl hy) rw' (fun s2 I4=>?_) (.inr hy))))
 refine assignInOrder_cons (wpAny_bindName (Zc3 I4 hN hi (.inl hx) rv (fun s3 I5=>assignInOrder_nil (wpAny_pure ?_)) (.inr hx)))
 rw[List.set_comm _ _ (Ne.symm hij)]at I5
 exact⟨_,H1,I5,q1⟩
def Zqa(i:Nat)(te:TE)(ti:TIp):TS:=fun D σ H=>∃x,σ[i]? = some (some x)∧te σ H fun y H1=>ti x y H1 fun z H2=>D.nx (σ.set i (some z)) H2
theorem Zod{i:Nat}{x:Str}{e:Expr}{te:TE}{op:Operator}{ti:TIp}{pos':Pos}(hN:X.N.Nodup)(hi:X.N[i]? = some x)(hx:Loc X.env.scope x)(he:PE X e te)(ho:PIp X op ti)(hf:X.fn x=true∨X.env.scope.names.lookup x=some .local:=by first|exact .inl rfl|exact .inr rfl|assumption) :
  PS X (.AugAssign (.Name x pos') op e pos) (Zqa i te ti):=by
 intro pins s σ H D I h
 obtain⟨v,e1,h⟩:=h
 obtain⟨m,hn,hl⟩:=I.loc
 have vis:Vis X.env.scope x:=by rcases hx with k|k;exact .inl k;exact .inr (.inl k)
 obtain⟨u,r,l⟩:=hl i x v hi e1 vis
 refine wpAny_AugAssign_Name ?_
 have go:wpAny (model X.prog X.w) X.A (eval e X.env) (fun w s₂=>wpAny (model X.prog X.w) X.A (inplaceOp op u w) (fun r s₃=>wpAny (model X.prog X.w) X.A (storeName X.env x r) (fun _=>SP X pins D .next) X.xe s₃) X.xe s₂) X.xe s:=by
  refine thn (he pins s σ H _ I h) ?_
  rintro w s1 ⟨y,H1,I1,r1,q1⟩
  refine thn (ho pins s1 σ H1 v y u w _ I1 r r1 q1) ?_
  rintro z s2 ⟨zv,H2,I2,r2,q2⟩
  exact Zc3 I2 hN hi hx r2 (fun s3 I3=>⟨_,H2,I3,q2⟩) hf
 rcases l with⟨hk,hm⟩|⟨hk,c,hc,hcell⟩
 ·exact wpAny_loadName_local I.ok.kind hk hn hm go
 ·rcases hk with hk|hk
  ·exact wpAny_loadName_cell I.ok.kind hk hc hcell go
  ·rcases hx with k|k
   ·have:X.env.scope.names.lookup x=some .free:=hk
    rw[k]at this;cases this
   ·have:X.env.scope.names.lookup x=some .free:=hk
    rw[k]at this;cases this
def ipI(f:Int→Int→Int):TIp:=fun x y H Q=>∃i j,x=.int i∧y=.int j∧Q (.int (f i j)) H
theorem ZnU:PIp X .Add (ipI fun i j=>i+j):=by
 intro pins s σ H x y v u Q I r1 r2 h
 obtain⟨i,j,e1,e2,q⟩:=h
 subst e1;subst e2
 obtain⟨t,rfl⟩:=r1
 obtain⟨t',rfl⟩:=r2
 exact iadd_int ⟨.int _,H,I.tok _,⟨_,rfl⟩,q⟩
end
section
variable {X:Cx} {pos:Pos}
def Zom(c:TT)(tb:TS):TS:=fun D σ H=>∃W:Nat→St→Hp→Prop,(∃m,W m σ H)∧∀m σ H,W m σ H →
 c σ H fun b H1=>if b=true then ∃N:St→Hp→Prop,(∀σ' H',N σ' H'→∃m',m'<m∧W m' σ' H')∧tb { D with nx:=N,ct:=N,bk:=D.nx } σ H1 else D.nx σ H1
theorem ZfC{c:Expr}{body:List Stmt}{tc:TT}{tb:TS}(hp:PassesOwn (model X.prog X.w) X.A X.env X.xe)(hc:PT X c tc)(hb:PSs X body tb):PS X (.While c body [] pos) (Zom tc tb):=by
 intro pins s σ H D I h
 obtain⟨W,⟨m0,w0⟩,turn⟩:=h
 refine wpAny_While (codeAny_whileLoop (fun n s'=>∃σ' H',Inv X pins σ' H' s'∧W n σ' H') ?_ m0 ⟨σ,H,I,w0⟩)
 rintro n s1 ⟨σ1,H1,I1,w1⟩
 refine wpAny_passesOwn hp (thn (hc pins s1 σ1 H1 _ I1 (turn n σ1 H1 w1)) ?_)
 rintro b s2 ⟨H2,I2,q2⟩
 cases b with
 | true =>
  obtain⟨N,hN,q2⟩:=q2
  rw[if_pos rfl]
  refine wpAny_passesOwn hp (thn (hb pins s2 σ1 H2 _ I2 q2) fun f s3 q3=>?_)
  cases f with
  | next =>
   obtain⟨σ3,H3,I3,n3⟩:=q3
   obtain⟨m',hm,w3⟩:=hN σ3 H3 n3
   exact⟨m',hm,σ3,H3,I3,w3⟩
  | cont =>
   obtain⟨σ3,H3,I3,n3⟩:=q3
   obtain⟨m',hm,w3⟩:=hN σ3 H3 n3
   exact⟨m',hm,σ3,H3,I3,w3⟩
  | brk=>exact q3
  | ret v=>exact q3
 | false =>
  rw[if_neg Qr]
  exact wpAny_execs_nil ⟨σ1,H2,I2,q2⟩
end
structure It where
 go:Nat→Hp→Prop
 yld:Nat→Hp→V→Hp→Prop
 stop:Nat→Hp→Prop
def Zdv(X:Cx)(pins:List (Addr×Obj))(H:Hp)(b:Addr):Prop :=
 H b=none∧b≠X.env.locals∧b ∉ X.fs∧(b∈X.ex∨X.s₀.heap.objs.size≤b)∧(∀x c,X.env.cells.lookup x=some c→c≠b)∧∀p∈X.pn++pins,p.1≠b
theorem Inv.fpOk{X:Cx}{pins:List (Addr×Obj)}{σ:St}{H H':Hp}{s:Shared}{b:Addr}(I:Inv X pins σ H s)(hb:s.heap.objs.size≤b)(hn:H' b=none):Zdv X pins H' b:=by
 refine⟨hn,Q4 (QA I.lt hb),I.nofs hb,.inr (QP I.sz hb),fun x c e z=>?_,fun p hp z=>?_⟩
 ·obtain⟨v,q⟩:=I.cell x c e
  exact absurd (QA q.lt (by rw[z];exact hb)) (Qac _)
 ·exact absurd (QA (Qo (I.pin p hp).1) (by rw[z];exact hb)) (Qac _)
structure Zkj (P:Program) (w:World) (K:PySem.W.Frag) (tg:Expr) (J:It) (fp:List Addr) (it:Addr) (tn:Nat→Heap→Prop):Prop where
 mem:it∈fp
 obj:∀i h,tn i h→∀b∈fp,∃o,h.get? b=some o∧∀v,o.data≠.cell v
 keep:∀i h h',tn i h→(∀b∈fp,∀o,h.get? b=some o→h'.get? b=some o)→tn i h'
 item:∀ (X:Cx),X.prog=P→X.w=w→X.K=K→X.calm=true→∀ (i:Nat) (pins:List (Addr×Obj)) (s:Shared) (σ:St) (H:Hp) (E:Value→Shared→Prop),Inv X pins σ H s→(∀b∈fp,Zdv X pins H b)→tn i s.heap→J.go i H →
  wpAny (model P w) X.A (pyNext (.ref it)) (fun r s1=>∃u,r=some u ∧
   wpAny (model P w) X.A (letOwnedTupleGo tg (.ref it) u) (fun _ s2=>∃x H',Inv X pins σ H' s2∧ZA x u∧J.yld i H x H'∧tn (i+1) s2.heap∧∀b∈fp,H' b=none) E s1) E s
 done:∀ (X:Cx),X.prog=P→X.w=w→X.K=K→X.calm=true→∀ (i:Nat) (pins:List (Addr×Obj)) (s:Shared) (σ:St) (H:Hp) (E:Value→Shared→Prop),Inv X pins σ H s→(∀b∈fp,Zdv X pins H b)→tn i s.heap→J.stop i H →
  wpAny (model P w) X.A (pyNext (.ref it)) (fun r s1=>r=none∧Inv X pins σ H s1) E s
 self:∀ (A:Around) (i:Nat) (s:Shared) (Q:Value→Shared→Prop) (E:Value→Shared→Prop),tn i s.heap→Q (.ref it) s→wpAny (model P w) A (pyIter (.ref it)) Q E s
abbrev TI:=St→Hp→(It→Hp→Prop)→Prop
def PIE(X:Cx)(pins:List (Addr×Obj))(σ:St)(tg:Expr)(R:It→Hp→Prop)(itv:Value)(s2:Shared):Prop :=
 ∃ (it:Addr) (fp:List Addr) (tn:Nat→Heap→Prop) (J:It) (H':Hp),itv=.ref it∧Inv X pins σ H' s2∧Zkj X.prog X.w X.K tg J fp it tn∧tn 0 s2.heap∧(∀b∈fp,Zdv X pins H' b)∧R J H'
def PI(X:Cx)(tg iter:Expr)(wi:TI):Prop :=
 ∀ (pins:List (Addr×Obj)) (s:Shared) (σ:St) (H:Hp) (R:It→Hp→Prop),Inv X pins σ H s→wi σ H R →
  wpAny (model X.prog X.w) X.A (eval iter X.env) (fun v s1=>wpAny (model X.prog X.w) X.A (pyIter v) (PIE X pins σ tg R) X.xe s1) X.xe s
theorem ZnG{M:Model}{A:Around}{E:Value→Shared→Prop}{s:Shared}{tg:Expr}{it:Addr}{u:Value}{o:Obj}{n:String}{vs:Array Value}{Q:Unit→Shared→Prop}(ho:s.heap.get? it=some o)(hc:o.cls=.type n)(hd:o.data=.fields vs)
  (hn:["enumerate", "zip", "dict_itemiterator", "dict_reverseitemiterator", "odict_iterator", "itertools.zip_longest", "itertools.pairwise"].contains n=false) (hQ:Q () s):wpAny M A (letOwnedTupleGo tg (.ref it) u) Q E s:=by
 unfold letOwnedTupleGo
 cases tg<;>first
  | exact wpAny_pure hQ
  | (cases u<;>first
    | exact wpAny_pure hQ
    | (refine wpAny_bind (wpAny_load ho ?_);rw[hc,hd];show wpAny M A (if (["enumerate", "zip", "dict_itemiterator", "dict_reverseitemiterator", "odict_iterator", "itertools.zip_longest", "itertools.pairwise"].contains n&&vs[0]? == some (rawInt _))=true then _ else _) Q E s;rw[if_neg (by intro h;rw[hn,Bool.false_and]at h;cases h)];exact wpAny_pure hQ))
def Itl(K:PySem.W.Frag)(a:Addr):It :=
 ⟨fun i H=>∃xs x,SqL K H a xs∧xs[i]? = some x,fun i H x H'=>H'=H∧∀xs,SqL K H a xs→xs[i]? = some x,fun i H=>∃xs,SqL K H a xs∧xs.length≤i⟩
def Itr(lo:Int)(n:Nat):It:=⟨fun i _=>i<n,fun i H x H'=>H'=H∧x=.int (lo+i),fun i _=>n≤i⟩
theorem Zke{P:Program}{w:World}{K:PySem.W.Frag}{tg:Expr}(a it:Addr):Zkj P w K tg (Itl K a) [it] it (fun i h=>h.IsListIter it a i) where
 mem:=by simp
 obj:=fun i h st b hb=>by
  have e:b=it:=by simpa using hb
  subst e
  obtain⟨o,e,c,d⟩:=st
  exact⟨o,e,fun v z=>by rw[d]at z;cases z⟩
 keep:=fun i h h' st k=>st.at fun o e=>k it (by simp) o e
 item:=by
  intro X hP hw hK hc i pins s σ H E I hf st hg
  subst hP hw hK
  obtain⟨xs,x,hq,hx⟩:=hg
  obtain⟨its,rv,p,hz⟩:=I.list hq
  obtain⟨u,hu,ru⟩:=rv.get hx
  obtain⟨f0,f1,f2,f3,f4,f5⟩:=hf it (by simp)
  refine wpAny_pyNext_list_item st p.isList (x:=u) (by simpa using hu) fun h' st' sb=>?_
  have I1:Inv X pins σ H { s with heap:=h' }:=I.turned (t':=s.toks) (fun b o hb e=>(sb.2 b hb).trans e) f0 f1 f3 f4 f5
  obtain⟨o,e,c,d⟩:=id st'
  exact⟨u,rfl,ZnG (s:={ s with heap:=h' }) e c d (by decide) ⟨x,H,I1,ru,⟨rfl,fun ys hy=>by rw[I.list_inj hy hq];exact hx⟩,st',fun b hb=>(hf b hb).1⟩⟩
 done:=by
  intro X hP hw hK hc i pins s σ H E I hf st hg
  subst hP hw hK
  obtain⟨xs,hq,hx⟩:=hg
  obtain⟨its,rv,p,hz⟩:=I.list hq
  obtain⟨f0,f1,f2,f3,f4,f5⟩:=hf it (by simp)
  have hl:=rv.length
  exact wpAny_pyNext_list_end (I.ok.hd hc) st p.isList (by simp;omega) fun h' eb=>⟨rfl,I.turned (t':=s.toks) (fun b o hb e=>eb b o hb e) f0 f1 f3 f4 f5⟩
 self:=fun _ _ _ _ _ st h=>wpAny_pyIter_listiter st h
theorem ZiK{P:Program}{w:World}{K:PySem.W.Frag}{tg:Expr}(it:Addr)(lo:Int)(n:Nat):Zkj P w K tg (Itr lo n) [it] it (fun i h=>IsRangeIter h it (lo+(i:Nat)*1) ((n:Int)-(i:Nat)) 1) where
 mem:=by simp
 obj:=fun i h st b hb=>by
  have e:b=it:=by simpa using hb
  subst e
  exact⟨_,st,fun v z=>by
   have z':Data.fields _=Data.cell v:=z
   cases z'⟩
 keep:=fun i h h' st k=>k it (by simp) _ st
 item:=by
  intro X hP hw hK hc i pins s σ H E I hf st hg
  subst hP hw hK
  obtain⟨f0,f1,f2,f3,f4,f5⟩:=hf it (by simp)
  have W:=Walks.range (prog:=X.prog) (w:=X.w) (I.ok.hd hc) it lo 1 n
  refine W.item i s _ _ hg st fun v h' tk hv st' kk=>?_
  obtain⟨t,rfl⟩:=hv
  have I1:Inv X pins σ H { s with heap:=h',toks:=tk }:=I.turned (fun b o hb e=>kk b o (by simpa using hb) e) f0 f1 f3 f4 f5
  refine⟨_,rfl,ZnG (s:={ s with heap:=h',toks:=tk }) (n := "range_iterator") st' rfl rfl (by decide) ⟨.int (lo+i),H,I1,⟨t,?_⟩,⟨rfl,rfl⟩,st',fun b hb=>(hf b hb).1⟩⟩
  rw[Int.mul_one]
 done:=by
  intro X hP hw hK hc i pins s σ H E I hf st hg
  subst hP hw hK
  obtain⟨f0,f1,f2,f3,f4,f5⟩:=hf it (by simp)
  exact wpAny_pyNext_range_end (I.ok.hd hc) st (by have:n≤i:=hg;omega) fun h' eb=>⟨rfl,I.turned (t':=s.toks) (fun b o hb e=>eb b o hb e) f0 f1 f3 f4 f5⟩
 self:=fun _ _ _ _ _ st h=>wpAny_pyIter_rangeiter st h
section
variable {X:Cx} {tg:Expr}
def ZnB(K:PySem.W.Frag)(tl:TE):TI:=fun σ H R=>tl σ H fun x H1=>∃a,x=.ref a∧(∃xs,SqL K H1 a xs)∧R (Itl K a) H1
theorem ZmF{l:Expr}{tl:TE}(hl:PE X l tl):PI X tg l (ZnB X.K tl):=by
 intro pins s σ H R I h
 refine thn (hl pins s σ H _ I h) ?_
 rintro v s1 ⟨x,H1,I1,r1,q1⟩
 obtain⟨a,e,⟨xs,hq⟩,q⟩:=q1
 subst e
 cases r1
 obtain⟨its,rv,p,hz⟩:=I1.list hq
 refine wpAny_pyIter_list p.isList ?_
 refine⟨s1.heap.objs.size,[s1.heap.objs.size],_,_,H1,rfl,I1.kept (t':=s1.toks) fun b o e=>Qc _ e,Zke a _,⟨_,Qz _ rfl,rfl,rfl⟩,fun b hb=>?_,q⟩
 have e:b=s1.heap.objs.size:=by simpa using hb
 subst e
 exact I1.fpOk (Qg _) (I1.hok.fresh (Qg _))
theorem Zif{pins:List (Addr×Obj)}{σ:St}{H:Hp}{s:Shared}{R:It→Hp→Prop}{E:Value→Shared→Prop}{lo hi:Int}{t u v:Tok}{tk:Nat}(I:Inv X pins σ H s)(h1:-(2 ^ 62)≤lo)(h2:lo<2 ^ 62)(h3:-(2 ^ 62)≤hi)(h4:hi<2 ^ 62)
  (q:R (Itr lo (hi-lo).toNat) H):wpAny (model X.prog X.w) X.A (pyIter (.ref s.heap.objs.size)) (PIE X pins σ tg R) E { s with heap:=s.heap.push { cls:=.type "range",data:=.fields #[.int lo t,.int hi u,.int 1 v] },toks:=tk }:=by
 refine wpAny_pyIter_range (IsRange.new ..) (small_one h1 h2 h3 h4) ?_
 have I1:Inv X pins σ H { s with heap:=s.heap.push { cls:=.type "range",data:=.fields #[.int lo t,.int hi u,.int 1 v] },toks:=tk }:=I.kept fun b o e=>Qc _ e
 refine⟨(s.heap.push { cls:=.type "range",data:=.fields #[.int lo t,.int hi u,.int 1 v] }).objs.size,[(s.heap.push { cls:=.type "range",data:=.fields #[.int lo t,.int hi u,.int 1 v] }).objs.size],_,_,H,rfl,
  I1.kept (t':=tk) fun b o e=>Qc _ e,ZiK _ lo (hi-lo).toNat,?_,fun b hb=>?_,q⟩
 ·have e1:lo+((0:Nat):Int)*1=lo:=by simp
  have e2:(((hi-lo).toNat:Nat):Int)-((0:Nat):Int)=Builtin.Range.rangeSize lo hi 1:=by rw[rangeSize_one];split<;>omega
  show IsRangeIter _ _ (lo+((0:Nat):Int)*1) ((((hi-lo).toNat:Nat):Int)-((0:Nat):Int)) 1
  rw[e1,e2]
  exact Qz _ rfl
 ·have e:b=(s.heap.push { cls:=.type "range",data:=.fields #[.int lo t,.int hi u,.int 1 v] }).objs.size:=by simpa using hb
  subst e
  exact I1.fpOk (Qg _) (I1.hok.fresh (Qg _))
def Zo3(ta:TA):TI:=fun σ H R=>ta σ H fun vs H1=>∃j:Int,vs=[.int j] ∧ -(2 ^ 62)≤j∧j<2 ^ 62∧R (Itr 0 j.toNat) H1
def Zpm(ta:TA):TI:=fun σ H R=>ta σ H fun vs H1=>∃i j:Int,vs=[.int i,.int j]∧(-(2 ^ 62)≤i∧i<2 ^ 62 ∧ -(2 ^ 62)≤j∧j<2 ^ 62)∧R (Itr i (j-i).toNat) H1
theorem Zbh{a:Expr}{ta:TA}{p pos:Pos}(hg:Gl X "range")(hm:X.mg "range" = none)(ha:PA X [a] ta)(hs:starEach [a] X.env=[(false,eval a X.env)]:=by rfl):PI X tg (.Call (.Name "range" p) [a] [] pos) (Zo3 ta):=by
 intro pins s σ H R I h
 refine Call_ (Zdz I hg hm boot_range (Q9 (thn (ha pos pins s σ H _ I h) ?_) hs rfl))
 rintro us s1 ⟨vs,H1,I1,r1,q1⟩
 obtain⟨j,e,q1,q2,q⟩:=q1
 subst e
 cases r1 with
 | cons r rr =>
  cases rr
  obtain⟨t,rfl⟩:=r
  exact call_range_1 (Zif I1 (by omega) (by omega) q1 q2 (by simpa using q))
theorem ZjA{a b:Expr}{ta:TA}{p pos:Pos}(hg:Gl X "range")(hm:X.mg "range" = none)(ha:PA X [a,b] ta)(hs:starEach [a,b] X.env=[(false,eval a X.env),(false,eval b X.env)]:=by rfl)(hs2:starEach [b] X.env=[(false,eval b X.env)]:=by rfl) :
  PI X tg (.Call (.Name "range" p) [a,b] [] pos) (Zpm ta):=by
 intro pins s σ H R I h
 refine Call_ (Zdz I hg hm boot_range (Q9 (thn (ha pos pins s σ H _ I h) ?_) (by rw[hs,hs2]) (by rw[hs2];rfl)))
 rintro us s1 ⟨vs,H1,I1,r1,q1⟩
 obtain⟨i,j,e,⟨q1,q2,q3,q4⟩,q⟩:=q1
 subst e
 cases r1 with
 | cons r rr =>
  cases rr with
  | cons r' rr =>
   cases rr
   obtain⟨t,rfl⟩:=r
   obtain⟨t',rfl⟩:=r'
   exact call_range_2 (Zif I1 q1 q2 q3 q4 q)
def Zp3(wi:TI)(g:TG)(tb:TS):TS:=fun D σ H=>wi σ H fun J H1=>∃W:Nat→Nat→St→Hp→Prop,(∃m,W 0 m σ H1)∧∀i m σ H,W i m σ H →
 (J.stop i H∧D.nx σ H)∨(J.go i H∧∃N:St→Hp→Prop,(∀σ' H',N σ' H'→∃m',m'<m∧W (i+1) m' σ' H')∧∀x H',J.yld i H x H'→g x σ H' fun σ2 H2=>tb { D with nx:=N,ct:=N,bk:=D.nx } σ2 H2)
def ZbI(fp:List Addr)(h:Heap):List (Addr×Obj):=fp.filterMap fun b=>(h.get? b).map fun o=>(b,o)
theorem ZaO{fp:List Addr}{h:Heap}{b:Addr}{o:Obj}(hb:b∈fp)(e:h.get? b=some o):(b,o)∈ZbI fp h:=List.mem_filterMap.mpr ⟨b,hb,by rw[e];rfl⟩
theorem Zkt{fp:List Addr}{h:Heap}{p:Addr×Obj}(hp:p∈ZbI fp h):p.1∈fp∧h.get? p.1=some p.2:=by
 obtain⟨b,hb,e⟩:=List.mem_filterMap.mp hp
 cases q:h.get? b with
 | none=>rw[q]at e;cases e
 | some o =>
  rw[q]at e
  have e':(b,o)=p:=Qj e
  subst e'
  exact⟨hb,q⟩
theorem Inv.pinned{pins:List (Addr×Obj)}{σ:St}{H:Hp}{s:Shared}{fp:List Addr}(I:Inv X pins σ H s)(hf:∀b∈fp,Zdv X pins H b)(ho:∀b∈fp,∃o,s.heap.get? b=some o∧∀v,o.data≠.cell v):Inv X (pins++ZbI fp s.heap) σ H s :=
 I.pins_of fun p hp=>(Qm.mp hp).elim (fun z=>I.pin p (Qf _ z)) fun z=>by
  obtain⟨hb,e⟩:=Zkt z
  obtain⟨f0,f1,f2,_⟩:=hf p.1 hb
  obtain⟨o,e',d⟩:=ho p.1 hb
  rw[e]at e';cases e'
  exact⟨e,f0,f1,f2,d⟩
theorem Inv.unpinned{pins pl:List (Addr×Obj)}{σ:St}{H:Hp}{s:Shared}(I:Inv X (pins++pl) σ H s):Inv X pins σ H s:=I.pins_of fun p hp=>I.pin p (Qf _ (Qv _ hp))
theorem Zct{iter:Expr}{body:List Stmt}{wi:TI}{g:TG}{tb:TS}{pos:Pos}(hp:PassesOwn (model X.prog X.w) X.A X.env X.xe)(hc:X.calm=true)(hi:PI X tg iter wi)(hg:PG X tg g)(hb:PSs X body tb)
  (hs:∀x,foldedSetIterable iter X.env x=pure x:=by intro _;rfl):PS X (.For tg iter body [] pos) (Zp3 wi g tb):=by
 intro pins s σ H D I h
 refine wpAny_For (thn (hi pins s σ H _ I h) fun v s1 h1=>thn h1 fun itv s2 h2=>?_) hs
 obtain⟨it,fp,tn,J,H2,e,I2,T,st2,f2,W,⟨m0,w0⟩,turn⟩:=h2
 subst e
 have stat:∀ {H':Hp},(∀b∈fp,H' b=none)→∀b∈fp,Zdv X pins H' b:=fun hn b hb=>⟨hn b hb,(f2 b hb).2⟩
 refine codeAny_forLoop_any (fun n s'=>∃i σ' H',Inv X pins σ' H' s'∧tn i s'.heap∧(∀b∈fp,H' b=none)∧W i n σ' H') ?_ m0 ⟨0,σ,H2,I2,st2,fun b hb=>(f2 b hb).1,w0⟩
 rintro n s3 ⟨i,σ3,H3,I3,st3,fr3,w3⟩
 rcases turn i n σ3 H3 w3 with⟨stop,qn⟩|⟨go,N,hN,step⟩
 ·refine wpAny_passesOwn hp (thn (T.done X rfl rfl rfl hc i pins s3 σ3 H3 X.xe I3 (stat fr3) st3 stop) ?_)
  rintro r s4 ⟨hr,I4⟩
  subst hr
  exact wpAny_execs_nil ⟨σ3,H3,I4,qn⟩
 ·refine wpAny_passesOwn hp (thn (T.item X rfl rfl rfl hc i pins s3 σ3 H3 X.xe I3 (stat fr3) st3 go) ?_)
  rintro r s4 ⟨u,hr,h4⟩
  subst hr
  refine wpAny_passesOwn hp (thn h4 ?_)
  rintro _ s5 ⟨x,H5,I5,r5,y5,st5,fr5⟩
  have I5':=I5.pinned (stat fr5) (T.obj _ _ st5)
  refine wpAny_passesOwn hp (thn (hg _ s5 σ3 H5 x u _ I5' r5 (step x H5 y5)) ?_)
  rintro _ s6 ⟨σ6,H6,I6,q6⟩
  refine wpAny_passesOwn hp (thn (hb _ s6 σ6 H6 _ I6 q6) fun f s7 q7=>?_)
  have again:∀ {σ7:St} {H7:Hp},Inv X (pins++ZbI fp s5.heap) σ7 H7 s7→N σ7 H7→∃m,m<n∧∃i σ' H',Inv X pins σ' H' s7∧tn i s7.heap∧(∀b∈fp,H' b=none)∧W i m σ' H':=fun {σ7 H7} I7 n7=>by
   obtain⟨m',hm,w7⟩:=hN σ7 H7 n7
   refine⟨m',hm,i+1,σ7,H7,I7.unpinned,T.keep _ _ _ st5 fun b hb o e=>(I7.pin (b,o) (Qf _ (Qf _ (ZaO hb e)))).1,fun b hb=>?_,w7⟩
   obtain⟨o,e,d⟩:=T.obj _ _ st5 b hb
   exact(I7.pin (b,o) (Qf _ (Qf _ (ZaO hb e)))).2.1
  cases f with
  | next=>obtain⟨σ7,H7,I7,n7⟩:=q7;exact again I7 n7
  | cont=>obtain⟨σ7,H7,I7,n7⟩:=q7;exact again I7 n7
  | brk=>obtain⟨σ7,H7,I7,q7⟩:=q7;exact⟨σ7,H7,I7.unpinned,q7⟩
  | ret v=>obtain⟨x7,σ7,H7,I7,r7,q7⟩:=q7;exact⟨x7,σ7,H7,I7.unpinned,r7,q7⟩
end
theorem Zh7{K:PySem.W.Frag}{a:Addr}{xs:List V}{g:TG}{tb:TS}{D:ZbG}{σ:St}{H:Hp}(Pv:Nat→St→Hp→Prop)(h0:Pv 0 σ H)(hl:∀i σ H,i≤xs.length→Pv i σ H→SqL K H a xs)
  (hs:∀i x σ H,xs[i]? = some x→Pv i σ H→g x σ H fun σ2 H2=>tb { D with nx:=Pv (i+1),ct:=Pv (i+1),bk:=D.nx } σ2 H2) (hd:∀σ H,Pv xs.length σ H→D.nx σ H) :
  ∃W:Nat→Nat→St→Hp→Prop,(∃m,W 0 m σ H)∧∀i m σ H,W i m σ H →
   ((Itl K a).stop i H∧D.nx σ H)∨((Itl K a).go i H∧∃N:St→Hp→Prop,(∀σ' H',N σ' H'→∃m',m'<m∧W (i+1) m' σ' H')∧∀x H',(Itl K a).yld i H x H'→g x σ H' fun σ2 H2=>tb { D with nx:=N,ct:=N,bk:=D.nx } σ2 H2):=by
 refine⟨fun i m σ H=>m=xs.length-i∧i≤xs.length∧Pv i σ H,⟨xs.length,by simp,Qp _,h0⟩,?_⟩
 rintro i m σ H ⟨rfl,hi,p⟩
 have q:=hl i σ H hi p
 by_cases hlt:i<xs.length
 ·refine .inr ⟨⟨xs,xs[i],q,by simp[hlt]⟩,Pv (i+1),fun σ' H' p'=>⟨xs.length-(i+1),by omega,rfl,hlt,p'⟩,fun x H' y=>?_⟩
  obtain⟨e,y⟩:=y
  subst e
  exact hs i x σ _ (y xs q) p
 ·have e:i=xs.length:=by omega
  subst e
  exact .inl ⟨⟨xs,q,Qg _⟩,hd σ H p⟩
theorem Zdc{lo:Int}{n:Nat}{g:TG}{tb:TS}{D:ZbG}{σ:St}{H:Hp}(Pv:Nat→St→Hp→Prop)(h0:Pv 0 σ H)
  (hs:∀i σ H,i<n→Pv i σ H→g (.int (lo+i)) σ H fun σ2 H2=>tb { D with nx:=Pv (i+1),ct:=Pv (i+1),bk:=D.nx } σ2 H2) (hd:∀σ H,Pv n σ H→D.nx σ H) :
  ∃W:Nat→Nat→St→Hp→Prop,(∃m,W 0 m σ H)∧∀i m σ H,W i m σ H →
   ((Itr lo n).stop i H∧D.nx σ H)∨((Itr lo n).go i H∧∃N:St→Hp→Prop,(∀σ' H',N σ' H'→∃m',m'<m∧W (i+1) m' σ' H')∧∀x H',(Itr lo n).yld i H x H'→g x σ H' fun σ2 H2=>tb { D with nx:=N,ct:=N,bk:=D.nx } σ2 H2):=by
 refine⟨fun i m σ H=>m=n-i∧i≤n∧Pv i σ H,⟨n,by simp,Qp _,h0⟩,?_⟩
 rintro i m σ H ⟨rfl,hi,p⟩
 by_cases hlt:i<n
 ·refine .inr ⟨hlt,Pv (i+1),fun σ' H' p'=>⟨n-(i+1),by omega,rfl,hlt,p'⟩,fun x H' y=>?_⟩
  obtain⟨e,y⟩:=y
  subst e y
  exact hs i σ _ hlt p
 ·have e:i=n:=by omega
  subst e
  exact .inl ⟨Qg _,hd σ H p⟩
abbrev R2:=V→V→Hp→VK→Prop
def OpR(X:Cx)(f:Value→Value→Sem Value)(r:R2):Prop :=
 ∀ (pins:List (Addr×Obj)) (s:Shared) (σ:St) (H:Hp) (x y:V) (v u:Value) (Q:VK),Inv X pins σ H s→ZA x v→ZA y u→r x y H Q →
  wpAny (model X.prog X.w) X.A (f v u) (EP X pins σ Q) X.xe s
def UnR(X:Cx)(f:Value→Sem Value)(r:V→Hp→VK→Prop):Prop :=
 ∀ (pins:List (Addr×Obj)) (s:Shared) (σ:St) (H:Hp) (x:V) (v:Value) (Q:VK),Inv X pins σ H s→ZA x v→r x H Q →
  wpAny (model X.prog X.w) X.A (f v) (EP X pins σ Q) X.xe s
def Zaz(X:Cx)(f:Value)(r:List V→Hp→VK→Prop):Prop :=
 ∀ (pins:List (Addr×Obj)) (s:Shared) (σ:St) (H:Hp) (xs:List V) (us:List Value) (Q:VK),Inv X pins σ H s→Zy xs us→r xs H Q →
  wpAny (model X.prog X.w) X.A (call f us) (EP X pins σ Q) X.xe s
def tOp(r:R2)(ta tb:TE):TE:=fun σ H Q=>ta σ H fun x H1=>tb σ H1 fun y H2=>r x y H2 Q
def tUn(r:V→Hp→VK→Prop)(ta:TE):TE:=fun σ H Q=>ta σ H fun x H1=>r x H1 Q
def rI(C:Int→Int→Prop)(g:Int→Int→V):R2:=fun x y H Q=>∃i j,x=.int i∧y=.int j∧C i j∧Q (g i j) H
def rI0(g:Int→Int→V):R2:=fun x y H Q=>∃i j,x=.int i∧y=.int j∧Q (g i j) H
def rU(g:Int→V):V→Hp→VK→Prop:=fun x H Q=>∃i,x=.int i∧Q (g i) H
section
variable {X:Cx} {a b c:Expr} {ta tb tc:TE} {pos:Pos}
theorem Zot(ha:PE X a ta)(hb:PE X b tb){pins:List (Addr×Obj)}{s:Shared}{σ:St}{H:Hp}{R:V→V→Hp→Prop}(I:Inv X pins σ H s)
  (h:ta σ H fun x H1=>tb σ H1 fun y H2=>R x y H2) {Q:Value→Shared→Prop} {f:Value→Value→Sem Value}
  (hf:∀v u s2 x y H2,Inv X pins σ H2 s2→ZA x v→ZA y u→R x y H2→wpAny (model X.prog X.w) X.A (f v u) Q X.xe s2) :
  wpAny (model X.prog X.w) X.A (eval a X.env) (fun v s₁=>wpAny (model X.prog X.w) X.A (eval b X.env) (fun u s₂=>wpAny (model X.prog X.w) X.A (f v u) Q X.xe s₂) X.xe s₁) X.xe s:=by
 refine thn (ha pins s σ H _ I h) ?_
 rintro v s1 ⟨x,H1,I1,r1,q1⟩
 refine thn (hb pins s1 σ H1 _ I1 q1) ?_
 rintro u s2 ⟨y,H2,I2,r2,q2⟩
 exact hf v u s2 x y H2 I2 r1 r2 q2
theorem ZI{op:Operator}{r:R2}(ho:OpR X (binaryOp op) r)(ha:PE X a ta)(hb:PE X b tb):PE X (.BinOp a op b pos) (tOp r ta tb):=by
 intro pins s σ H Q I h
 exact wpAny_BinOp (Zot ha hb I h fun v u s2 x y H2 I2 rx ry q=>ho pins s2 σ H2 x y v u Q I2 rx ry q)
theorem Zjx{op:UnaryOp}{r:V→Hp→VK→Prop}(ho:UnR X (unaryOp op) r)(ha:PE X a ta):PE X (.UnaryOp op a pos) (tUn r ta):=by
 intro pins s σ H Q I h
 exact UnaryOp_ (thn (ha pins s σ H _ I h) fun v s1 ⟨x,H1,I1,r1,q1⟩=>ho pins s1 σ H1 x v Q I1 r1 q1)
theorem opI{f:Value→Value→Sem Value}{C:Int→Int→Prop}{g:Int→Int→Int}
  (rule:∀ (i j:Int) (t u:Tok) (s:Shared) (Q:Value→Shared→Prop) (E:Value→Shared→Prop),C i j→Q (.int (g i j) s.toks) { s with toks:=s.toks+1 }→wpAny (model X.prog X.w) X.A (f (.int i t) (.int j u)) Q E s) :
  OpR X f (rI C fun i j=>.int (g i j)):=by
 intro pins s σ H x y v u Q I rx ry h
 obtain⟨i,j,rfl,rfl,hc,q⟩:=h
 obtain⟨t,rfl⟩:=rx
 obtain⟨t',rfl⟩:=ry
 exact rule i j t t' s _ _ hc ⟨.int (g i j),H,I.tok _,⟨_,rfl⟩,q⟩
theorem ZoT{f:Value→Value→Sem Value}{g:Int→Int→Int}
  (rule:∀ (i j:Int) (t u:Tok) (s:Shared) (Q:Value→Shared→Prop) (E:Value→Shared→Prop),Q (.int (g i j) s.toks) { s with toks:=s.toks+1 }→wpAny (model X.prog X.w) X.A (f (.int i t) (.int j u)) Q E s) :
  OpR X f (rI0 fun i j=>.int (g i j)):=by
 intro pins s σ H x y v u Q I rx ry h
 obtain⟨i,j,rfl,rfl,q⟩:=h
 obtain⟨t,rfl⟩:=rx
 obtain⟨t',rfl⟩:=ry
 exact rule i j t t' s _ _ ⟨.int (g i j),H,I.tok _,⟨_,rfl⟩,q⟩
theorem ZoB{f:Value→Value→Sem Value}{g:Int→Int→Bool}
  (rule:∀ (i j:Int) (t u:Tok) (s:Shared) (Q:Value→Shared→Prop) (E:Value→Shared→Prop),Q (.bool (g i j)) s→wpAny (model X.prog X.w) X.A (f (.int i t) (.int j u)) Q E s) :
  OpR X f (rI0 fun i j=>.bl (g i j)):=by
 intro pins s σ H x y v u Q I rx ry h
 obtain⟨i,j,rfl,rfl,q⟩:=h
 obtain⟨t,rfl⟩:=rx
 obtain⟨t',rfl⟩:=ry
 exact rule i j t t' s _ _ ⟨.bl (g i j),H,I,rfl,q⟩
def ZpN(i j:Int):Prop:=0<j∧j<1073741824
def Zpy(i j:Int):Prop:=0≤j∧j≤1000000∧i.natAbs<2 ^ 64
def Zol(i j:Int):Prop:=(-(2 ^ 64)<i∧i<2 ^ 64)∨(-(2 ^ 64)<j∧j<2 ^ 64)
theorem Zol.ok{i j:Int}(h:Zol i j):IntMulOk i j:=by
 rcases h with⟨h1,h2⟩|⟨h1,h2⟩
 ·exact .of_left (intBits_le_64 h1 h2)
 ·exact .of_right (intBits_le_64 h1 h2)
theorem Zax:OpR X (binaryOp .Add) (rI0 fun i j=>.int (i+j)):=ZoT fun _ _ _ _ _ _ _ q=>add_int q
theorem Zc4:OpR X (binaryOp .Sub) (rI0 fun i j=>.int (i-j)):=ZoT fun _ _ _ _ _ _ _ q=>sub_int q
theorem Zcp:OpR X (binaryOp .Mult) (rI Zol fun i j=>.int (i*j)):=opI fun _ _ _ _ _ _ _ hc q=>mul_int q hc.ok
theorem ZgJ:OpR X (binaryOp .FloorDiv) (rI ZpN fun i j=>.int (i / j)):=opI fun i j _ _ _ _ _ hc q=>by
 have h1:(0:Int)<j:=hc.1
 have h2:j<1073741824:=hc.2
 exact floordiv_int (by omega) (by rw[Int.fdiv_eq_ediv_of_nonneg i (by omega)];exact q) (.inl (PyProof.noPylong_small (by omega)))
theorem Zft:OpR X (binaryOp .Mod) (rI (fun _ j=>0<j) fun i j=>.int (i % j)):=opI fun i j _ _ _ _ _ hc q=>by
 have h1:(0:Int)<j:=hc
 exact mod_int' (by omega) (by rw[Int.fmod_eq_emod_of_nonneg i (by omega)];exact q)
theorem Zoa:OpR X (binaryOp .Pow) (rI Zpy fun i j=>.int (i ^ j.toNat)):=opI fun _ _ _ _ _ _ _ hc q=>pow_int_small hc.1 hc.2.1 hc.2.2 q
theorem unI{f:Value→Sem Value}{g:Int→Int}
  (rule:∀ (i:Int) (t:Tok) (s:Shared) (Q:Value→Shared→Prop) (E:Value→Shared→Prop),Q (.int (g i) s.toks) { s with toks:=s.toks+1 }→wpAny (model X.prog X.w) X.A (f (.int i t)) Q E s) :
  UnR X f (rU fun i=>.int (g i)):=by
 intro pins s σ H x v Q I rx h
 obtain⟨i,rfl,q⟩:=h
 obtain⟨t,rfl⟩:=rx
 exact rule i t s _ _ ⟨.int (g i),H,I.tok _,⟨_,rfl⟩,q⟩
theorem Zg2:UnR X (unaryOp .USub) (rU fun i=>.int (-i)):=unI fun _ _ _ _ _ q=>neg_int q
end
def Zpr:V→V→Bool
 | .non,.non=>true|.non,.int _=>true|.int _,.non=>true|.non,.bl _=>true|.bl _,.non=>true|.non,.str _=>true|.str _,.non=>true
 | .int _,.int _=>true|.bl _,.bl _=>true|.str _,.str _=>true|.byt _,.byt _=>true
 | .int _,.str _=>true|.str _,.int _=>true|.bl _,.str _=>true|.str _,.bl _=>true
 | _,_=>false
def rEq:R2:=fun x y H Q=>Zpr x y=true∧Q (.bl (decide (x=y))) H
def rNe:R2:=fun x y H Q=>Zpr x y=true∧Q (.bl (!decide (x=y))) H
theorem ZiU{i j:Int}:decide (V.int i=V.int j)=(i == j):=by
 rw[QaU]
 simp
theorem Zlx{i j:Bool}:decide (V.bl i=V.bl j)=(i == j):=by
 rw[QaU]
 simp
theorem Zjm{i j:Str}:decide (V.str i=V.str j)=(i == j):=by
 rw[QaU]
 simp
theorem Zjk{i j:Array UInt8}:decide (V.byt i=V.byt j)=(i.toList == j.toList):=by
 rw[QaU]
 cases i
 cases j
 simp
section
variable {X:Cx} {a b c:Expr} {ta tb tc:TE} {pos:Pos}
theorem ZL{pins:List (Addr×Obj)}{σ:St}{H:Hp}{s:Shared}{Q:VK}{k k':Bool}(I:Inv X pins σ H s)(q:Q (.bl k) H)(e:k=k'):EP X pins σ Q (.bool k') s:=by
 subst e
 exact⟨.bl k,H,I,rfl,q⟩
theorem Zbx:OpR X (compareOp .Eq) rEq:=by
 intro pins s σ H x y v u Q I rx ry h
 obtain⟨hs,q⟩:=h
 cases x with
 | non =>
  cases rx
  cases y with
  | non=>cases ry;exact PySem.EqNone.eq_none_none (ZL I q (by simp))
  | bl j=>cases ry;exact PySem.EqNone.eq_none_bool (ZL I q (by simp))
  | int j=>obtain⟨t',rfl⟩:=ry;exact PySem.EqNone.eq_none_int (ZL I q (by simp))
  | str j=>obtain⟨t',rfl⟩:=ry;exact PySem.EqNone.eq_none_str (ZL I q (by simp))
  | _=>exact absurd (show false=true from hs) Qr
 | bl i =>
  cases rx
  cases y with
  | non=>cases ry;exact PySem.EqNone.eq_bool_none (ZL I q (by simp))
  | bl j=>cases ry;exact eq_bool (ZL I q Zlx)
  | str j=>obtain⟨t',rfl⟩:=ry;exact PySem.EqMixed.eq_bool_str (ZL I q (by simp))
  | _=>exact absurd (show false=true from hs) Qr
 | int i =>
  obtain⟨t,rfl⟩:=rx
  cases y with
  | non=>cases ry;exact PySem.EqNone.eq_int_none (ZL I q (by simp))
  | int j=>obtain⟨t',rfl⟩:=ry;exact eq_int (ZL I q ZiU)
  | str j=>obtain⟨t',rfl⟩:=ry;exact PySem.EqMixed.eq_int_str (ZL I q (by simp))
  | _=>exact absurd (show false=true from hs) Qr
 | str i =>
  obtain⟨t,rfl⟩:=rx
  cases y with
  | non=>cases ry;exact PySem.EqNone.eq_str_none (ZL I q (by simp))
  | bl j=>cases ry;exact PySem.EqMixed.eq_str_bool (ZL I q (by simp))
  | int j=>obtain⟨t',rfl⟩:=ry;exact PySem.EqMixed.eq_str_int (ZL I q (by simp))
  | str j=>obtain⟨t',rfl⟩:=ry;exact eq_str (ZL I q Zjm)
  | _=>exact absurd (show false=true from hs) Qr
 | byt i =>
  obtain⟨t,rfl⟩:=rx
  cases y with
  | byt j=>obtain⟨t',rfl⟩:=ry;exact PySem.W.eq_bytes (ZL I q Zjk)
  | _=>exact absurd (show false=true from hs) Qr
 | _=>cases y<;>exact absurd (show false=true from hs) Qr
theorem ZnA:OpR X (compareOp .NotEq) rNe:=by
 intro pins s σ H x y v u Q I rx ry h
 obtain⟨hs,q⟩:=h
 cases x with
 | non =>
  cases rx
  cases y with
  | non=>cases ry;exact PySem.EqNone.ne_none_none (ZL I q (by simp))
  | bl j=>cases ry;exact PySem.EqNone.ne_none_bool (ZL I q (by simp))
  | int j=>obtain⟨t',rfl⟩:=ry;exact PySem.EqNone.ne_none_int (ZL I q (by simp))
  | str j=>obtain⟨t',rfl⟩:=ry;exact PySem.EqNone.ne_none_str (ZL I q (by simp))
  | _=>exact absurd (show false=true from hs) Qr
 | bl i =>
  cases rx
  cases y with
  | non=>cases ry;exact PySem.EqNone.ne_bool_none (ZL I q (by simp))
  | bl j=>cases ry;exact ne_bool (ZL I q (congrArg not Zlx))
  | str j=>obtain⟨t',rfl⟩:=ry;exact PySem.EqMixed.ne_bool_str (ZL I q (by simp))
  | _=>exact absurd (show false=true from hs) Qr
 | int i =>
  obtain⟨t,rfl⟩:=rx
  cases y with
  | non=>cases ry;exact PySem.EqNone.ne_int_none (ZL I q (by simp))
  | int j=>obtain⟨t',rfl⟩:=ry;exact ne_int (ZL I q (congrArg not ZiU))
  | str j=>obtain⟨t',rfl⟩:=ry;exact PySem.EqMixed.ne_int_str (ZL I q (by simp))
  | _=>exact absurd (show false=true from hs) Qr
 | str i =>
  obtain⟨t,rfl⟩:=rx
  cases y with
  | non=>cases ry;exact PySem.EqNone.ne_str_none (ZL I q (by simp))
  | bl j=>cases ry;exact PySem.EqMixed.ne_str_bool (ZL I q (by simp))
  | int j=>obtain⟨t',rfl⟩:=ry;exact PySem.EqMixed.ne_str_int (ZL I q (by simp))
  | str j=>obtain⟨t',rfl⟩:=ry;exact ne_str (ZL I q (congrArg not Zjm))
  | _=>exact absurd (show false=true from hs) Qr
 | byt i =>
  obtain⟨t,rfl⟩:=rx
  cases y with
  | byt j=>obtain⟨t',rfl⟩:=ry;exact PySem.W.ne_bytes (ZL I q (congrArg not Zjk))
  | _=>exact absurd (show false=true from hs) Qr
 | _=>cases y<;>exact absurd (show false=true from hs) Qr
theorem Ze2:OpR X (compareOp .Lt) (rI0 fun i j=>.bl (decide (i<j))):=ZoB fun _ _ _ _ _ _ _ q=>lt_int q
theorem ZdK:OpR X (compareOp .Gt) (rI0 fun i j=>.bl (decide (j<i))):=ZoB fun _ _ _ _ _ _ _ q=>gt_int q
theorem Zpo:OpR X (compareOp .GtE) (rI0 fun i j=>.bl (decide (j≤i))):=ZoB fun _ _ _ _ _ _ _ q=>ge_int q
theorem ZjU:OpR X (compareOp .Lt) (fun x y H Q=>∃i j,x=.str i∧y=.str j∧Q (.bl (decide (i.cps.toList<j.cps.toList))) H):=by
 intro pins s σ H x y v u Q I rx ry h
 obtain⟨i,j,rfl,rfl,q⟩:=h
 obtain⟨t,rfl⟩:=rx
 obtain⟨t',rfl⟩:=ry
 exact lt_str (ZL I q rfl)
theorem Zcq:OpR X (compareOp .Is) (fun x y H Q=>y=.non∧Q (.bl (decide (x=.non))) H):=by
 intro pins s σ H x y v u Q I rx ry h
 obtain⟨rfl,q⟩:=h
 cases ry
 refine is_none_gen (ZL I q ?_)
 cases x<;>first
  | (cases rx;rfl)
  | (obtain⟨t,rfl⟩:=rx;rfl)
theorem ZeR:OpR X (compareOp .IsNot) (fun x y H Q=>y=.non∧Q (.bl (!decide (x=.non))) H):=by
 intro pins s σ H x y v u Q I rx ry h
 obtain⟨rfl,q⟩:=h
 cases ry
 refine isnot_none_gen (ZL I q ?_)
 cases x<;>first
  | (cases rx;rfl)
  | (obtain⟨t,rfl⟩:=rx;rfl)
theorem Zu(b:Expr){op:CmpOp}(h:op≠.In:=by decide)(h2:op≠.NotIn:=by decide):behindInMarks op b=false:=by
 have e1:(op == CmpOp.In)=false:=by cases op<;>first|rfl|exact absurd rfl h
 have e2:(op == CmpOp.NotIn)=false:=by cases op<;>first|rfl|exact absurd rfl h2
 cases b<;>simp[behindInMarks,e1,e2]
theorem Zda{op:CmpOp}{r:R2}(ho:OpR X (compareOp op) r)(ha:PE X a ta)(hb:PE X b tb)(hm:behindInMarks op b=false):PE X (.Compare a [op] [b] pos) (tOp r ta tb):=by
 intro pins s σ H Q I h
 exact wpAny_Compare1 (Zot ha hb I h fun v u s2 x y H2 I2 rx ry q=>ho pins s2 σ H2 x y v u Q I2 rx ry q) hm
def Zo2(t:TE):TT:=fun σ H Q=>t σ H fun x H'=>∃k,x=.bl k∧Q k H'
theorem Zs{op:CmpOp}{r:R2}(ho:OpR X (compareOp op) r)(ha:PE X a ta)(hb:PE X b tb)(hm:behindInMarks op b=false):PT X (.Compare a [op] [b] pos) (Zo2 (tOp r ta tb)):=by
 intro pins s σ H Q I h
 refine wpAny_isTrue_Compare1 (thn (ha pins s σ H _ I h) fun v s1 ⟨x,H1,I1,r1,q1⟩=>thn (hb pins s1 σ H1 _ I1 q1) fun u s2 ⟨y,H2,I2,r2,q2⟩=>
  thn (ho pins s2 σ H2 x y v u _ I2 r1 r2 q2) fun c s3 ⟨z,H3,I3,r3,k,e,q3⟩=>?_) hm
 subst e
 cases r3
 exact wpAny_truthy_bool ⟨H3,I3,q3⟩
theorem Zen:(sizeLine:Nat)<2 ^ 63:=by rw[sizeLine_eq];decide
theorem ZiD:OpR X (binaryOp .Add) (fun x y H Q=>∃i j,x=.str i∧y=.str j∧i.length+j.length≤sizeLine∧Q (.str (i++j)) H):=by
 intro pins s σ H x y v u Q I rx ry h
 obtain⟨i,j,rfl,rfl,hz,q⟩:=h
 obtain⟨t,rfl⟩:=rx
 obtain⟨t',rfl⟩:=ry
 exact add_str (fun t' tk=>⟨.str (i++j),H,I.tok _,⟨_,rfl⟩,q⟩) hz
theorem ZcB{x:V}{us:List Value}(r:Zy [x] us):∃u,us=[u]∧ZA x u:=by
 cases r with
 | cons r1 r2=>cases r2;exact⟨_,rfl,r1⟩
theorem Zi2{x y:V}{us:List Value}(r:Zy [x,y] us):∃u w',us=[u,w']∧ZA x u∧ZA y w':=by
 cases r with
 | cons r1 r2 =>
  cases r2 with
  | cons r3 r4=>cases r4;exact⟨_,_,rfl,r1,r3⟩
theorem Zhi:Zaz X (.builtin "abs") (fun xs H Q=>∃i,xs=[.int i]∧Q (.int (if i<0 then -i else i)) H):=by
 intro pins s σ H xs us Q I r h
 obtain⟨i,rfl,q⟩:=h
 obtain⟨u,rfl,t,rfl⟩:=ZcB r
 exact call_abs_int fun u tk=>⟨.int (if i<0 then -i else i),H,I.tok _,⟨_,rfl⟩,q⟩
theorem Zeb(hc:X.calm=true):Zaz X (.builtin "max") (fun xs H Q=>∃i j,xs=[.int i,.int j]∧Q (.int (if j>i then j else i)) H):=by
 intro pins s σ H xs us Q I r h
 obtain⟨i,j,rfl,q⟩:=h
 obtain⟨u,w',rfl,⟨t,rfl⟩,⟨t',rfl⟩⟩:=Zi2 r
 refine max_two_ints (I.ok.hd hc) fun h' tk k=>⟨_,H,I.kept k,?_,q⟩
 by_cases hj:j>i
 ·rw[if_pos hj,if_pos hj];exact⟨_,rfl⟩
 ·rw[if_neg hj,if_neg hj];exact⟨_,rfl⟩
theorem Zkw(hc:X.calm=true):Zaz X (.builtin "min") (fun xs H Q=>∃i j,xs=[.int i,.int j]∧Q (.int (if j<i then j else i)) H):=by
 intro pins s σ H xs us Q I r h
 obtain⟨i,j,rfl,q⟩:=h
 obtain⟨u,w',rfl,⟨t,rfl⟩,⟨t',rfl⟩⟩:=Zi2 r
 refine min_two_ints (I.ok.hd hc) fun h' tk k=>⟨_,H,I.kept k,?_,q⟩
 by_cases hj:j<i
 ·rw[if_pos hj,if_pos hj];exact⟨_,rfl⟩
 ·rw[if_neg hj,if_neg hj];exact⟨_,rfl⟩
theorem Zkp:Zaz X (.type "int") (fun xs H Q=>(∃i,xs=[.int i]∧Q (.int i) H)∨∃k,xs=[.bl k]∧Q (.int (if k then 1 else 0)) H):=by
 intro pins s σ H xs us Q I r h
 rcases h with⟨i,rfl,q⟩|⟨k,rfl,q⟩
 ·obtain⟨u,rfl,t,rfl⟩:=ZcB r
  exact call_int_int ⟨.int i,H,I,⟨_,rfl⟩,q⟩
 ·obtain⟨u,rfl,r1⟩:=ZcB r
  cases r1
  exact call_int_bool ⟨.int (if k then 1 else 0),H,I.tok _,⟨_,rfl⟩,q⟩
end
structure ZiO (h:Heap) (x dx C:Addr) (mA:Str→Option Value):Prop where
 obj:h.get? x=some (PySem.W.instObj C dx)
 ns:h.Ns1 dx mA
 ne:dx≠x
theorem ZjH{h:Heap}{dx:Addr}{mA:Str→Option Value}(n:h.Ns1 dx mA):∃od,h.get? dx=some od∧∀name,PySem.W.lookIn name od=some (mA name):=by
 obtain⟨o,es,ep,ho,hd,hk,_,hm⟩:=n
 refine⟨o,ho,fun name=>?_⟩
 have e:=hm name
 unfold nsFind findBy at e
 rw[← Array.find?_toList]at e
 unfold PySem.W.lookIn
 rw[hd]
 dsimp only
 split
 ·rename_i y q
  rw[q]at e
  exact congrArg some e
 ·rename_i q
  rw[q]at e
  have a:es.toList.any (·.refKey)=false:=by
   rw[List.any_eq_false]
   intro y hy
   obtain⟨z,t,hkey⟩:=hk y (Array.mem_toList_iff.mp hy)
   simp[DictEntry.refKey,hkey]
  have a':¬ es.toList.any (·.refKey)=true:=by rw[a];exact Qr
  rw[if_neg a']
  exact congrArg some e
theorem ZiO.look{h:Heap}{x dx C:Addr}{mA:Str→Option Value}(I:ZiO h x dx C mA):∃od,PySem.W.InstAt h x (PySem.W.instObj C dx) C (some od)∧∀name,PySem.W.lookIn name od=some (mA name) :=
 let ⟨od,ho,hl⟩:=ZjH I.ns
 ⟨od,⟨I.obj,rfl,rfl,ho⟩,hl⟩
section
variable {prog:Program} {w:World} {A:Around} {E:Value→Shared→Prop} {s:Shared} {K:PySem.W.Frag} {x dx C f:Addr} {mA:Str→Option Value} {name:Str} {v:Value}
theorem Zne{expr:Bool}{Q:Value→Shared→Prop}(X:K.In s.heap)(I:ZiO s.heap x dx C mA)(hg:PySem.W.plainGet K C name=true)(hh:PySem.W.hasDictIn K C=true)
  (ha:PySem.W.findIn K (.ref C) name=some none) (hv:mA name=some v) (hv':PySem.W.handedIn v=true) (h:Q v { s with toks:=s.toks+1 }) :
  wpAny (model prog w) A (getAttr (.ref x) name expr) Q E s:=by
 obtain⟨od,J,hl⟩:=I.look
 exact PySem.W.get_value X J (PySem.W.plainGet_of hg).1 (PySem.W.findObj_own hh ha rfl (by rw[hl,hv])) hv' h
theorem Zmd{pl:Sem Bool}{Q:Value×List Value→Shared→Prop}(X:K.In s.heap)(I:ZiO s.heap x dx C mA)(hg:PySem.W.plainGet K C name=true)
  (hf:PySem.W.findIn K (.ref C) name=some (some (.ref f))) (ht:PySem.W.isFn K (.ref f)=true) (hv:mA name=none) (h:Q (.ref f,[.ref x]) s) :
  wpAny (model prog w) A (getMethod (.ref x) name pl) Q E s:=by
 obtain⟨od,J,hl⟩:=I.look
 exact PySem.W.method_fn X J (PySem.W.plainGet_of hg).1 (PySem.W.plainGet_of hg).2 hf (beq_iff_eq.mp ht) (by show (PySem.W.lookIn name od).map (·.isSome)=some false;rw[hl,hv];rfl) h
theorem Znv{ns:List Str}{Q:Unit→Shared→Prop}(X:K.In s.heap)(I:ZiO s.heap x dx C mA)
  (hs:PySem.W.findIn K (.ref C) "__setattr__" = some (some (.builtin "object.__setattr__"))) (hp:PySem.W.plainOver K C=true) (ht:PySem.W.takerIn K C name=some none) (hh:PySem.W.hasDictIn K C=true)
  (hw:PySem.Within mA ns) (hsz:ns.length≤sizeLine)
  (h:∀h',ZiO h' x dx C (fun y=>if y=name then some v else mA y)→Heap.SameBut dx s.heap h'→Q () { s with heap:=h',toks:=s.toks+2 }) :
  wpAny (model prog w) A (setAttr (.ref x) name v) Q E s:=by
 obtain⟨od,J,hl⟩:=I.look
 refine PySem.W.set_plain X J hs (PySem.W.osa_open (s:={ s with toks:=s.toks+1 }) (r:=none) X J hp ht fun b=>?_)
 obtain⟨cd,hc,hd'⟩:=PySem.W.any_some hh
 have hx:s.heap.get? x=some ⟨.ref C,some dx,.plain,#[]⟩:=I.obj
 refine wpAny_bind (wpAny_pure (wpAny_bind (wpAny_bind (wpAny_loadPart hx (wpAny_bind (PySem.W.Looks.here (s:={ s with toks:=s.toks+1 }) (PySem.W.looks_clsIn X hc) ?_))))))
 rw[hd']
 refine wpAny_pure (a:=some dx) (wpAny_bind (wpAny_pure (wpAny_bind ?_)))
 refine wpAny_nsSet1 (s:={ s with toks:=s.toks+1 }) I.ns fun h' hn2 hs2=>?_
 obtain⟨oD,esD,epD,hoD,hdD,hcD⟩:=hn2.count (PySem.Within.cons name v hw)
 refine wpAny_bind (wpAny_lookBehind hoD (by rw[hdD];exact pastItsLine_dict (QP hcD (by rw[QC];omega))) ?_)
 exact wpAny_pure (h _ ⟨(hs2.2 _ (Ne.symm I.ne)).trans I.obj,hn2,I.ne⟩ hs2)
theorem ZlD{R:Result→Shared→Prop}{vs:List Value}{kw:List (Str×Value)}(X:K.In s.heap)(hm:PySem.W.makesIn K C=true)
  (hi:PySem.W.findIn K (.ref C) "__init__" = some (some (.ref f))) (hf:PySem.W.typeIn K (.ref f)=some (.type "function"))
  (h:codeAny (model prog w) (A.under (.builtin "type.__call__" ⟨.ref C::vs,kw⟩)) (.call (.ref f) ⟨.ref (s.heap.objs.size+1)::vs,kw⟩) (PySem.W.InitBack (s.heap.objs.size+1) R)
   { s with heap:=(s.heap.push PySem.W.emptyDict).push (PySem.W.instObj C s.heap.objs.size) }) :
  codeAny (model prog w) A (.call (.ref C) ⟨vs,kw⟩) R s:=by
 obtain⟨hh,g,d,t,os⟩:=s
 exact PySem.W.make_core (PySem.W.makes_of X hm) (PySem.W.looks_findIn X hi) (fun self=>PySem.W.bind_fn X self hf) (.inl rfl) h
end
def Zm(f:Str)(v:V):List (Str×V)→List (Str×V)
 | []=>[(f,v)]
 | (g,x)::r=>if g=f then (g,v)::r else (g,x)::Zm f v r
theorem Zl(f g:Str)(v:V):∀fs:List (Str×V),(Zm f v fs).lookup g=if g=f then some v else fs.lookup g
 | []=>by
  show List.lookup g [(f,v)]=_
  by_cases h:g=f
  ·have hb:(g == f)=true:=beq_iff_eq.mpr h
   simp only[List.lookup,hb,if_pos h]
  ·have hb:(g == f)=false:=beq_eq_false_iff_ne.mpr h
   simp only[List.lookup,hb,if_neg h]
 | (k,x)::r=>by
  have ih:=Zl f g v r
  rw[show Zm f v ((k,x)::r)=(if k=f then (k,v)::r else (k,x)::Zm f v r) from rfl]
  by_cases hk:k=f
  ·rw[if_pos hk]
   by_cases h:g=k
   ·have hb:(g == k)=true:=beq_iff_eq.mpr h
    simp only[List.lookup,hb,if_pos (h.trans hk)]
   ·have hb:(g == k)=false:=beq_eq_false_iff_ne.mpr h
    simp only[List.lookup,hb,if_neg (fun e:g=f=>h (e.trans hk.symm))]
  ·rw[if_neg hk]
   by_cases h:g=k
   ·have hb:(g == k)=true:=beq_iff_eq.mpr h
    simp only[List.lookup,hb,if_neg (fun e:g=f=>hk (h.symm.trans e))]
   ·have hb:(g == k)=false:=beq_eq_false_iff_ne.mpr h
    simp only[List.lookup,hb]
    exact ih
theorem Zev(f:Str)(v:V):∀fs:List (Str×V),f∈(Zm f v fs).map (·.1)∧∀g,g∈fs.map (·.1)→g∈(Zm f v fs).map (·.1)
 | []=>⟨by simp[Zm],fun g h=>by simp at h⟩
 | (k,x)::r=>by
  obtain⟨i1,i2⟩:=Zev f v r
  rw[show Zm f v ((k,x)::r)=(if k=f then (k,v)::r else (k,x)::Zm f v r) from rfl]
  by_cases hk:k=f
  ·rw[if_pos hk]
   subst hk
   exact⟨by simp,fun g h=>by simpa using h⟩
  ·rw[if_neg hk]
   refine⟨?_,fun g h=>?_⟩
   ·rw[Qi]
    exact Ql _ i1
   ·rw[Qi]at h ⊢
    rcases QH.mp h with e|e
    ·exact List.mem_cons.mpr (.inl e)
    ·exact Ql _ (i2 g e)
theorem ZeF(f:Str)(v:V):∀fs:List (Str×V),(Zm f v fs).length≤fs.length+1
 | []=>by simp[Zm]
 | (k,x)::r=>by
  have ih:=ZeF f v r
  rw[show Zm f v ((k,x)::r)=(if k=f then (k,v)::r else (k,x)::Zm f v r) from rfl]
  by_cases hk:k=f
  ·rw[if_pos hk,QC,QC];omega
  ·rw[if_neg hk,QC,QC];omega
theorem ZcI.some_of{v:V}{o:Option Value}(r:ZcI (some v) o):∃u,o=some u∧ZA v u:=by
 cases o with
 | none=>exact(show False from r).elim
 | some u=>exact⟨u,rfl,r⟩
theorem ZcI.none_of{o:Option Value}(r:ZcI none o):o=none:=by
 cases o with
 | none=>rfl
 | some u=>exact(show False from r).elim
theorem ZjW{v:V}{u:Value}(r:ZA v u):PySem.W.handedIn u=true:=by
 cases v with
 | non=>cases (show u=Value.none from r);rfl
 | bl b=>cases (show u=Value.bool b from r);rfl
 | int i=>obtain⟨t,e⟩:=(show ∃t,u=Value.int i t from r);cases e;rfl
 | str x=>obtain⟨t,e⟩:=(show ∃t,u=Value.str x t from r);cases e;rfl
 | byt b=>obtain⟨t,e⟩:=(show ∃t,u=Value.bytes b t from r);cases e;rfl
 | flt b=>obtain⟨t,e⟩:=(show ∃t,u=Value.float b t from r);cases e;rfl
 | ref a=>cases (show u=Value.ref a from r);rfl
 | ty n=>cases (show u=Value.type n from r);rfl
section
variable {P:Program} {w:World} {H H':Hp} {h h':Heap} {a C dx:Addr} {fs fs':List (Str×V)}
theorem ZdO(hok:HOk P w H h)(e:H a=some (.ins C dx fs)):∃mA,ZiO h a dx C mA∧(∀f,ZcI (fs.lookup f) (mA f))∧PySem.Within mA (fs.map (·.1))∧fs.length≤1000∧H dx=some (.own a):=by
 obtain⟨d,z,ne,ob,mA,n,r,q⟩:=(show Zaa P w H h a (.ins C dx fs) from hok a _ e)
 exact⟨mA,⟨ob,n,ne⟩,r,q,z,d⟩
end
structure Cls (K:PySem.W.Frag) (C:Addr):Prop where
 pg:PySem.W.plainGet K C Str.empty=true
 hd:PySem.W.hasDictIn K C=true
 po:PySem.W.plainOver K C=true
 sa:PySem.W.findIn K (.ref C) "__setattr__" = some (some (.builtin "object.__setattr__"))
theorem Cls.get{K:PySem.W.Frag}{C:Addr}(c:Cls K C)(f:Str):PySem.W.plainGet K C f=true:=c.pg
def ZaV(K:PySem.W.Frag)(C:Addr)(f:Str):Prop:=PySem.W.findIn K (.ref C) f=some none
theorem ZaV.taker{K:PySem.W.Frag}{C:Addr}{f:Str}(n:ZaV K C f):PySem.W.takerIn K C f=some none:=by
 unfold PySem.W.takerIn
 rw[show PySem.W.findIn K (.ref C) f=some none from n]
 rfl
structure Con (K:PySem.W.Frag) (C:Addr) (f:Str) (v:V) (u:Value):Prop where
 at_:PySem.W.findIn K (.ref C) f=some (some u)
 rel:ZA v u
 get:PySem.W.specialIn K u "__get__" = some none
 cp:PySem.W.copiedNames.contains f=false
structure ZlC (K:PySem.W.Frag) (C:Addr) (m:Str) (f:Addr):Prop where
 at_:PySem.W.findIn K (.ref C) m=some (some (.ref f))
 fn:PySem.W.isFn K (.ref f)=true
 kp:PySem.W.keepIn K (.ref f)=true
section
variable {X:Cx} {pins:List (Addr×Obj)} {σ:St} {H:Hp} {s:Shared} {a C dx:Addr} {fs:List (Str×V)} {f:Str} {v:V} {A:Around} {E:Value→Shared→Prop}
theorem Zfj{b:Bool}{Q:Value→Shared→Prop}(I:Inv X pins σ H s)(e:H a=some (.ins C dx fs))(c:Cls X.K C)(n:ZaV X.K C f)(l:fs.lookup f=some v)
  (h:∀u s',Inv X pins σ H s'→ZA v u→Q u s'):wpAny (model X.prog X.w) A (getAttr (.ref a) f b) Q E s:=by
 obtain⟨mA,O,r,_,_,_⟩:=ZdO I.hok e
 obtain⟨u,hu,ru⟩:=ZcI.some_of (v:=v) (o:=mA f) (by rw[← l];exact r f)
 exact Zne I.kIn O (c.get f) c.hd n hu (ZjW ru) (h u _ (I.tok _) ru)
theorem Zfi{m:Str}{g:Addr}{pl:Sem Bool}{Q:Value×List Value→Shared→Prop}(I:Inv X pins σ H s)(e:H a=some (.ins C dx fs))(c:Cls X.K C)(k:ZlC X.K C m g)(l:fs.lookup m=none)
  (h:Q (.ref g,[.ref a]) s):wpAny (model X.prog X.w) A (getMethod (.ref a) m pl) Q E s:=by
 obtain⟨mA,O,r,_,_,_⟩:=ZdO I.hok e
 have hn:mA m=none:=ZcI.none_of (by rw[← l];exact r m)
 exact Zmd I.kIn O (c.get m) k.at_ k.fn hn h
theorem Zfg{y:V}{u:Value}{Q:Unit→Shared→Prop}(I:Inv X pins σ H s)(e:H a=some (.ins C dx fs))(c:Cls X.K C)(n:ZaV X.K C f)(hl:fs.length<1000)(ry:ZA y u)
  (h:∀s',Inv X pins σ (upd H a (.ins C dx (Zm f y fs))) s'→Q () s'):wpAny (model X.prog X.w) A (setAttr (.ref a) f u) Q E s:=by
 obtain⟨mA,O,r,wi,_,ho⟩:=ZdO I.hok e
 have hz:(fs.map (·.1)).length≤sizeLine:=by rw[Qa,sizeLine_eq];omega
 refine Znv I.kIn O c.sa c.po n.taker c.hd wi hz fun h' O' sb=>h _ ?_
 have hd:∃o,h'.get? dx=some o:=let ⟨o,_,_,e',_⟩:=O'.ns;⟨o,e'⟩
 refine I.write (x:=a) (e:=dx) (by rw[e];exact True.intro) (.inr ho) (fun b q hb z=>(sb.2 b hb).trans z) hd ?_
 refine⟨by rw[Zc O.ne];exact ho,?_,O.ne,O'.obj,_,O'.ns,fun g=>?_,fun g hg=>?_⟩
 ·have:=ZeF f y fs;omega
 ·show ZcI ((Zm f y fs).lookup g) (if g=f then some u else mA g)
  rw[Zl]
  by_cases q:g=f
  ·rw[if_pos q,if_pos q];exact ry
  ·rw[if_neg q,if_neg q];exact r g
 ·by_cases q:g=f
  ·rw[q];exact(Zev f y fs).1
  ·refine(Zev f y fs).2 g (wi g fun z=>hg ?_)
   show (if g=f then some u else mA g)=none
   rw[if_neg q];exact z
theorem Inv.made(I:Inv X pins σ H s):Inv X pins σ (upd (upd H s.heap.objs.size (.own (s.heap.objs.size+1))) (s.heap.objs.size+1) (.ins C s.heap.objs.size []))
  { s with heap:=(s.heap.push PySem.W.emptyDict).push (PySem.W.instObj C s.heap.objs.size) }:=by
 have e1:(s.heap.push PySem.W.emptyDict).get? s.heap.objs.size=some PySem.W.emptyDict:=Qz s.heap rfl
 have e2:((s.heap.push PySem.W.emptyDict).push (PySem.W.instObj C s.heap.objs.size)).get? (s.heap.objs.size+1)=some (PySem.W.instObj C s.heap.objs.size):=by
  have:=Qz (s.heap.push PySem.W.emptyDict) (o:=PySem.W.instObj C s.heap.objs.size) rfl
  rwa [Qaa]at this
 have e3:(s.heap.push PySem.W.emptyDict).Ns s.heap.objs.size (fun _=>none):=⟨PySem.W.emptyDict,#[],_,e1,rfl,(fun e he=>absurd he (by simp)),fun _=>rfl⟩
 have I1:=I.laid (a:=s.heap.objs.size) (o:=.own (s.heap.objs.size+1)) (h':=s.heap.push PySem.W.emptyDict) (t':=s.toks) (fun b u q=>Qc _ q) (Qg _) ⟨_,e1⟩
 refine I1.laid (a:=s.heap.objs.size+1) (o:=.ins C s.heap.objs.size []) (t':=s.toks) (fun b u q=>Qc _ q) (Nat.le_of_eq (Qaa _ _)) ?_
 have ne:s.heap.objs.size≠s.heap.objs.size+1:=QB (Qa3 _)
 refine⟨by rw[Zc ne,Zd],Qp _,ne,e2,fun _=>none,(Heap.Ns1.of_empty e3).at fun o q=>Qc _ q,fun _=>True.intro,fun y hy=>absurd rfl hy⟩
theorem ZmV{prog:Program}{w:World}{env:Env}{e:Expr}{f:Str}{pos:Pos}{s:Shared}{Q:Value→Shared→Prop}(hb:attributeBase e f env (eval e env)=eval e env)
  (h:wpAny (model prog w) A (eval e env) (fun o s₁=>wpAny (model prog w) A (getAttr o f true) Q E s₁) E s):wpAny (model prog w) A (eval (.Attribute e f pos) env) Q E s :=
 Attribute_any_ h (by rw[arm_eval_Attribute,hb])
end
def Zp9(K:PySem.W.Frag)(ta:TE)(f:Str):TE:=fun σ H Q=>ta σ H fun x H1=>∃a C dx fs v,x=.ref a∧H1 a=some (.ins C dx fs)∧Cls K C∧ZaV K C f∧fs.lookup f=some v∧Q v H1
def ZpQ(K:PySem.W.Frag)(ta tv:TE)(f:Str):TS:=fun D σ H=>tv σ H fun y H1=>ta σ H1 fun x H2=>∃a C dx fs,x=.ref a∧H2 a=some (.ins C dx fs)∧Cls K C∧ZaV K C f∧fs.length<1000 ∧
 D.nx σ (upd H2 a (.ins C dx (Zm f y fs)))
def Zpi(X:Cx)(op:Operator)(rd:V→V→Hp→VK→Prop):Prop :=
 ∀ (pins:List (Addr×Obj)) (s:Shared) (σ:St) (H:Hp) (x y:V) (u v:Value) (Q:VK),Inv X pins σ H s→ZA x u→ZA y v→rd x y H Q→wpAny (model X.prog X.w) X.A (inplaceOp op u v) (EP X pins σ Q) X.xe s
def Zmv(K:PySem.W.Frag)(ta tv:TE)(rd:V→V→Hp→VK→Prop)(f:Str):TS:=fun D σ H=>ta σ H fun x H1=>∃a C dx fs v,x=.ref a∧H1 a=some (.ins C dx fs)∧Cls K C∧ZaV K C f∧fs.lookup f=some v ∧
 tv σ H1 fun y H2=>rd v y H2 fun z H3=>∃dx' fs',H3 a=some (.ins C dx' fs')∧fs'.length<1000∧D.nx σ (upd H3 a (.ins C dx' (Zm f z fs')))
section
variable {X:Cx} {o e value:Expr} {f:Str} {pos pos' tpos:Pos} {ta tv:TE}
theorem ZW(he:PE X e ta)(hb:attributeBase e f X.env (eval e X.env)=eval e X.env):PE X (.Attribute e f pos) (Zp9 X.K ta f):=by
 intro pins s σ H Q I h
 refine ZmV hb (thn (he pins s σ H _ I h) ?_)
 rintro u s1 ⟨x,H1,I1,rx,a,C,dx,fs,v,ex,ea,c,n,l,q⟩
 subst ex
 obtain rfl:u=Value.ref a:=rx
 exact Zfj I1 ea c n l fun u' s2 I2 ru=>⟨v,H1,I2,ru,q⟩
theorem Zbw(ha:PE X o ta)(hv:PE X value tv)(hs:swapsWith value (some (.Attribute o f pos')) pos.line X.env=pure false):PS X (.Assign [.Attribute o f pos'] value pos) (ZpQ X.K ta tv f):=by
 intro pins s σ H D I h
 refine plainObj_wpAny_Assign_Attribute (thn (hv pins s σ H _ I h) fun u s1 ⟨y,H1,I1,ry,q⟩=>thn (ha pins s1 σ H1 _ I1 q) ?_) hs
 rintro ov s2 ⟨x,H2,I2,rx,a,C,dx,fs,ex,ea,c,n,l,q2⟩
 subst ex
 obtain rfl:ov=Value.ref a:=rx
 exact Zfg I2 ea c n l ry fun s3 I3=>⟨σ,_,I3,q2⟩
theorem Zc8{op:Operator}{rd:V→V→Hp→VK→Prop}(ha:PE X o ta)(hv:PE X value tv)(hop:Zpi X op rd):PS X (.AugAssign (.Attribute o f tpos) op value pos) (Zmv X.K ta tv rd f):=by
 intro pins s σ H D I h
 refine wpAny_AugAssign_AttributeAny (thn (ha pins s σ H _ I h) ?_)
 rintro ov s1 ⟨x,H1,I1,rx,a,C,dx,fs,v,ex,ea,c,n,l,q⟩
 subst ex
 obtain rfl:ov=Value.ref a:=rx
 refine Zfj I1 ea c n l fun u s2 I2 ru=>thn (hv pins s2 σ H1 _ I2 q) fun w3 s3 ⟨y,H2,I3,ry,q3⟩=>thn (hop pins s3 σ H2 v y u w3 _ I3 ru ry q3) ?_
 rintro w4 s4 ⟨z,H3,I4,rz,dx',fs',ea',l',q4⟩
 exact Zfg I4 ea' c n l' rz fun s5 I5=>⟨σ,_,I5,q4⟩
def ZpU:V→V→Hp→VK→Prop:=fun x y H Q=>∃i j,x=.int i∧y=.int j∧Q (.int (i+j)) H
theorem Zg9:Zpi X .Add ZpU:=by
 rintro pins s σ H x y u v Q I rx ry ⟨i,j,rfl,rfl,q⟩
 obtain⟨t,rfl⟩:=(show ∃t,u=Value.int i t from rx)
 obtain⟨t',rfl⟩:=(show ∃t',v=Value.int j t' from ry)
 exact PyProof.Rows.iadd_int ⟨.int (i+j),H,I.tok _,⟨_,rfl⟩,q⟩
end
section
variable {X:Cx} {pins:List (Addr×Obj)} {σ:St} {H:Hp} {s:Shared} {A:Around} {E:Value→Shared→Prop} {Q:Value→Shared→Prop} {c:Value} {b:Bool}
inductive ZdR (K:PySem.W.Frag) (H:Hp):V→Value→Prop where
 | non:ZdR K H .non (.type "NoneType")
 | bl (x:Bool):ZdR K H (.bl x) (.type "bool")
 | int (i:Int):ZdR K H (.int i) (.type "int")
 | str (x:Str):ZdR K H (.str x) (.type "str")
 | flt (x:UInt64):ZdR K H (.flt x) (.type "float")
 | lst {a:Addr} {xs:List V} (e:H a=some (.lst xs)):ZdR K H (.ref a) (.type "list")
 | frz {a:Addr} {o:Obj} {xs:List V} (e:H a=some (.frz o (.lst xs))):ZdR K H (.ref a) (.type "list")
 | tup {a:Addr} {xs:List V} (e:H a=some (.tup xs)):ZdR K H (.ref a) (.type "tuple")
 | dK {a:Addr} {kvs:List (Key×V)} (e:H a=some (.dK kvs)):ZdR K H (.ref a) (.type "dict")
 | dT {a:Addr} {kvs:List (List Key×V)} (e:H a=some (.dT kvs)):ZdR K H (.ref a) (.type "dict")
 | ins {a C dx:Addr} {fs:List (Str×V)} (e:H a=some (.ins C dx fs)) (cl:Cls K C) (ha:PySem.W.findIn K (.ref C) "__class__" = some (some (.builtin "object.__class__")))
   (hn:PySem.W.specialIn K (.builtin "object.__class__") "__get__" = some (some (.builtin "getset_descriptor.__get__"))) (htk:PySem.W.takesIn K (.builtin "object.__class__")=some true)
   (hm:PySem.W.mroIn K C (.type "object")=some true):ZdR K H (.ref a) (.ref C)
theorem ZjO{x:V}{u t:Value}(I:Inv X pins σ H s)(rx:ZA x u)(ty:ZdR X.K H x t)(e:PySem.W.kitOne X.K t c=some b)(h:∀tk,Q (.bool b) { s with toks:=tk }) :
  wpAny (model X.prog X.w) A (call (.builtin "isinstance") [u,c]) Q E s:=by
 cases ty with
 | non=>cases (show u=Value.none from rx);exact Q1 PySem.W.kitx_none I.kIn True.intro e (fun z=>nomatch z) h
 | bl y=>cases (show u=Value.bool y from rx);exact Q1 PySem.W.kitx_bool I.kIn True.intro e (fun z=>nomatch z) h
 | int i=>obtain⟨t,q⟩:=(show ∃t,u=Value.int i t from rx);cases q;exact Q1 PySem.W.kitx_int I.kIn True.intro e (fun z=>nomatch z) h
 | str y=>obtain⟨t,q⟩:=(show ∃t,u=Value.str y t from rx);cases q;exact Q1 PySem.W.kitx_str I.kIn True.intro e (fun z=>nomatch z) h
 | flt y=>obtain⟨t,q⟩:=(show ∃t,u=Value.float y t from rx);cases q;exact Q1 PySem.W.kitx_float I.kIn True.intro e (fun z=>nomatch z) h
 | @lst a xs ea =>
  cases (show u=Value.ref a from rx)
  obtain⟨_,_,n,_,h1⟩:=(show Zaa X.prog X.w H s.heap a (.lst xs) from I.hok a _ ea)
  exact Q1 QaX I.kIn ⟨_,h1,rfl⟩ e (fun z=>nomatch z) h
 | @frz a ob xs ea =>
  cases (show u=Value.ref a from rx)
  obtain⟨_,_,_,n,_,h1⟩:=(show Zaa X.prog X.w H s.heap a (.frz ob (.lst xs)) from I.hok a _ ea)
  exact Q1 QaX I.kIn ⟨_,h1,rfl⟩ e (fun z=>nomatch z) h
 | @tup a xs ea =>
  cases (show u=Value.ref a from rx)
  obtain⟨_,_,_,p⟩:=(show Zaa X.prog X.w H s.heap a (.tup xs) from I.hok a _ ea)
  obtain⟨o,h1,h2,_⟩:=p
  exact Q1 PySem.W.kitx_tuple I.kIn ⟨o,h1,h2⟩ e (fun z=>nomatch z) h
 | @dK a kvs ea =>
  cases (show u=Value.ref a from rx)
  obtain⟨_,_,vs,_,p⟩:=(show Zaa X.prog X.w H s.heap a (.dK kvs) from I.hok a _ ea)
  obtain⟨o,es,ep,h1,h2,_⟩:=p
  exact Q1 QaY I.kIn ⟨o,h1,h2.1⟩ e (fun z=>nomatch z) h
 | @dT a kvs ea =>
  cases (show u=Value.ref a from rx)
  obtain⟨_,_,xs,_,o,es,ep,h1,h2,_⟩:=(show Zaa X.prog X.w H s.heap a (.dT kvs) from I.hok a _ ea)
  exact Q1 QaY I.kIn ⟨o,h1,h2.1⟩ e (fun z=>nomatch z) h
 | @ins a C dx fs ea cl ha hn htk hm =>
  cases (show u=Value.ref a from rx)
  obtain⟨mA,O,_⟩:=ZdO I.hok ea
  obtain⟨od,J,_⟩:=O.look
  exact Q1 (PySem.W.kitx_own (cl.get _) cl.hd ha hn htk hm) I.kIn J e (fun z=>nomatch z) h
end
structure ZaI (k:Nat) (A:Around):Prop where
 hd:A.handled=none
 dp:A.depth+3*k+5<recursionLimit
 un:A.units+16*k+200<cLine
 gd:A.guards=some []
theorem ZaI.mono{j k:Nat}{A:Around}(r:ZaI k A)(h:j≤k):ZaI j A:=⟨r.hd,by have:=r.dp;omega,by have:=r.un;omega,r.gd⟩
theorem ZaI.deeper{k:Nat}{A:Around}(r:ZaI (k+1) A)(env:Env):ZaI k (A.deeper env) :=
 ⟨r.hd,by have:=r.dp;show A.depth+1+3*k+5<_;omega,by have:=r.un;show A.units+3+16*k+200<_;omega,r.gd⟩
theorem Zis{A:Around}{C:Addr}{us:List Value}{kw:List (Str×Value)}:(A.under (.builtin "type.__call__" ⟨.ref C::us,kw⟩)).depth=A.depth+1:=by
 first|rfl|simp[Around.under,Code.weight,Code.isCreation,Code.isGuard,Code.isCaller,Code.frames,Code.isFrame,guardIds]
theorem Ziu{A:Around}{C:Addr}{us:List Value}{kw:List (Str×Value)}:(A.under (.builtin "type.__call__" ⟨.ref C::us,kw⟩)).units=A.units+1:=by
 first|rfl|simp[Around.under,Code.cUnits,Code.frames,Code.isFrame]
theorem ZaI.make{k:Nat}{A:Around}(r:ZaI (k+1) A)(C:Addr)(us:List Value)(kw:List (Str×Value)):ZaI k (A.under (.builtin "type.__call__" ⟨.ref C::us,kw⟩)) :=
 ⟨r.hd,by have:=r.dp;rw[Zis];omega,by have:=r.un;rw[Ziu];omega,by rw[show (A.under (.builtin "type.__call__" ⟨.ref C::us,kw⟩)).guards=A.guards from by first|rfl|simp[Around.under,pushGuards,Code.guards,Code.isGuard,guardIds]];exact r.gd⟩
theorem ZaI.depth{k:Nat}{A:Around}(r:ZaI k A):A.depth<recursionLimit:=by have:=r.dp;omega
theorem ZaI.units{k:Nat}{A:Around}(r:ZaI k A):A.units+64<cLine:=by have:=r.un;omega
def Zn9:TA:=fun _ H Q=>Q [] H
def ZpK(ta:TE)(tr:TA):TA:=fun σ H Q=>ta σ H fun x H1=>tr σ H1 fun xs H2=>Q (x::xs) H2
section
variable {X:Cx} {e:Expr} {es:List Expr} {te:TE} {t:TA} {pos:Pos}
theorem Ze:PA X [] Zn9:=fun _ _ _ _ H Q I h=>Calls.spliced_nil ⟨[],H,I,.nil,h⟩
theorem Za(ha:PE X e te)(hr:PA X es t)(hs:starEach (e::es) X.env=(false,eval e X.env)::starEach es X.env:=by rfl):PA X (e::es) (ZpK te t):=by
 intro pos pins s σ H Q I h
 rw[hs]
 show wpAny _ _ (spliced ((false,eval e X.env)::backTo pos (starEach es X.env))) _ _ s
 refine Calls.spliced_cons (thn (ha pins s σ H _ I h) ?_)
 rintro u s1 ⟨x,H1,I1,r1,q1⟩
 exact thn (hr pos pins s1 σ H1 _ I1 q1) fun us s2 ⟨xs,H2,I2,r2,q2⟩=>⟨x::xs,H2,I2,.cons r1 r2,q2⟩
def Zp2(t:TA):TE:=fun σ H Q=>t σ H fun xs H1=>xs.length≤sizeLine∧∀p,H1 p=none→Q (.ref p) (upd H1 p (.tup xs))
def ZpO(t:TA):TE:=fun σ H Q=>t σ H fun xs H1=>xs.length≤sizeLine∧∀p,H1 p=none→Q (.ref p) (upd H1 p (.lst xs))
theorem Zay{x1}(h:PA X es t):PE X (.Tuple es x1 pos) (Zp2 t):=by
 intro pins s σ H Q I hq
 refine wpAny_Tuple_spliced (thn (h pos pins s σ H _ I hq) fun us s1 ⟨xs,H1,I1,r,z,q⟩=>⟨by rw[← r.length];exact z,?_⟩)
 have hf:H1 s1.heap.objs.size=none:=I1.hok.fresh (Qg _)
 refine⟨.ref s1.heap.objs.size,upd H1 s1.heap.objs.size (.tup xs),I1.laid (t':=s1.toks) (fun b u e=>Qc _ e) (Qg _) ?_,rfl,q _ hf⟩
 exact⟨z,us,r,⟨_,Qz _ rfl,rfl,_,rfl⟩⟩
theorem ZaN(h:PA X es t):PE X (.List es pos) (ZpO t):=by
 intro pins s σ H Q I hq
 refine wpAny_List_spliced (thn (h pos pins s σ H _ I hq) fun us s1 ⟨xs,H1,I1,r,z,q⟩=>⟨by rw[← r.length];exact z,?_⟩)
 have hf:H1 s1.heap.objs.size=none:=I1.hok.fresh (Qg _)
 refine⟨.ref s1.heap.objs.size,upd H1 s1.heap.objs.size (.lst xs),I1.laid (t':=s1.toks) (fun b u e=>Qc _ e) (Qg _) ?_,rfl,q _ hf⟩
 exact⟨z,us,0,r,Qz _ rfl⟩
end
abbrev Sp:=List V→Hp→VK→XK→Prop
abbrev CXT:=List Env→Hp→Shared→XK→Value→Shared→Prop
structure Zij (P:Program) (w:World) (K:PySem.W.Frag) (mg:Str→Option Value) (base:Heap) (A:Around) (outer:List Env) (s:Shared) (H:Hp):Prop where
 frames:A.frames=some outer
 mod:Mod K mg base
 bs:∀b o,base.get? b=some o→s.heap.get? b=some o∧H b=none
 bsz:base.objs.size≤s.heap.objs.size
 funs:s.heap.FunFrames base outer
 frf:∀b∈frs outer,H b=none
 hok:HOk P w H s.heap
 bare:AllBare s.gens
def CE(outer:List Env)(P:Program)(w:World)(H:Hp)(s:Shared)(Q:VK)(u:Value)(s':Shared):Prop :=
 ∃v H',s'.os=s.os∧AllBare s'.gens∧Un (frs outer) [] H H' s.heap s'.heap∧HOk P w H' s'.heap∧ZA v u∧Q v H'
def CR(CX:CXT)(outer:List Env)(P:Program)(w:World)(H:Hp)(s:Shared)(Q:VK)(E:XK)(r:Result)(s':Shared):Prop :=
 match r with
 | .ok (.ret u)=>CE outer P w H s Q u s'
 | .ok _=>False
 | .error e=>CX outer H s E e s'
structure Zdi (P:Program) (w:World) (K:PySem.W.Frag) (mg:Str→Option Value) (base:Heap) (CX:CXT) (k:Nat) (f:Addr) (fd:FuncData) (ps:List Str) (sp:Sp):Prop where
 len:∀vs H Q E,sp vs H Q E→vs.length=ps.length
 run:∀ (A:Around) (outer:List Env) (s:Shared) (H:Hp) (args:Args) (us:List Value) (vs:List V) (Q:VK) (E:XK),ZaI k A→Zij P w K mg base A outer s H→BindsTo s fd args (ps.zip us)→Zy vs us→sp vs H Q E →
  codeAny (model P w) A (.call (.ref f) args) (CR CX outer P w H s Q E) s
theorem Zij.make{P:Program}{w:World}{K:PySem.W.Frag}{mg:Str→Option Value}{base:Heap}{A:Around}{outer:List Env}{s:Shared}{H:Hp}(e:Zij P w K mg base A outer s H)(C:Addr)(us:List Value)(kw:List (Str×Value)) :
  Zij P w K mg base (A.under (.builtin "type.__call__" ⟨.ref C::us,kw⟩)) outer s H:=⟨by first|exact e.frames|(simpa [Around.under,Code.envs,Code.isFrame,pushEnvs] using e.frames),e.mod,e.bs,e.bsz,e.funs,e.frf,e.hok,e.bare⟩
section
variable {X:Cx} {pins:List (Addr×Obj)} {σ:St} {H:Hp} {s s':Shared}
theorem Inv.env0(I:Inv X pins σ H s):Zij X.prog X.w X.K X.mg X.base X.A X.stack s H :=
 ⟨I.ok.frames,I.ok.mod,I.bs,QP I.ok.bsz I.sz,I.stack,I.stkFree,I.hok,I.bare⟩
theorem Inv.after{Q:VK}{u:Value}(I:Inv X pins σ H s)(h:CE X.stack X.prog X.w H s Q u s'):EP X pins σ Q u s':=by
 obtain⟨v,H',os,bare,un,hok,r,q⟩:=h
 obtain⟨hh,g,d,t,os'⟩:=s'
 obtain rfl:os'=s.os:=os
 exact⟨v,H',I.call (h':=hh) (g':=g) (d':=d) (t':=t) (ch:=[]) un hok bare (fun b z=>absurd z (by simp)),r,q⟩
end
def ZnC(sp:Sp)(dvs:List V)(E:XK)(t:TA):TE:=fun σ H Q=>t σ H fun vs H1=>sp (vs++dvs) H1 Q E
def Zjv(C:Addr)(m:Str)(sp:Sp)(dvs:List V)(E:XK)(ta:TE)(t:TA):TE:=fun σ H Q=>ta σ H fun x H1=>∃a dx fs,x=.ref a∧H1 a=some (.ins C dx fs)∧fs.lookup m=none ∧
 t σ H1 fun vs H2=>sp (x::(vs++dvs)) H2 Q E
def ZnH(C:Addr)(sp:Sp)(dvs:List V)(E:XK)(t:TA):TE:=fun σ H Q=>t σ H fun vs H1=>∀x dx,H1 x=none→H1 dx=none→dx≠x →
 sp (.ref x::(vs++dvs)) (upd (upd H1 dx (.own x)) x (.ins C dx [])) (fun v H2=>v=.non∧Q (.ref x) H2) E
def ZbK(K:PySem.W.Frag)(fd:FuncData)(ps:List Str)(ds:List Value):Prop :=
 ∀ (s:Shared) (us:List Value),K.In s.heap→(us++ds).length=ps.length→BindsTo s fd ⟨us,[]⟩ (ps.zip (us++ds))
theorem ZbK.all{K:PySem.W.Frag}{fd:FuncData}{ps:List Str}(h:∀us:List Value,us.length=ps.length→bindArgs fd ⟨us,[]⟩=pure (ps.zip us)):ZbK K fd ps []:=fun s us _ hl=>by
 rw[Qav]at hl ⊢
 exact .of_eq (h us hl)
def Zdx(CX:CXT)(X:Cx)(E:XK):Prop:=∀ (pins:List (Addr×Obj)) (σ:St) (H:Hp) (s:Shared) (e:Value) (s':Shared),Inv X pins σ H s→CX X.stack H s E e s'→X.xe e s'
section
variable {X:Cx} {CX:CXT} {k:Nat} {f C:Addr} {fd:FuncData} {ps:List Str} {sp:Sp} {dvs:List V} {ds:List Value} {E:XK} {x m:Str} {p pos apos:Pos} {e o:Expr} {es:List Expr} {ta:TE} {t:TA}
theorem ZiM{pins:List (Addr×Obj)}{σ:St}{H:Hp}{s:Shared}{Q:VK}{us:List Value}{vs:List V}(F:Zdi X.prog X.w X.K X.mg X.base CX k f fd ps sp)(hr:ZaI k X.A)(hb:ZbK X.K fd ps ds)(hd:Zy dvs ds)(hx:Zdx CX X E)
  (I:Inv X pins σ H s) (r:Zy vs us) (h:sp (vs++dvs) H Q E):wpAny (model X.prog X.w) X.A (call (.ref f) us) (EP X pins σ Q) X.xe s:=by
 have r2:Zy (vs++dvs) (us++ds):=r.append hd
 have hl:(us++ds).length=ps.length:=by rw[← r2.length];exact F.len _ _ _ _ h
 refine wpAny_call (codeAny_mono (F.run X.A X.stack s H ⟨us,[]⟩ (us++ds) (vs++dvs) Q E hr I.env0 (hb s us I.kIn hl) r2 h) fun r s' hq=>?_)
 cases r with
 | error e=>exact hx pins σ H s e s' I hq
 | ok fl =>
  cases fl with
  | ret u=>exact I.after hq
  | next=>exact False.elim hq
  | brk=>exact False.elim hq
  | cont=>exact False.elim hq
theorem Zmw(F:Zdi X.prog X.w X.K X.mg X.base CX k f fd ps sp)(hr:ZaI k X.A)(hg:Gl X x)(hm:X.mg x=some (.ref f))(hk:PySem.W.keepIn X.K (.ref f)=true)(hb:ZbK X.K fd ps ds)(hd:Zy dvs ds)(hx:Zdx CX X E)
  (ha:PA X (e::es) t) (hdb:(x == ("__debug__" : Str))=false:=by decide) (he:starEach (e::es) X.env=(false,eval e X.env)::starEach es X.env:=by rfl) (hpl:(backTo pos (starEach es X.env)).any (·.1)=false:=by rfl) :
  PE X (.Call (.Name x p) (e::es) [] pos) (ZnC sp dvs E t):=by
 intro pins s σ H Q I h
 refine wpAny_Call_Name_kw (ZiS I hg hm ?_ hdb)
 refine PySem.W.callWith_K (h₀:=X.base) I.ok.mod.kin hk (thn (ha pos pins s σ H _ I h) fun us s1 ⟨vs,H1,I1,r,q⟩=>⟨I1.kIn,?_⟩) he hpl
 exact ZiM F hr hb hd hx I1 r q
theorem ZmC{pl:Sem Bool}(he:PE X o ta)(c:Cls X.K C)(hm:ZlC X.K C m f)(F:Zdi X.prog X.w X.K X.mg X.base CX k f fd ps sp)(hr:ZaI k X.A)(hb:ZbK X.K fd ps ds)(hd:Zy dvs ds)(hx:Zdx CX X E)(ha:PA X (e::es) t)
  (hst:starEach (e::es) X.env=(false,eval e X.env)::starEach es X.env:=by rfl) (hpl:(backTo pos (starEach es X.env)).any (·.1)=false:=by rfl)
  (ht:eval (.Call (.Attribute o m apos) (e::es) [] pos) X.env=(do
   let ov ← eval o X.env
   standAt apos.atName
   let (f,first) ← holding [ov] (getMethod ov m pl)
   callWith pos f first (backTo pos (starEach (e::es) X.env)) (backToKw pos (keywordEach [] X.env))):=by rfl) :
  PE X (.Call (.Attribute o m apos) (e::es) [] pos) (Zjv C m sp dvs E ta t):=by
 intro pins s σ H Q I h
 refine PySem.W.methodCall_KW (pl:=pl) (thn (he pins s σ H _ I h) ?_) ht
 rintro u s1 ⟨x,H1,I1,rx,a,dx,fs,ex,ea,l,q⟩
 subst ex
 obtain rfl:u=Value.ref a:=rx
 refine Zfi I1 ea c hm l ?_
 refine PySem.W.callWith_K (first:=[.ref a]) (h₀:=X.base) I.ok.mod.kin hm.kp (thn (ha pos pins s1 σ H1 _ I1 q) fun us s2 ⟨vs,H2,I2,r,q2⟩=>⟨I2.kIn,?_⟩) hst hpl
 exact ZiM (us:=.ref a::us) (vs:=.ref a::vs) F hr hb hd hx I2 (.cons rfl r) q2
theorem ZlA{pl:Sem Bool}(he:PE X o ta)(c:Cls X.K C)(hm:ZlC X.K C m f)(F:Zdi X.prog X.w X.K X.mg X.base CX k f fd ps sp)(hr:ZaI k X.A)(hb:ZbK X.K fd ps ds)(hd:Zy dvs ds)(hx:Zdx CX X E)
  (ht:eval (.Call (.Attribute o m apos) [] [] pos) X.env=(do
   let ov ← eval o X.env
   standAt apos.atName
   let (f,first) ← holding [ov] (getMethod ov m pl)
   callWith pos f first (backTo pos (starEach [] X.env)) (backToKw pos (keywordEach [] X.env))):=by rfl) :
  PE X (.Call (.Attribute o m apos) [] [] pos) (Zjv C m sp dvs E ta Zn9):=by
 intro pins s σ H Q I h
 refine PySem.W.methodCall_KW (pl:=pl) (thn (he pins s σ H _ I h) ?_) ht
 rintro u s1 ⟨x,H1,I1,rx,a,dx,fs,ex,ea,l,q⟩
 subst ex
 obtain rfl:u=Value.ref a:=rx
 refine Zfi I1 ea c hm l ?_
 exact PySem.W.callWith_K0 (first:=[.ref a]) I1.kIn hm.kp (ZiM (us:=[.ref a]) (vs:=[.ref a]) F hr hb hd hx I1 (.cons rfl .nil) q)
structure Mk (K:PySem.W.Frag) (C f:Addr):Prop where
 makes:PySem.W.makesIn K C=true
 init:PySem.W.findIn K (.ref C) "__init__" = some (some (.ref f))
 fn:PySem.W.isFn K (.ref f)=true
 kp:PySem.W.keepIn K (.ref C)=true
theorem Zk7{pins:List (Addr×Obj)}{σ:St}{H:Hp}{s:Shared}{Q:VK}{us:List Value}{vs:List V}(M:Mk X.K C f)(F:Zdi X.prog X.w X.K X.mg X.base CX k f fd ps sp)(hr:ZaI (k+1) X.A)(hb:ZbK X.K fd ps ds)(hd:Zy dvs ds)
  (hx:Zdx CX X E) (I:Inv X pins σ H s) (r:Zy vs us)
  (h:∀x dx,H x=none→H dx=none→dx≠x→sp (.ref x::(vs++dvs)) (upd (upd H dx (.own x)) x (.ins C dx [])) (fun v H2=>v=.non∧Q (.ref x) H2) E) :
  wpAny (model X.prog X.w) X.A (call (.ref C) us) (EP X pins σ Q) X.xe s:=by
 have hq:=h (s.heap.objs.size+1) s.heap.objs.size (I.hok.fresh (Qaj _)) (I.hok.fresh (Qg _)) (QB (Qa3 _))
 have I2:=Inv.made (C:=C) I
 have r2:Zy (V.ref (s.heap.objs.size+1)::(vs++dvs)) (Value.ref (s.heap.objs.size+1)::(us++ds)):=.cons rfl (r.append hd)
 have hl:(Value.ref (s.heap.objs.size+1)::us++ds).length=ps.length:=by
  have e:=r2.length
  rw[F.len _ _ _ _ hq]at e
  exact e.symm
 refine wpAny_call (ZlD (f:=f) I.kIn M.makes M.init (beq_iff_eq.mp M.fn) (codeAny_mono (F.run _ X.stack _ _ ⟨Value.ref (s.heap.objs.size+1)::us,[]⟩ (Value.ref (s.heap.objs.size+1)::(us++ds)) _ _ E (hr.make C us [])
  (I2.env0.make C us []) (hb _ (Value.ref (s.heap.objs.size+1)::us) I2.kIn hl) r2 hq) fun r s' hq'=>?_))
 cases r with
 | error e=>exact hx pins σ _ _ e s' I2 hq'
 | ok fl =>
  cases fl with
  | ret u =>
   obtain⟨v,H',I3,rv,ev,q3⟩:=I2.after hq'
   subst ev
   exact⟨rv,⟨V.ref (s.heap.objs.size+1),H',I3,rfl,q3⟩⟩
  | next=>exact False.elim hq'
  | brk=>exact False.elim hq'
  | cont=>exact False.elim hq'
theorem Znk(M:Mk X.K C f)(F:Zdi X.prog X.w X.K X.mg X.base CX k f fd ps sp)(hr:ZaI (k+1) X.A)(hg:Gl X x)(hm:X.mg x=some (.ref C))(hb:ZbK X.K fd ps ds)(hd:Zy dvs ds)(hx:Zdx CX X E)
  (ha:PA X (e::es) t) (hdb:(x == ("__debug__" : Str))=false:=by decide) (he:starEach (e::es) X.env=(false,eval e X.env)::starEach es X.env:=by rfl) (hpl:(backTo pos (starEach es X.env)).any (·.1)=false:=by rfl) :
  PE X (.Call (.Name x p) (e::es) [] pos) (ZnH C sp dvs E t):=by
 intro pins s σ H Q I h
 refine wpAny_Call_Name_kw (ZiS I hg hm ?_ hdb)
 refine PySem.W.callWith_K (h₀:=X.base) I.ok.mod.kin M.kp (thn (ha pos pins s σ H _ I h) fun us s1 ⟨vs,H1,I1,r,q⟩=>⟨I1.kIn,?_⟩) he hpl
 exact Zk7 M F hr hb hd hx I1 r q
end
section
variable {X:Cx} {CX:CXT} {k:Nat} {f C:Addr} {fd:FuncData} {ps ks:List Str} {sp:Sp} {E:XK} {x m:Str} {p pos apos kpos:Pos} {e o:Expr} {es:List Expr} {kws:List Keyword} {te ta:TE} {t tk:TA} {nm:Option Str}
structure KBinds (K:PySem.W.Frag) (fd:FuncData) (ps ks:List Str) (g:List Value→List Value→List Value) (gV:List V→List V→List V):Prop where
 to:∀ (s:Shared) (us ws:List Value),K.In s.heap→(g us ws).length=ps.length→BindsTo s fd ⟨us,ks.zip ws⟩ (ps.zip (g us ws))
 rel:∀ {vs:List V} {us:List Value} {zs:List V} {ws:List Value},Zy vs us→Zy zs ws→Zy (gV vs zs) (g us ws)
variable {g:List Value→List Value→List Value} {gV:List V→List V→List V}
end
structure Zp (N P:List Str) (sc:Scope):Prop where
 kind:sc.kind=.function
 co:sc.isCoroutine=false
 gen:sc.isGenerator=false
 nd:N.Nodup
 pre:N.take P.length=P
 par:∀x∈P,sc.names.lookup x=some .local∨sc.names.lookup x=some .cell
 nofree:∀y∈sc.names,y.2≠.free
theorem Zgf{kindOf:Str→Option NameKind}{x:Str}:∀ {binds:List (Str×Value)} {m:Str→Option Value},(∀v,(x,v) ∉ binds)→bindL kindOf binds m x=m x
 | [],_,_=>rfl
 | (n,v)::r,m,h=>by
  unfold bindL
  rw[Zgf fun w hw=>h w (Ql _ hw)]
  split
  ·have:x≠n:=by rintro rfl;exact h v QK
   simp[this]
  ·rfl
theorem Zgg{kindOf:Str→Option NameKind}{x:Str}:∀ {binds:List (Str×Value)} {m:Str→Option Value},(∀v,(x,v) ∉ binds)→bindC kindOf binds m x=m x
 | [],_,_=>rfl
 | (n,v)::r,m,h=>by
  unfold bindC
  rw[Zgg fun w hw=>h w (Ql _ hw)]
  split
  ·rfl
  ·have:x≠n:=by rintro rfl;exact h v QK
   simp[this]
theorem Zgj{kindOf:Str→Option NameKind}{x:Str}{v:Value}:∀ {P:List Str} {vs:List Value} {i:Nat} {m:Str→Option Value},P.Nodup→P[i]? = some x→vs[i]? = some v→kindOf x=some .local →
  bindL kindOf (P.zip vs) m x=some v
 | [],_,_,_,_,h,_,_=>by simp at h
 | _::_,[],_,_,_,_,h,_=>by simp at h
 | p::P,w::vs,0,m,nd,h1,h2,hk=>by
  simp at h1 h2;subst h1;subst h2
  show bindL kindOf ((p,w)::P.zip vs) m p=_
  unfold bindL
  rw[Zgf fun v hv=>(Q8.mp nd).1 (List.of_mem_zip hv).1,if_pos hk]
  simp
 | p::P,w::vs,i+1,m,nd,h1,h2,hk=>by
  show bindL kindOf ((p,w)::P.zip vs) m x=_
  unfold bindL
  exact Zgj (i:=i) (Q8.mp nd).2 (by simpa using h1) (by simpa using h2) hk
theorem Zgb{kindOf:Str→Option NameKind}{x:Str}{v:Value}:∀ {P:List Str} {vs:List Value} {i:Nat} {m:Str→Option Value},P.Nodup→P[i]? = some x→vs[i]? = some v→kindOf x≠some .local →
  bindC kindOf (P.zip vs) m x=some v
 | [],_,_,_,_,h,_,_=>by simp at h
 | _::_,[],_,_,_,_,h,_=>by simp at h
 | p::P,w::vs,0,m,nd,h1,h2,hk=>by
  simp at h1 h2;subst h1;subst h2
  show bindC kindOf ((p,w)::P.zip vs) m p=_
  unfold bindC
  rw[Zgg fun v hv=>(Q8.mp nd).1 (List.of_mem_zip hv).1,if_neg hk]
  simp
 | p::P,w::vs,i+1,m,nd,h1,h2,hk=>by
  show bindC kindOf ((p,w)::P.zip vs) m x=_
  unfold bindC
  exact Zgb (i:=i) (Q8.mp nd).2 (by simpa using h1) (by simpa using h2) hk
def ZcP(N:List Str)(vs:List V):St:=vs.map some++List.replicate (N.length-vs.length) none
def ZgY(CX:CXT)(P:Program)(w:World)(K:PySem.W.Frag)(mg:Str→Option Value)(base:Heap)(N:List Str)(qual:Str)(scope:Scope)(f:Addr)(cd:Value)(A:Around)(outer:List Env)(s:Shared)(H:Hp)(E:XK):Cx where
 prog:=P
 w:=w
 K:=K
 mg:=mg
 base:=base
 A:=A.deeper (envOfC qual scope s.heap.objs.size f cd)
 N:=N
 s₀:=s
 H₀:=H
 env:=envOfC qual scope s.heap.objs.size f cd
 outer:=outer
 stack:=envOfC qual scope s.heap.objs.size f cd::outer
 ex:=[]
 calm:=true
 fn:=fun _=>true
 pn:=[]
 xe:=fun e s'=>wpAny (model P w) (A.deeper (envOfC qual scope s.heap.objs.size f cd)) (leaving (envOfC qual scope s.heap.objs.size f cd) e) (fun _ s''=>CX outer H s E e s'') (fun e' s''=>CX outer H s E e' s'') s'
theorem Zid{sc:Scope}{n:Nat}{x:Str}(h:sc.names.lookup x=some .cell):∃c,(cellsFrom n sc.names []).lookup x=some c:=by
 have q:=PySem.W.cellsFrom_some sc.names n [] (.inl h)
 exact Option.isSome_iff_exists.mp q
theorem Zkh{CX:CXT}{P:Program}{w:World}{K:PySem.W.Frag}{mg:Str→Option Value}{base:Heap}{N ps:List Str}{qual:Str}{scope:Scope}{f:Addr}{cd:Value}{A:Around}{outer:List Env}{s s1:Shared}{H:Hp}{E:XK}{us:List Value}{vs:List V}
  (S:Zp N ps scope) (hd:A.handled=none) (e0:Zij P w K mg base A outer s H) (hl:vs.length=ps.length) (r:Zy vs us)
  (x:InCallC s s.heap.objs.size (bindL (envOfC qual scope s.heap.objs.size f cd).kindOf (ps.zip us) fun _=>none) (cellsFrom (s.heap.objs.size+1) scope.names []) (bindC (envOfC qual scope s.heap.objs.size f cd).kindOf (ps.zip us) fun _=>none) s1) :
  Inv (ZgY CX P w K mg base N qual scope f cd A outer s H E) [] (ZcP N vs) H s1:=by
 have hpl:ps.length≤N.length:=by have:=congrArg List.length S.pre;rw[Qq]at this;omega
 obtain⟨h1,tk,rfl,hk⟩:=x.done
 have noA:∀b:Addr,b ∉ (ZgY CX P w K mg base N qual scope f cd A outer s H E).ex:=fun b z=>absurd (show b∈([]:List Addr) from z) (by simp)
 refine⟨⟨e0.mod,S.kind,rfl,rfl,Qg _,fun y z c h1 h2=>?_,fun y hy=>?_,fun y c _ h=>?_,fun _=>hd,Around.frames_deeper e0.frames,.inr ⟨rfl,rfl⟩,fun b z=>absurd z (noA b),e0.bs,e0.bsz,fun b _ _=>noA b,fun b z=>absurd z (noA b),e0.funs,e0.frf⟩,
  rfl,e0.bare,Un.kept hk,⟨_,x.toInCall.ns,fun i y v h1 h2 h3=>?_⟩,fun y c h=>⟨_,x.cell y c h⟩,e0.hok.fresh (Qg _),fun y c h=>?_,fun p hp=>absurd (show p∈([]:List (Addr×Obj)) from hp) (by simp),e0.hok.kept hk,?_⟩
 ·exact name_of_addr x.apart (Qag h1) (Qag h2)
 ·have hy:scope.names.lookup y=some .cell∨scope.names.lookup y=some .free:=hy
  rcases hy with hy|hy
  ·exact Zid hy
  ·exact absurd rfl (S.nofree _ (Qag hy))
 ·exact Nat.le_of_lt (x.above y c (Qag h))
 ·have hi:i<vs.length:=by
   unfold ZcP at h2
   by_cases hi:i<vs.length
   ·exact hi
   ·rw[QR (by simpa using hi)]at h2
    rw[List.getElem?_replicate]at h2
    split at h2<;>cases h2
  have ha:vs[i]? = some v:=by
   unfold ZcP at h2
   rw[Q5 (by simpa using hi),Qs]at h2
   cases e:vs[i]? with
   | none=>rw[e]at h2;cases h2
   | some a=>rw[e]at h2;cases h2;rfl
  obtain⟨u,hu,rv⟩:=r.get ha
  have hp:ps[i]? = some y:=by
   rw[← S.pre,List.getElem?_take_of_lt (by omega)];exact h1
  have ndP:ps.Nodup:=by rw[← S.pre];exact S.nd.sublist (Qaz _ _)
  refine⟨u,rv,?_⟩
  rcases S.par y (Qw hp) with k|k
  ·exact .inl ⟨k,Zgj ndP hp hu k⟩
  ·obtain⟨c,e⟩:=Zid (n:=s.heap.objs.size+1) k
   refine .inr ⟨.inl k,c,e,?_⟩
   have q:=x.cell y c e
   rw[Zgb ndP hp hu (by show scope.names.lookup y≠_;rw[k];decide)]at q
   exact q
 ·exact e0.hok.fresh (Nat.le_of_lt (x.above y c (Qag h)))
 ·unfold ZcP
  show _=N.length
  rw[Qd,Qa,Qay]
  omega
theorem Zpf{CX:CXT}{P:Program}{w:World}{K:PySem.W.Frag}{mg:Str→Option Value}{base:Heap}{k:Nat}{f:Addr}{name qual:Str}{params:Arguments}{body:List Stmt}{scope:Scope}{dV kV doc pm cdv ct oc:Value}{an od:Option Addr}
  {osl:Array (Option Value)} {N ps:List Str} {sp:Sp} (lk:K.lookup f=some ⟨oc,od,.func (PySem.W.fnOf name qual params body scope dV kV doc pm an cdv ct),osl⟩) (hcd:PySem.W.codeIn K cdv qual=true) (S:Zp N ps scope)
  (len:∀vs H Q E,sp vs H Q E→vs.length=ps.length)
  (hbody:∀ (A:Around) (outer:List Env) (s:Shared) (H:Hp) (vs:List V) (Q:VK) (E:XK),ZaI k (A.deeper (envOfC qual scope s.heap.objs.size f cdv))→sp vs H Q E →
   ∃t,PSs (ZgY CX P w K mg base N qual scope f cdv A outer s H E) body t∧t { nx:=fun _ H'=>Q .non H',rt:=Q } (ZcP N vs) H) :
  Zdi P w K mg base CX (k+1) f (PySem.W.fnOf name qual params body scope dV kV doc pm an cdv ct) ps sp:=by
 refine⟨len,fun A outer s H args us vs Q E hr e0 hb r hsp=>?_⟩
 have hl:=len _ _ _ _ hsp
 have KX:K.In s.heap:=e0.mod.kin.keeps fun b o e=>(e0.bs b o e).1
 have lim:s.heap.NoLimit:=e0.mod.nolimit.keeps fun b o e=>(e0.bs b o e).1
 have hkind:∀y∈ps.zip us,scope.names.lookup y.1=some .local∨(scope.names.lookup y.1=some .cell∧((cellsFrom (s.heap.objs.size+1) scope.names []).lookup y.1).isSome=true):=fun ⟨n,v⟩ hy=>by
  rcases S.par n (List.of_mem_zip hy).1 with q|q
  ·exact .inl q
  ·exact .inr ⟨q,PySem.W.cellsFrom_some _ _ _ (.inl q)⟩
 refine codeAny_call_function hr.depth (KX _ _ lk) rfl S.co S.gen rfl (PySem.W.codeRec_of KX hcd) (hb _ _ _ _ ?_)
 refine wpAny_newFunctionEnv_cells S.kind hkind fun env he s1 x=>?_
 subst he
 refine⟨lim.keeps x.toInCall.keep,codeAny_func ?_⟩
 obtain⟨t,ht,hq⟩:=hbody A outer s H vs Q E (hr.deeper _) hsp
 have I:Inv (ZgY CX P w K mg base N qual scope f cdv A outer s H E) [] (ZcP N vs) H s1:=Zkh S hr.hd e0 hl r x
 refine wpAny_mono (ht [] s1 (ZcP N vs) H _ I hq) (fun fl s' hs=>?_) fun e s' hs=>hs
 have fin:∀ {σ':St} {H':Hp} {v:V} {u:Value},Inv (ZgY CX P w K mg base N qual scope f cdv A outer s H E) [] σ' H' s'→ZA v u→Q v H'→CE outer P w H s Q u s' :=
  fun {σ' H' v u} J rv q=>⟨v,H',J.os,J.bare,J.base,J.hok,rv,q⟩
 cases fl with
 | ret u =>
  obtain⟨v,σ',H',J,rv,q⟩:=hs
  exact fin J rv q
 | next =>
  obtain⟨σ',H',J,q⟩:=hs
  exact fin (v:=V.non) (u:=Value.none) J rfl q
 | brk =>
  obtain⟨_,_,_,q⟩:=hs
  exact False.elim q
 | cont =>
  obtain⟨_,_,_,q⟩:=hs
  exact False.elim q
section
variable {X:Cx} {x:Str} {p pos:Pos} {e:Expr} {es:List Expr} {t:TA} {id T:String} {r:List V→Hp→VK→Prop}
def tCB(r:List V→Hp→VK→Prop)(t:TA):TE:=fun σ H Q=>t σ H fun vs H1=>r vs H1 Q
theorem Zk(hc:Zaz X (.builtin id) r)(hg:Gl X x)(hm:X.mg x=none)(hv:bootBuiltins x=some (.builtin id))(ha:PA X (e::es) t)(hn:x ≠ "__name__":=by decide)(hdb:(x == ("__debug__" : Str))=false:=by decide)
  (he:starEach (e::es) X.env=(false,eval e X.env)::starEach es X.env:=by rfl) (hpl:(backTo pos (starEach es X.env)).any (·.1)=false:=by rfl):PE X (.Call (.Name x p) (e::es) [] pos) (tCB r t):=by
 intro pins s σ H Q I h
 refine wpAny_Call_Name_kw (Zdz I hg hm hv ?_ hn hdb)
 exact PyProof.Rows.callWith_builtin1 (thn (ha pos pins s σ H _ I h) fun us s1 ⟨vs,H1,I1,r1,q1⟩=>hc pins s1 σ H1 vs us Q I1 r1 q1) he hpl
theorem Zb9(hc:Zaz X (.type T) r)(hg:Gl X x)(hm:X.mg x=none)(hv:bootBuiltins x=some (.type T))(ha:PA X (e::es) t)(hn:x ≠ "__name__":=by decide)(hdb:(x == ("__debug__" : Str))=false:=by decide)
  (he:starEach (e::es) X.env=(false,eval e X.env)::starEach es X.env:=by rfl) (hpl:(backTo pos (starEach es X.env)).any (·.1)=false:=by rfl):PE X (.Call (.Name x p) (e::es) [] pos) (tCB r t):=by
 intro pins s σ H Q I h
 refine wpAny_Call_Name_kw (Zdz I hg hm hv ?_ hn hdb)
 exact Q9 (thn (ha pos pins s σ H _ I h) fun us s1 ⟨vs,H1,I1,r1,q1⟩=>hc pins s1 σ H1 vs us Q I1 r1 q1) he hpl
end
end L2
namespace HT
open PySem PyProof.Rows
section
open PySem.SeqAt
open PySem.AutoSeq1 (wpAny_loadPart')
open PySem.MeetsSeq PySem.MeetsSeq2 PySem.MeetsSeq3
end
section
variable {prog:Program} {w:World} {A:Around} {E:Value→Shared→Prop} {s:Shared}
def sIx(n d:Nat):Option Int→Nat
 | none=>d
 | some v=>if v<0 then (v+(n:Int)).toNat else min v.toNat n
end
end HT
namespace L2
open PySem PySem.Spec PyProof.Rows
abbrev TO:=St→Hp→(Option Int→Hp→Prop)→Prop
def PO(X:Cx)(e:Option Expr)(t:TO):Prop :=
 ∀ (pins:List (Addr×Obj)) (s:Shared) (σ:St) (H:Hp) (Q:Option Int→Hp→Prop),Inv X pins σ H s→t σ H Q →
  wpAny (model X.prog X.w) X.A (evalPart e X.env) (fun u s'=>∃o H',Inv X pins σ H' s'∧IsPart u o∧Q o H') X.xe s
def ZmB:TO:=fun _ H Q=>Q none H
def Zpt(t:TE):TO:=fun σ H Q=>t σ H fun x H1=>∃i,x=.int i∧Q (some i) H1
theorem ZiB{ns:List Int}:∀ {us:List Value},Zy (ns.map V.int) us→IntsAre us ns:=by
 induction ns with
 | nil=>intro us r;rw[List.map_nil]at r;cases r;exact .nil
 | cons n ns ih =>
  intro us r
  rw[Qi]at r
  cases r with
  | cons r1 r2 =>
   obtain⟨t,e⟩:=r1
   subst e
   exact .cons n t (ih r2)
section
variable {X:Cx} {e:Expr} {te:TE} {lo hi:Option Expr} {tl th:TO} {pos p2:Pos}
theorem ZgE:PO X none ZmB:=by
 intro pins s σ H Q I h
 rw[evalPart_none]
 exact wpAny_pure ⟨none,H,I,.none,h⟩
theorem ZgP(h:PE X e te):PO X (some e) (Zpt te):=by
 intro pins s σ H Q I hw
 rw[evalPart_some]
 refine thn (h pins s σ H _ I hw) ?_
 rintro u s1 ⟨x,H1,I1,r1,q1⟩
 obtain⟨i,rfl,q⟩:=q1
 obtain⟨t,rfl⟩:=r1
 exact⟨some i,H1,I1,.int i t,q⟩
def SlR(X:Cx)(r:V→Option Int→Option Int→Hp→VK→Prop):Prop :=
 ∀ (pins:List (Addr×Obj)) (s:Shared) (σ:St) (H:Hp) (x:V) (v vl vu:Value) (lo hi:Option Int) (sl:Addr) (Q:VK),Inv X pins σ H s→ZA x v→s.heap.IsSliceOf sl vl vu .none→IsPart vl lo→IsPart vu hi→r x lo hi H Q →
  ∃T id,typeLookup (.type T) "__getitem__" = pure (some (.builtin id))∧s.TypeIs v T∧wpAny (model X.prog X.w) X.A (getItem v (.ref sl)) (EP X pins σ Q) X.xe s
def tSl(r:V→Option Int→Option Int→Hp→VK→Prop)(te:TE)(tl th:TO):TE:=fun σ H Q=>te σ H fun x H1=>tl σ H1 fun l H2=>th σ H2 fun u H3=>r x l u H3 Q
theorem Ze5{r:V→Option Int→Option Int→Hp→VK→Prop}(hr:SlR X r)(he:PE X e te)(hl:PO X lo tl)(hu:PO X hi th):PE X (.Subscript e (.Slice lo hi none p2) pos) (tSl r te tl th):=by
 intro pins s σ H Q I h
 refine Subscript_ (thn (he pins s σ H _ I h) ?_)
 rintro v s1 ⟨x,H1,I1,r1,q1⟩
 refine wpAny_Slice (thn (hl pins s1 σ H1 _ I1 q1) fun vl s2 ⟨l,H2,I2,pl,q2⟩=>thn (hu pins s2 σ H2 _ I2 q2) ?_)
 rintro vu s3 ⟨u,H3,I3,pu,q3⟩
 rw[evalPart_none]
 refine wpAny_pure ?_
 have I4:Inv X pins σ H3 { s3 with heap:=s3.heap.push { cls:=.type "slice",data:=.fields #[vl,vu,.none] } }:=I3.kept (t':=s3.toks) fun b ob q=>Qc _ q
 obtain⟨T,id,hT,ht,hg⟩:=hr pins { s3 with heap:=s3.heap.push { cls:=.type "slice",data:=.fields #[vl,vu,.none] } } σ H3 x v vl vu l u s3.heap.objs.size Q I4 r1 (Heap.IsSliceOf.new ..) pl pu q3
 show wpAny (model X.prog X.w) X.A (subscriptTail e (.Slice lo hi none p2) v (.ref s3.heap.objs.size)) (EP X pins σ Q) X.xe { s3 with heap:=s3.heap.push { cls:=.type "slice",data:=.fields #[vl,vu,.none] } }
 exact tail_any (ops:=[.ref s3.heap.objs.size,v]) ht hT hg (by with_unfolding_all rfl)
def ZgW(xs:List V)(lo hi:Option Int):List V:=(xs.drop (HT.sIx xs.length 0 lo)).take (HT.sIx xs.length xs.length hi-HT.sIx xs.length 0 lo)
theorem Zez(xs:List V)(lo hi:Option Int):(ZgW xs lo hi).length≤xs.length:=by
 unfold ZgW
 rw[Qq,QI]
 omega
end
def ixN(n:Nat)(i:Int):Option Nat:=if 0≤i then (if i<n then some i.toNat else none) else if -(n:Int)≤i then some (i+n).toNat else none
def atI{α:Type}(xs:List α)(i:Int):Option α:=(ixN xs.length i).bind fun j=>xs[j]?
theorem Zji{n:Nat}{i:Int}{j:Nat}(h:ixN n i=some j):seqIndex? i n=some j∧j<n ∧ -(n:Int)≤i∧i<n:=by
 unfold ixN at h
 by_cases h0:0≤i
 ·rw[if_pos h0]at h
  by_cases h1:i<n
  ·rw[if_pos h1]at h
   have e:i.toNat=j:=Qj h
   exact⟨by rw[seqIndex_of h0 h1,e],by omega,by omega,h1⟩
  ·rw[if_neg h1]at h;cases h
 ·rw[if_neg h0]at h
  by_cases h1:-(n:Int)≤i
  ·rw[if_pos h1]at h
   have e:(i+n).toNat=j:=Qj h
   exact⟨by rw[seqIndex_neg (by omega) h1,e],by omega,h1,by omega⟩
  ·rw[if_neg h1]at h;cases h
theorem Zg0{α:Type}{xs:List α}{i:Int}{v:α}(h:atI xs i=some v):∃j,seqIndex? i xs.length=some j∧xs[j]? = some v∧j<xs.length ∧ -(xs.length:Int)≤i∧i<xs.length:=by
 unfold atI at h
 cases e:ixN xs.length i with
 | none=>rw[e]at h;cases h
 | some j =>
  rw[e]at h
  obtain⟨h1,h2,h3,h4⟩:=Zji e
  exact⟨j,h1,h,h2,h3,h4⟩
theorem ZaB{α:Type}{xs:List α}{j:Nat}{v:α}(h:xs[j]? = some v):atI xs (j:Int)=some v:=by
 have hj:j<xs.length:=(Qe.mp h).1
 have e:ixN xs.length (j:Int)=some j:=by
  unfold ixN
  rw[if_pos (by omega),if_pos (by omega)];simp
 unfold atI;rw[e];exact h
theorem Zl9{α:Type}(xs:List α)(v:α):atI (xs++[v]) (-1)=some v:=by
 have hl:(xs++[v]).length=xs.length+1:=by simp
 have e:ixN (xs++[v]).length (-1)=some xs.length:=by
  unfold ixN
  rw[hl,if_neg (by decide),if_pos (by omega)]
  congr 1
  omega
 unfold atI
 rw[e]
 show (xs++[v])[xs.length]? = some v
 simp
def Zns(b:Expr):Prop:=∀o i,subscripted b false o i=operate [o,i] (getItem o i)
def IxR(X:Cx)(r:R2):Prop :=
 ∀ (value slice:Expr) (pins:List (Addr×Obj)) (s:Shared) (σ:St) (H:Hp) (x y:V) (v u:Value) (Q:VK),Inv X pins σ H s→ZA x v→ZA y u→r x y H Q →
  subscripted slice false v u=operate [v,u] (getItem v u)→wpAny (model X.prog X.w) X.A (subscriptTail value slice v u) (EP X pins σ Q) X.xe s
def MtR(X:Cx)(id:String)(r:V→List V→Hp→VK→Prop):Prop :=
 ∀ (pins:List (Addr×Obj)) (s:Shared) (σ:St) (H:Hp) (x:V) (xs:List V) (v:Value) (us:List Value) (Q:VK),Inv X pins σ H s→ZA x v→Zy xs us→r x xs H Q →
  wpAny (model X.prog X.w) X.A (call (.builtin id) (v::us)) (EP X pins σ Q) X.xe s
section
variable {X:Cx} {a b:Expr} {ta tb:TE} {pos:Pos}
theorem ZF{r:R2}(hr:IxR X r)(ha:PE X a ta)(hb:PE X b tb)(hs:Zns b):PE X (.Subscript a b pos) (tOp r ta tb):=by
 intro pins s σ H Q I h
 exact Subscript_ (Zot ha hb I h fun v u s2 x y H2 I2 rx ry q=>hr a b pins s2 σ H2 x y v u Q I2 rx ry q (hs _ _))
def Zpn(K:PySem.W.Frag):R2:=fun x y H Q=>∃p xs i v,x=.ref p∧y=.int i∧SqL K H p xs∧atI xs i=some v∧Q v H
def ZoX(K:PySem.W.Frag):R2:=fun x y H Q=>∃p xs i v,x=.ref p∧y=.int i∧SqT K H p xs∧atI xs i=some v∧Q v H
def Zp8:R2:=fun x y H Q=>∃z i c,x=.str z∧y=.int i∧z.length≤sizeLine∧atI z.cps.toList i=some c∧Q (.str ⟨#[c]⟩) H
theorem ZmD:IxR X (Zpn X.K):=by
 intro value slice pins s σ H x y v u Q I rx ry h hs
 obtain⟨p,xs,i,z,rfl,rfl,hq,he,q⟩:=h
 cases rx
 obtain⟨t,rfl⟩:=ry
 obtain⟨its,r,pl,hz⟩:=I.list hq
 obtain⟨j,h1,h2,h3,h4,h5⟩:=Zg0 he
 obtain⟨w,ew,rw'⟩:=r.get h2
 have hl:=r.length
 have hn:=Zen
 have fin:EP X pins σ Q w s:=⟨z,H,I,rw',q⟩
 by_cases h0:0≤i
 ·have hj:i.toNat=j:=by
   rw[seqIndex_of h0 h5]at h1
   exact Qj h1
  exact item_listR pl.isList h0 (by omega) (by rw[hj];simpa using ew) fin hs
 ·have hj:(i+(its.toArray.size:Int)).toNat=j:=by
   rw[seqIndex_neg (by omega) h4]at h1
   rw[Qx,← hl]
   exact Qj h1
  exact subscriptTail_builtinR (x:=w) pl.isList.typeIs slot_list_getitem.lookup
   (wpAny_getItem_list_neg (Q:=fun r s'=>r=w∧EP X pins σ Q r s') pl.isList (by omega) (by rw[Qx]<;>omega) (by omega) (by rw[hj];simpa using ew) ⟨rfl,fin⟩) hs
theorem ZnY:IxR X (ZoX X.K):=by
 intro value slice pins s σ H x y v u Q I rx ry h hs
 obtain⟨p,xs,i,z,rfl,rfl,hq,he,q⟩:=h
 cases rx
 obtain⟨t,rfl⟩:=ry
 obtain⟨its,r,pl,hz⟩:=I.tuple hq
 obtain⟨j,h1,h2,h3,h4,h5⟩:=Zg0 he
 obtain⟨w,ew,rw'⟩:=r.get h2
 have hl:=r.length
 have hn:=Zen
 have fin:EP X pins σ Q w s:=⟨z,H,I,rw',q⟩
 exact subscriptTail_builtinR (x:=w) pl.typeIs slot_tuple_getitem.lookup
  (getItem_tuple (j:=j) (Q:=fun r s'=>r=w∧EP X pins σ Q r s') pl (by omega) (by omega) (by rw[Qx,← hl];exact h1) (by simpa using ew) ⟨rfl,fin⟩) hs
theorem ZeZ:IxR X Zp8:=by
 intro value slice pins s σ H x y v u Q I rx ry h hs
 obtain⟨z,i,c,rfl,rfl,hz,he,q⟩:=h
 obtain⟨t,rfl⟩:=rx
 obtain⟨t',rfl⟩:=ry
 obtain⟨j,h1,h2,h3,h4,h5⟩:=Zg0 he
 have hl:z.cps.toList.length=z.length:=by simp[Str.length]
 rw[hl]at h1 h4 h5
 have hn:=Zen
 exact tail_any (typeIs_str s z t) slot_str_getitem.lookup (getItem_str (c:=c) (by
  have e1:decide (i < -(2 ^ 63:Int))=false:=decide_eq_false (by omega)
  have e2:decide (i≥2 ^ 63)=false:=decide_eq_false (by omega)
  rw[e1,e2,Bool.or_false]) (by rw[h1];simpa using h2) ⟨.str ⟨#[c]⟩,H,I.tok _,⟨_,rfl⟩,q⟩) hs
theorem Zii(its:List Value)(n j:Nat)(u:Value):Obj.mapSeq (·.setIfInBounds j u) { cls:=.type "list",data:=.seq its.toArray n }={ cls:=.type "list",data:=.seq (its.set j u).toArray n }:=by
 simp[Obj.mapSeq]
theorem Inv.lst{pins:List (Addr×Obj)}{σ:St}{H:Hp}{s:Shared}{p:Addr}{xs:List V}(I:Inv X pins σ H s)(h:H p=some (.lst xs)) :
  ∃ (its:List Value) (n:Nat),Zy xs its∧s.heap.get? p=some { cls:=.type "list",data:=.seq its.toArray n }∧xs.length≤sizeLine:=by
 obtain⟨z,its,n,r,e⟩:=I.hok p _ h
 exact⟨its,n,r,e,z⟩
theorem Inv.lstUpd{pins:List (Addr×Obj)}{σ:St}{H:Hp}{s:Shared}{p:Addr}{xs ys:List V}{its its':List Value}{n n':Nat}{f:Obj→Obj}(I:Inv X pins σ H s)(h:H p=some (.lst xs))
  (ho:s.heap.get? p=some { cls:=.type "list",data:=.seq its.toArray n }) (hf:f { cls:=.type "list",data:=.seq its.toArray n }={ cls:=.type "list",data:=.seq its'.toArray n' }) (r:Zy ys its') (hz:ys.length≤sizeLine) (t:Nat) :
  Inv X pins σ (upd H p (.lst ys)) { s with heap:=s.heap.update p f,toks:=t }:=by
 have e:(s.heap.update p f).get? p=some { cls:=.type "list",data:=.seq its'.toArray n' }:=by
  rw[Heap.get?_update_self f ho (by rw[hf]<;>rfl),hf]
 refine I.write (x:=p) (e:=p) (by rw[h];trivial) (.inl rfl) (fun b u hb q=>(Heap.get?_update_other _ _ (Ne.symm hb)).trans q) ⟨_,e⟩ ?_
 exact⟨hz,its',n',r,e⟩
def ZpJ:V→V→V→Hp→(Hp→Prop)→Prop:=fun o i v H Q=>∃p xs k j,o=.ref p∧i=.int k∧H p=some (.lst xs)∧ixN xs.length k=some j∧Q (upd H p (.lst (xs.set j v)))
theorem ZhO:ZoC X ZpJ:=by
 intro pins s σ H o i v ov iv u Q I ro ri rv h
 obtain⟨p,xs,k,j,rfl,rfl,hp,hj,q⟩:=h
 cases ro
 obtain⟨t,rfl⟩:=ri
 obtain⟨its,n,r,ho,hz⟩:=I.lst hp
 obtain⟨h1,h2,h3,h4⟩:=Zji hj
 have hl:=r.length
 have hn:=Zen
 have I':Inv X pins σ (upd H p (.lst (xs.set j v))) { s with heap:=s.heap.update p (Obj.mapSeq (·.setIfInBounds j u)) } :=
  I.lstUpd hp ho (Zii its n j u) (r.set rv j) (by rw[List.length_set];exact hz) s.toks
 by_cases h0:0≤k
 ·have hk:k.toNat=j:=by
   rw[seqIndex_of h0 h4]at h1
   exact Qj h1
  exact PySem.W.ki_setAt ho h0 (by omega) (by rw[Qx,← hl];exact h4) (by rw[hk];exact⟨_,I',q⟩)
 ·have hk:(k+(its.toArray.size:Int)).toNat=j:=by
   rw[seqIndex_neg (by omega) h3]at h1
   rw[Qx,← hl]
   exact Qj h1
  exact PySem.W.ki_setBack ho (by omega) (by rw[Qx,← hl];exact h3) (by omega) (by rw[hk];exact⟨_,I',q⟩)
theorem ZgB(lo hi:Option Int)(n:Nat):(sliceBounds lo hi none n).1=((HT.sIx n 0 lo:Nat):Int)∧(sliceBounds lo hi none n).2.1=((HT.sIx n n hi:Nat):Int)∧(sliceBounds lo hi none n).2.2=1:=by
 refine⟨?_,?_,rfl⟩
 ·cases lo with
  | none=>simp[sliceBounds,HT.sIx]
  | some i =>
   simp only[sliceBounds,HT.sIx,Option.getD_none,show (1:Int)>0 by decide,if_true]
   by_cases h:i<0
   ·simp only[h,if_true]<;>omega
   ·simp only[h,if_false]<;>omega
 ·cases hi with
  | none=>simp[sliceBounds,HT.sIx]
  | some i =>
   simp only[sliceBounds,HT.sIx,Option.getD_none,show (1:Int)>0 by decide,if_true]
   by_cases h:i<0
   ·simp only[h,if_true]<;>omega
   ·simp only[h,if_false]<;>omega
theorem ZfO(its:List Value)(lo hi:Option Int):slicePick its.toArray lo hi none=((its.drop (HT.sIx its.length 0 lo)).take (HT.sIx its.length its.length hi-HT.sIx its.length 0 lo)).toArray:=by
 obtain⟨h1,h2,h3⟩:=ZgB lo hi its.toArray.size
 unfold slicePick
 rw[h1,h2,h3]
 simp only[sliceRange_one,pick_run,List.size_toArray]<;>rfl
def Zpl(K:PySem.W.Frag):V→Option Int→Option Int→Hp→VK→Prop:=fun x lo hi H Q=>∃a xs,x=.ref a∧SqL K H a xs∧∀p,H p=none→Q (.ref p) (upd H p (.lst (ZgW xs lo hi)))
theorem ZmL:SlR X (Zpl X.K):=by
 intro pins s σ H x v vl vu lo hi sl Q I rx hs pl pu h
 obtain⟨a,xs,rfl,hx,q⟩:=h
 cases rx
 obtain⟨its,r,ht,hz⟩:=I.list hx
 have hlen:=r.length
 refine⟨"list",_,slot_list_getitem.lookup,ht.isList.typeIs,?_⟩
 refine wpAny_getItem_list_slice ht.isList hs pl pu .none (by simp) ?_ (by rw[Qx]<;>omega)
 rw[ZfO,← hlen]
 refine⟨.ref s.heap.objs.size,_,I.laid (t':=s.toks) (o:=.lst (ZgW xs lo hi)) (fun b ob q=>Qc _ q) (Qg _) ?_,rfl,q _ (I.hok.fresh (Qg _))⟩
 exact⟨QP (Zez xs lo hi) hz,_,0,(r.drop (HT.sIx xs.length 0 lo)).take (HT.sIx xs.length xs.length hi-HT.sIx xs.length 0 lo),Qz _ rfl⟩
def Zd5:V→Bool
 | .non=>true
 | .bl _=>true
 | .int _=>true
 | .str _=>true
 | _=>false
def eqV:V→V→Bool
 | .non,.non=>true
 | .bl a,.bl b=>a == b
 | .bl a,.int b=>(if a then 1 else 0) == b
 | .int a,.bl b=>a == (if b then 1 else 0)
 | .int a,.int b=>a == b
 | .str a,.str b=>a == b
 | _,_=>false
theorem Zn0{A:Around}{s:Shared}{y x:V}{u v:Value}(ry:ZA y u)(rx:ZA x v)(fy:Zd5 y=true)(fx:Zd5 x=true):SeqAt.EqAt A s u v (eqV y x):=by
 cases y with
 | non =>
  cases ry
  cases x with
  | non=>cases rx;exact SeqAt.EqAt.same _
  | bl b=>cases rx;exact SeqAt.EqAt.none_bool b
  | int b=>obtain⟨t,rfl⟩:=rx;exact SeqAt.EqAt.none_int b t
  | str b=>obtain⟨t,rfl⟩:=rx;exact SeqAt.EqAt.none_str b t
  | _=>exact absurd (show false=true from fx) Qr
 | bl a =>
  cases ry
  cases x with
  | non=>cases rx;exact SeqAt.EqAt.bool_none a
  | bl b=>cases rx;exact SeqAt.EqAt.bool_bool a b
  | int b=>obtain⟨t,rfl⟩:=rx;exact SeqAt.EqAt.bool_int a b t
  | str b=>obtain⟨t,rfl⟩:=rx;exact SeqAt.EqAt.bool_str a b t
  | _=>exact absurd (show false=true from fx) Qr
 | int a =>
  obtain⟨t',rfl⟩:=ry
  cases x with
  | non=>cases rx;exact SeqAt.EqAt.int_none a t'
  | bl b=>cases rx;exact SeqAt.EqAt.int_bool a t' b
  | int b=>obtain⟨t,rfl⟩:=rx;exact SeqAt.EqAt.int_int a t' b t
  | str b=>obtain⟨t,rfl⟩:=rx;exact SeqAt.EqAt.int_str a t' b t
  | _=>exact absurd (show false=true from fx) Qr
 | str a =>
  obtain⟨t',rfl⟩:=ry
  cases x with
  | non=>cases rx;exact SeqAt.EqAt.str_none a t'
  | bl b=>cases rx;exact SeqAt.EqAt.str_bool a t' b
  | int b=>obtain⟨t,rfl⟩:=rx;exact SeqAt.EqAt.str_int a t' b t
  | str b=>obtain⟨t,rfl⟩:=rx;exact SeqAt.EqAt.str_str a t' b t
  | _=>exact absurd (show false=true from fx) Qr
 | _=>exact absurd (show false=true from fy) Qr
def eqU(x:V)(u:Value):Bool:=match u with
 | .none=>eqV .non x
 | .bool b=>eqV (.bl b) x
 | .int i _=>eqV (.int i) x
 | .str z _=>eqV (.str z) x
 | _=>false
theorem ZkM{x y:V}{u:Value}(r:ZA y u)(f:Zd5 y=true):eqU x u=eqV y x:=by
 cases y with
 | non=>cases r;rfl
 | bl b=>cases r;rfl
 | int i=>obtain⟨t,rfl⟩:=r;rfl
 | str z=>obtain⟨t,rfl⟩:=r;rfl
 | _=>exact absurd (show false=true from f) Qr
theorem ZgR{x:V}:∀ {xs:List V} {us:List Value},Zy xs us→xs.all Zd5=true→us.any (eqU x)=xs.any fun y=>eqV y x
 | _,_,.nil,_=>rfl
 | y::xs,u::us,.cons r t,f=>by
  rw[List.all_cons,QaI]at f
  rw[QaR,QaR,ZkM r f.1,ZgR t f.2]
theorem ZeV{A:Around}{s:Shared}{x:V}{v:Value}(rx:ZA x v)(fx:Zd5 x=true):∀ {xs:List V} {us:List Value},Zy xs us→xs.all Zd5=true→∀u∈us,SeqAt.EqAt A s u v (eqU x u)
 | _,_,.nil,_=>fun u hu=>by cases hu
 | y::xs,u::us,.cons r t,f=>fun u' hu=>by
  rw[List.all_cons,QaI]at f
  rcases QH.mp hu with rfl|hu
  ·rw[ZkM r f.1];exact Zn0 r rx f.1 fx
  ·exact ZeV rx fx t f.2 u' hu
def inV(x:V)(xs:List V):Bool:=xs.any fun y=>eqV y x
def rIn(K:PySem.W.Frag)(neg:Bool):R2:=fun x y H Q=>∃p xs,y=.ref p∧(SqL K H p xs∨SqT K H p xs)∧Zd5 x=true∧xs.all Zd5=true∧Q (.bl (if neg then !inV x xs else inV x xs)) H
theorem ZjK:OpR X (compareOp .In) (rIn X.K false):=by
 intro pins s σ H x y v u Q I rx ry h
 obtain⟨p,xs,rfl,hq,fx,fs,q⟩:=h
 cases ry
 rcases hq with hq|hq
 ·obtain⟨its,r,pl,hz⟩:=I.list hq
  refine SeqAt.in_listAt (eqU x) pl.isList (fun w hw=>ZeV rx fx r fs w (by simpa using hw)) ⟨.bl _,H,I,rfl,?_⟩
  rw[show its.toArray.any (eqU x)=its.any (eqU x) by simp,ZgR r fs]
  exact q
 ·obtain⟨its,r,pl,hz⟩:=I.tuple hq
  refine SeqAt.in_tupleAt (eqU x) pl (fun w hw=>ZeV rx fx r fs w (by simpa using hw)) ⟨.bl _,H,I,rfl,?_⟩
  rw[show its.toArray.any (eqU x)=its.any (eqU x) by simp,ZgR r fs]
  exact q
theorem ZgV:Zaz X (.builtin "len") (fun xs H Q=>∃p ys,xs=[.ref p]∧(SqL X.K H p ys∨SqT X.K H p ys)∧Q (.int ys.length) H):=by
 intro pins s σ H xs us Q I r h
 obtain⟨p,ys,rfl,hq,q⟩:=h
 obtain⟨u,rfl,rx⟩:=ZcB r
 cases rx
 have hn:=Zen
 rcases hq with hq|hq
 ·obtain⟨its,r',pl,hz⟩:=I.list hq
  have hlen:=r'.length
  exact Calls.call_len_list pl.isList (by simp only[List.size_toArray]<;>omega) ⟨.int ys.length,H,I.tok _,⟨s.toks+1,by rw[Qx,hlen]⟩,q⟩
 ·obtain⟨its,r',pl,hz⟩:=I.tuple hq
  have hlen:=r'.length
  exact len_tuple pl (by simp only[List.size_toArray]<;>omega) ⟨.int ys.length,H,I.tok _,⟨s.toks+1,by rw[Qx,hlen]⟩,q⟩
theorem Z0:Zaz X (.builtin "len") (fun xs H Q=>∃z,xs=[.str z]∧z.length≤sizeLine∧Q (.int z.length) H):=by
 intro pins s σ H xs us Q I r h
 obtain⟨z,rfl,hz,q⟩:=h
 obtain⟨u,rfl,t,rfl⟩:=ZcB r
 have hn:=Zen
 exact len_str (by omega) ⟨.int z.length,H,I.tok _,⟨_,rfl⟩,q⟩
theorem ZgL:Zaz X (.type "list") (fun xs H Q=>∃p ys,xs=[.ref p]∧(SqL X.K H p ys∨SqT X.K H p ys)∧∀l,H l=none→Q (.ref l) (upd H l (.lst ys))):=by
 intro pins s σ H xs us Q I r h
 obtain⟨p,ys,rfl,hq,q⟩:=h
 obtain⟨u,rfl,rx⟩:=ZcB r
 cases rx
 have fin:∀ (its:List Value),Zy ys its→ys.length≤sizeLine→∀ (h':Heap) (c':Nat),(∀b o',s.heap.get? b=some o'→h'.get? b=some o') →
   h'.get? s.heap.objs.size=some { cls:=.type "list",dict:=none,data:=.seq its.toArray c',slots:=#[] }→EP X pins σ Q (.ref s.heap.objs.size) { s with heap:=h' }:=fun its r' hz h' c' kp e =>
  ⟨.ref s.heap.objs.size,_,I.laid (t':=s.toks) kp (Qg _) (show Zaa X.prog X.w _ h' _ (.lst ys) from⟨hz,its,c',r',e⟩),rfl,q _ (I.hok.fresh (Qg _))⟩
 rcases hq with hq|hq
 ·obtain⟨its,r',pl,hz⟩:=I.list hq
  have hlen:=r'.length
  obtain⟨o,ho,hc,n,hd⟩:=pl.isList
  exact call_list_seq p (.inl rfl) ho hc hd (fun h' c' kp e=>fin its r' hz h' c' kp e) (by simp only[List.size_toArray]<;>omega)
 ·obtain⟨its,r',pl,hz⟩:=I.tuple hq
  have hlen:=r'.length
  obtain⟨o,ho,hc,n,hd⟩:=pl
  exact call_list_seq p (.inr rfl) ho hc hd (fun h' c' kp e=>fin its r' hz h' c' kp e) (by simp only[List.size_toArray]<;>omega)
def tyV(K:PySem.W.Frag)(T:String)(x:V)(H:Hp):Prop:=match x with
 | .str _=>T = "str"
 | .int _=>T = "int"
 | .ref p=>(T = "list"∧∃xs,SqL K H p xs)∨(T = "tuple"∧∃o,K.lookup p=some o∧o.cls=.type "tuple"∧o.dict=none) ∨
   (T = "dict"∧((∃kvs,H p=some (.dK kvs))∨∃kvs,H p=some (.dT kvs)))∨(T = "set"∧∃S n,H p=some (.set S n))
 | _=>False
theorem ZlZ{pins:List (Addr×Obj)}{σ:St}{H:Hp}{s:Shared}{T:String}{x:V}{v:Value}(I:Inv X pins σ H s)(r:ZA x v)(ty:tyV X.K T x H) :
  s.TypeIs v T∧∀a,v=.ref a→∃ob,s.heap.get? a=some ob∧ob.dict=none:=by
 cases x with
 | str z =>
  obtain⟨t,rfl⟩:=r
  cases (show T = "str" from ty)
  exact⟨typeIs_str s z t,fun _ e=>nomatch e⟩
 | int i =>
  obtain⟨t,rfl⟩:=r
  cases (show T = "int" from ty)
  exact⟨typeIs_int s i t,fun _ e=>nomatch e⟩
 | ref p =>
  cases r
  rcases ty with⟨rfl,xs,hq⟩|⟨rfl,o,hk,hc,hd⟩|⟨rfl,hk⟩|⟨rfl,S,n,hk⟩
  ·obtain⟨its,_,pl,_⟩:=I.list hq
   refine⟨pl.isList.typeIs,fun a e=>?_⟩
   cases e
   obtain⟨o,n,e,c,hd,_⟩:=pl
   exact⟨o,e,hd⟩
  ·refine⟨⟨o,I.kIn p o hk,hc⟩,fun a e=>?_⟩
   cases e
   exact⟨o,I.kIn _ o hk,hd⟩
  ·have z:∃o,s.heap.get? p=some o∧o.ExactDict:=by
    rcases hk with⟨kvs,hk⟩|⟨kvs,hk⟩
    ·obtain⟨_,_,_,_,o,_,_,e,ex,_⟩:=I.hok p _ hk
     exact⟨o,e,ex⟩
    ·obtain⟨_,_,_,_,o,_,_,e,ex,_⟩:=I.hok p _ hk
     exact⟨o,e,ex⟩
   obtain⟨o,e,ex⟩:=z
   refine⟨⟨o,e,ex.1⟩,fun a e2=>?_⟩
   cases e2
   exact⟨o,e,ex.2.1⟩
  ·obtain⟨o,_,_,_,e,ex,_⟩:=I.hok p _ hk
   refine⟨⟨o,e,ex.1⟩,fun a e2=>?_⟩
   cases e2
   exact⟨o,e,ex.2.1⟩
 | _=>exact False.elim ty
def Zp0(K:PySem.W.Frag)(T:String)(r:V→List V→Hp→VK→Prop)(to:TE):TE:=fun σ H Q=>to σ H fun x H1=>tyV K T x H1∧r x [] H1 Q
def tBM(K:PySem.W.Frag)(T:String)(r:V→List V→Hp→VK→Prop)(to:TE)(t:TA):TE:=fun σ H Q=>to σ H fun x H1=>tyV K T x H1∧t σ H1 fun xs H2=>r x xs H2 Q
variable {o e:Expr} {es:List Expr} {to:TE} {t:TA} {name:Str} {apos cpos:Pos} {T id:String} {r:V→List V→Hp→VK→Prop}
theorem Zlb(pa:PlainAttrs T)(slot:Slot T name id)(hty:typeOf (.builtin id)=pure (.type "method_descriptor"))(hm:MtR X id r)(ho:PE X o to)
  (hbase:attributeBase o name X.env (eval o X.env)=eval o X.env:=by rfl) (hline:(apos.endLine == cpos.line)=true:=by rfl):PE X (.Call (.Attribute o name apos) [] [] cpos) (Zp0 X.K T r to):=by
 intro pins s σ H Q I h
 refine wpAny_Call_method0_late hbase hline (thn (ho pins s σ H _ I h) ?_)
 rintro v s1 ⟨x,H1,I1,r1,ty,q1⟩
 obtain⟨h1,h2⟩:=ZlZ I1 r1 ty
 exact⟨T,id,pa,slot,hty,h1,h2,Calls.callWith_builtin rfl (PySem.evalArgs_none (hm pins s1 σ H1 x [] v [] Q I1 r1 .nil q1))⟩
theorem ZeD(pa:PlainAttrs T)(slot:Slot T name id)(hty:typeOf (.builtin id)=pure (.type "method_descriptor"))(hm:MtR X id r)(ho:PE X o to)(ha:PA X (e::es) t)
  (hbase:attributeBase o name X.env (eval o X.env)=eval o X.env:=by rfl)
  (hfew:((backTo cpos (starEach (e::es) X.env)).all (fun x=>!x.1)&&(backToKw cpos (keywordEach [] X.env)).all (fun x=>x.1.isSome)
   && decide ((e::es).length+([]:List Keyword).length+(if ([]:List Keyword).isEmpty then 0 else 1)<30))=true:=by rfl)
  (hline:(apos.endLine == cpos.line)=true:=by rfl) (hs:starEach (e::es) X.env=(false,eval e X.env)::starEach es X.env:=by rfl) (hplain:(backTo cpos (starEach es X.env)).any (·.1)=false:=by rfl) :
  PE X (.Call (.Attribute o name apos) (e::es) [] cpos) (tBM X.K T r to t):=by
 intro pins s σ H Q I h
 refine wpAny_Call_method_late hbase hfew hline rfl (thn (ho pins s σ H _ I h) ?_)
 rintro v s1 ⟨x,H1,I1,r1,ty,q1⟩
 obtain⟨h1,h2⟩:=ZlZ I1 r1 ty
 refine⟨T,id,pa,slot,hty,h1,h2,?_⟩
 have hA:=ha cpos pins s1 σ H1 _ I1 q1
 rw[hs]at hA ⊢
 refine Calls.callWith_builtin (by show (false||(backTo cpos (starEach es X.env)).any (·.1))=false;rw[hplain]<;>rfl) (Calls.evalArgs_plain ?_)
 exact thn hA fun us s2 ⟨vs,H2,I2,r2,q2⟩=>hm pins s2 σ H2 x vs v us Q I2 r1 r2 q2
end
def MtM(X:Cx)(id:String)(r:V→List V→Hp→VK→Prop):Prop :=
 ∀ (pins:List (Addr×Obj)) (s:Shared) (σ:St) (H:Hp) (x:V) (xs:List V) (v:Value) (us:List Value) (Q:VK),Inv X pins σ H s→ZA x v→Zy xs us→r x xs H Q →
  wpAny (model X.prog X.w) X.A (call (.builtin id) (v::us)) (EP X pins σ Q) X.xe s
theorem Zy.one:∀ {x:V} {us:List Value},Zy [x] us→∃u,us=[u]∧ZA x u
 | _,_,.cons r .nil=>⟨_,rfl,r⟩
theorem Zy.two:∀ {x y:V} {us:List Value},Zy [x,y] us→∃u v,us=[u,v]∧ZA x u∧ZA y v
 | _,_,_,.cons r (.cons q .nil)=>⟨_,_,rfl,r,q⟩
theorem Zy.zero:∀ {us:List Value},Zy [] us→us=[]
 | _,.nil=>rfl
theorem Zy.reverse{xs:List V}{us:List Value}(h:Zy xs us):Zy xs.reverse us.reverse:=by
 induction h with
 | nil=>exact .nil
 | cons r t ih=>rw[QaA,QaA];exact Zy.append ih (.cons r .nil)
section
variable {X:Cx} {pins:List (Addr×Obj)} {σ:St} {H:Hp} {s:Shared} {l b:Addr} {xs ys zs:List V}
theorem Inv.lset{its its':List Value}{n:Nat}{f:Array Value→Array Value}{t':Nat}(I:Inv X pins σ H s)(hH:H l=some (.lst xs))
  (e:s.heap.get? l=some { cls:=.type "list",data:=.seq its.toArray n }) (hf:f its.toArray=its'.toArray) (hv:Zy ys its') (hz:ys.length≤sizeLine) :
  Inv X pins σ (upd H l (.lst ys)) { s with heap:=s.heap.update l (Obj.mapSeq f),toks:=t' }:=by
 have q:=PySem.IsL.update e f
 rw[hf]at q
 refine I.write (x:=l) (e:=l) (by rw[hH];exact trivial) (.inl rfl) (fun b' u hb hu=>(Heap.get?_update_other s.heap (Obj.mapSeq f) (Ne.symm hb)).trans hu) ⟨_,q⟩ ?_
 exact⟨hz,its',_,hv,q⟩
theorem Inv.lnew{its:List Value}{t':Nat}(I:Inv X pins σ H s)(hv:Zy ys its)(hz:ys.length≤sizeLine) :
  Inv X pins σ (upd H s.heap.objs.size (.lst ys)) { s with heap:=s.heap.push { cls:=.type "list",data:=.seq its.toArray },toks:=t' } :=
 I.laid (fun _ _ q=>Qc _ q) (Qg _) ⟨hz,its,0,hv,Qz _ rfl⟩
theorem Inv.fresh(I:Inv X pins σ H s):H s.heap.objs.size=none:=I.hok.fresh (Qg _)
theorem Inv.lstM(I:Inv X pins σ H s)(hH:H l=some (.lst xs)):xs.length≤sizeLine∧∃ (its:List Value) (n:Nat),Zy xs its∧xs.length=its.length∧s.heap.get? l=some { cls:=.type "list",data:=.seq its.toArray n }:=by
 obtain⟨z,its,n,r,e⟩:=I.hok l _ hH
 exact⟨z,its,n,r,r.length,e⟩
theorem ZkQ{n:Nat}(h:n≤sizeLine):Builtin.List.listTooLong n=false:=by
 unfold Builtin.List.listTooLong
 exact decide_eq_false (by omega)
end
section
variable {X:Cx}
def ZmA:V→List V→Hp→VK→Prop:=fun x vs H Q=>∃l xs y,x=.ref l∧vs=[y]∧H l=some (.lst xs)∧xs.length<sizeLine∧Q .non (upd H l (.lst (xs++[y])))
theorem Za4:MtM X "list.append" ZmA:=by
 intro pins s σ H x vs v us Q I rx rv h
 obtain⟨l,xs,y,rfl,rfl,hH,hz,q⟩:=h
 cases rx
 obtain⟨u,rfl,ru⟩:=rv.one
 obtain⟨z,its,n,r,hl,e⟩:=I.lstM hH
 refine call_meets F.slot_list_append ⟨_,e,rfl⟩ F.entry_list_append (F.args_list_append_2 _ _) (PySem.list_append l its.toArray n u (by rw[Qx];omega)) ⟨e,?_⟩
 refine⟨.non,_,I.lset (its':=its++[u]) hH e (by simp) (r.append (.cons ru .nil)) ?_,rfl,q⟩
 rw[Qd,QD]
 omega
def Znc:V→List V→Hp→VK→Prop:=fun x vs H Q=>∃l b xs zs,x=.ref l∧vs=[.ref b]∧H l=some (.lst xs)∧H b=some (.lst zs)∧xs.length+zs.length≤sizeLine∧Q .non (upd H l (.lst (xs++zs)))
theorem Zka:MtM X "list.extend" Znc:=by
 intro pins s σ H x vs v us Q I rx rv h
 obtain⟨l,b,xs,zs,rfl,rfl,hH,hB,hz,q⟩:=h
 cases rx
 obtain⟨u,rfl,ru⟩:=rv.one
 cases ru
 obtain⟨z,its,n,r,hl,e⟩:=I.lstM hH
 obtain⟨z2,its2,n2,r2,hl2,e2⟩:=I.lstM hB
 have hsz:its.toArray.size+its2.toArray.size≤sizeLine:=by rw[Qx,Qx];omega
 have hlong:¬ (!its.toArray.isEmpty&&Builtin.List.listTooLong (its.toArray.size+its2.toArray.size))=true:=by
  rw[ZkQ hsz,Bool.and_false]
  exact Qr
 refine call_meets F.slot_list_extend ⟨_,e,rfl⟩ F.entry_list_extend (F.args_list_extend_2 _ _)
  (AutoSeq1.list_extend_list_list_0 l its.toArray n b its2.toArray n2 hlong (by rw[Qx];omega) (by omega)) ⟨e,e2,?_⟩
 refine⟨.non,_,I.lset (its':=its++its2) hH e (by simp) (r.append r2) ?_,rfl,q⟩
 rw[Qd]
 omega
def Zly:V→List V→Hp→VK→Prop:=fun x vs H Q=>∃l xs,x=.ref l∧vs=[]∧H l=some (.lst xs)∧Q .non (upd H l (.lst xs.reverse))
theorem Zin:MtM X "list.reverse" Zly:=by
 intro pins s σ H x vs v us Q I rx rv h
 obtain⟨l,xs,rfl,rfl,hH,q⟩:=h
 cases rx
 have hus:=rv.zero
 subst hus
 obtain⟨z,its,n,r,hl,e⟩:=I.lstM hH
 refine call_meets F.slot_list_reverse ⟨_,e,rfl⟩ F.entry_list_reverse (F.args_list_reverse_1 _) (AutoSeq1.list_reverse_list_0 l its.toArray n (by rw[Qx];omega)) ⟨e,?_⟩
 refine⟨.non,_,I.lset (its':=its.reverse) hH e (by simp) r.reverse ?_,rfl,q⟩
 rw[List.length_reverse]
 omega
end
section
variable {prog:Program} {w:World} {A:Around} {E:Value→Shared→Prop} {s:Shared}
end
section
variable {X:Cx}
end
end L2
namespace Att
open PySem PySem.W PySem.Calls PyProof.Rows
theorem ZeI{P:Params}{h:Heap}:∀ (ns:List Int) (vs:List Value),WellAll P h vs (ns.map WData.int)→IntsAre vs ns:=by
 intro ns
 induction ns with
 | nil =>
  intro vs w
  rw[List.map_nil]at w
  cases w
  exact .nil
 | cons n ns ih =>
  intro vs w
  rw[Qi]at w
  cases w with
  | cons a b =>
   cases a
   exact .cons _ _ (ih _ b)
theorem ZjY{l:OpenLaw}{n:Nat}(hn:l.most=some n){P:Params}{h:Heap}{args:List WData}{vals:List Value}
  (hpre:l.row.toRowW.claim.pre args=true) (hwl:WellAll P h vals args) :
  ∃a vs ns,vals=[Value.ref a]∧args=[WData.list (ns.map WData.int)]∧h.get? a=some { cls:=.type "list",data:=.seq vs.toArray }∧IntsAre vs ns∧ns.length≤n:=by
 have hsh:WShape.hasAll [] args [.list .int]=true:=(pre_splitW hpre).1
 have hc:l.pre.holds [] { args:=args }=true:=(pre_splitW hpre).2
 obtain⟨d,r,rfl,h1,h2⟩:=hasAllW_cons hsh
 obtain rfl:=hasAllW_nil h2
 obtain⟨xs,rfl,h3⟩:=hasW_list h1
 obtain⟨ns,rfl⟩:=items_int h3
 have hlen:ns.length≤n:=by
  unfold OpenLaw.pre at hc
  have h4:(WTm.not (.lt (.lit (.int (n:Int))) (.len (.arg 0)))).holds [] { args:=[.list (ns.map .int)] }=true:=by
   have h4:=(holds_andW hc).1
   rw[hn]at h4
   exact h4
  have h5:=condW_of h4 (w_not (w_lt w_lit (w_len_list (w_arg rfl))))
  rw[Qa]at h5
  refine Nat.le_of_not_lt fun q=>?_
  have q':(n:Int)<((ns.length:Nat):Int):=by omega
  first
   | (rw[decide_eq_true q']at h5;exact absurd h5 (by decide))
   | (simp at h5;omega)
 cases hwl with
 | cons w1 w2 =>
  cases w2
  cases w1 with
  | list ho hall=>exact⟨_,_,ns,rfl,rfl,ho,ZeI ns _ hall,hlen⟩
theorem Zj7(l:OpenLaw)(args:List WData):l.row.toRowW.claim.post args (.bool true) args=true :=
 postW_of (r:=l.row.toRowW) (X:=(true == true))
  (show WShape.has [] (.bool true) .bool=true by first|rfl|decide|simp[WShape.has,WShape.arms,WShape.armsAll])
  (show (WTm.eq .res (.lit (.bool true))).value [] { args:=args,res:=some (.bool true),after:=args }=some (.bool (true == true)) from w_eq_bool (w_res rfl) w_lit) rfl
theorem attach_call{l:OpenLaw}{n:Nat}{q:Program}{loose:List Str}{XP:(Str→Option Value)→Heap→Prop}{YP:World→Heap→Prop}{d:DefRec}
  (hn:l.most=some n) (hdf:d.params.defaults=[])
  (call:∀ (w:World) (s₀ s₁:Shared) (mg mb:Str→Option Value) (fa:Addr) (o:Obj) (pm cd doc:Value) (a:Addr) (vs:List Value) (ns:List Int),
   Ground q loose [] XP w s₀ mg mb s₁.heap→YP w s₁.heap →
   s₁.heap.get? fa=some o→o.data=.func (docDef d.name d.params d.body d.scope pm cd doc)→s₁.heap.CodeRec cd d.name→mg d.name=some (.ref fa) →
   s₁.heap.get? a=some { cls:=.type "list",data:=.seq vs.toArray }→IntsAre vs ns→ns.length≤n→s₁.gens = #[] →
   codeAny (model l.prog w) callerA (.call (.ref fa) ⟨[.ref a],[]⟩) (fun r s'=>r=.ok (.ret (.bool true))∧OldK s₁.heap s'.heap∧s'.os=s₁.os∧AllBare s'.gens) s₁) :
  WalkO q loose XP YP l.row.toRowW d [] (fun f vs=>PySem.call f vs):=by
 intro w s₀ s₁ mg mb G Y fa o pm cd doc dV kV ho hd hcd hD hmg hg args vals as hpre hlay hrd hwl hlo
 obtain rfl:dV=.none:=Dflts.none hD hdf
 obtain rfl:kV=.none:=Dflts.noKw hD
 obtain⟨a,vs,ns,rfl,rfl,hobj,hints,hlen⟩:=ZjY hn hpre hwl
 refine enter_call (codeAny_mono (call w s₀ s₁ mg mb fa o pm cd doc a vs ns G Y ho (fd_plain hd) hcd hmg hobj hints hlen hg) fun r s' hq=>?_)
 obtain⟨rfl,h2,h3,h4⟩:=hq
 exact⟨.inl ⟨.bool true,.bool true,[],rfl,fun _=>rfl,.bool true,Zj7 l _,fun _=>⟨List.Pairwise.nil,fun _ hm=>(nomatch hm)⟩⟩,h2,h3,h4⟩
section
variable {prog:Program} {w:World} {A:Around} {E:Value→Shared→Prop} {s:Shared} {K:Frag}
end
end Att
namespace L2
open PySem PySem.Spec PyProof.Rows
theorem Zgu:∀ {vs:List Value} {ns:List Int},IntsAre vs ns→Zy (ns.map V.int) vs
 | _,_,.nil=>.nil
 | _,_,.cons n t h=>.cons ⟨t,rfl⟩ (Zgu h)
def Zop(H:Hp):Prop:=∀b,H b=none∨∃o xs,H b=some (.frz o (.lst xs))
theorem ZkT{P:Program}{w:World}{K:PySem.W.Frag}{mg mb:Str→Option Value}{CX:CXT}{k:Nat}{fa a:Addr}{fd:FuncData}{x:Str}{sp:Sp}{s₁:Shared}{vs:List Value}{ns:List Int}
  (KX:K.In s₁.heap) (hns:s₁.heap.Ns mainGlobals mg) (hb:s₁.heap.Ns builtinsNs mb) (hbb:∀x:Str,x ≠ "__name__"→mb x=bootBuiltins x) (hlim:s₁.heap.NoLimit) (hg:s₁.gens = #[])
  (ha:s₁.heap.get? a=some { cls:=.type "list",data:=.seq vs.toArray }) (hi:IntsAre vs ns) (hl:ns.length≤sizeLine) (hr:ZaI k callerA)
  (F:∀base:Heap,K.In base→base.Ns mainGlobals mg→Zdi P w K mg base CX k fa fd [x] sp) (hbind:∀ (s:Shared) (u:Value),BindsTo s fd ⟨[u],[]⟩ [(x,u)])
  (hsp:∀H:Hp,Zop H→SqL K H a (ns.map V.int)→sp [.ref a] H (fun v _=>v=.bl true) fun _ _ _=>False)
  (hCX:∀H e s',CX [] H s₁ (fun _ _ _=>False) e s'→False) :
  codeAny (model P w) callerA (.call (.ref fa) ⟨[.ref a],[]⟩) (fun r s'=>r=.ok (.ret (.bool true))∧OldK s₁.heap s'.heap∧s'.os=s₁.os∧AllBare s'.gens) s₁:=by
 have rv:=Zgu hi
 have lenV:=hi.length
 have core:∀H:Hp,Zop H→SqL K H a (ns.map V.int)→HOk P w H s₁.heap→(∀b,H b≠none→b=a)→(H a≠none→K.lookup a=none) →
   codeAny (model P w) callerA (.call (.ref fa) ⟨[.ref a],[]⟩) (fun r s'=>r=.ok (.ret (.bool true))∧OldK s₁.heap s'.heap∧s'.os=s₁.os∧AllBare s'.gens) s₁:=by
  intro H hO hS hok hA hK
  have base_of:∀ {b:Addr} {o:Obj},s₁.heap.get? b=some o→H b=none→(Zg1 s₁.heap H).get? b=some o:=fun e n=>ZlM e n
  have noA:∀ {b:Addr} {o:Obj} {es:Array DictEntry} {ep:Nat},s₁.heap.get? b=some o→o.data=.dict es ep→H b=none:=fun {b o es ep} e d=>by
   cases q:H b with
   | none=>rfl
   | some u =>
    have e':b=a:=hA b (by rw[q];simp)
    subst e'
    rw[ha]at e;cases e
    have d':Data.seq vs.toArray _=Data.dict es ep:=d
    cases d'
  have nsK:∀ {b:Addr} {m:Str→Option Value},s₁.heap.Ns b m→(Zg1 s₁.heap H).Ns b m:=fun {b m} ⟨o,es,ep,e,d,r⟩=>⟨o,es,ep,base_of e (noA e d),d,r⟩
  have hKb:K.In (Zg1 s₁.heap H):=fun b o e=>base_of (KX b o e) (by
   cases q:H b with
   | none=>rfl
   | some u =>
    have e':b=a:=hA b (by rw[q];simp)
    subst e'
    rw[hK (by rw[q];simp)]at e;cases e)
  have hM:Mod K mg (Zg1 s₁.heap H):=⟨hKb,nsK hns,⟨mb,nsK hb,hbb⟩,let ⟨mc,h1,h2⟩:=hlim;⟨mc,nsK h1,h2⟩⟩
  have e0:Zij P w K mg (Zg1 s₁.heap H) callerA [] s₁ H:=⟨rfl,hM,fun b o e=>Znh e,Nat.le_of_eq (Zkx _ _),trivial,fun b hb=>absurd (show b∈([]:List Addr) from hb) (by simp),hok,.of_eq hg⟩
  refine codeAny_mono ((F _ hKb (nsK hns)).run callerA [] s₁ H ⟨[.ref a],[]⟩ [.ref a] [.ref a] _ _ hr e0 (hbind s₁ (.ref a)) (.cons rfl .nil) (hsp H hO hS)) fun r s' h=>?_
  cases r with
  | error e=>exact(hCX H e s' h).elim
  | ok fl =>
   cases fl with
   | next=>exact False.elim h
   | brk=>exact False.elim h
   | cont=>exact False.elim h
   | ret u =>
    obtain⟨v,H',os,bare,un,hok',r',q⟩:=h
    have q':v=.bl true:=q
    subst q'
    obtain rfl:u=Value.bool true:=r'
    refine⟨rfl,OldK.of_keep fun b o e=>?_,os,bare⟩
    cases q:H b with
    | none=>exact un.keep b o e q (by intro z;exact absurd (show b∈([]:List Addr) from z) (by simp)) (by simp)
    | some u =>
     rcases hO b with z|⟨ob,xs,z⟩
     ·rw[q]at z;cases z
     ·have z2:=un.frzs b ob _ z
      obtain⟨e1,_⟩:=hok b _ z
      obtain⟨e2,_⟩:=hok' b _ z2
      rw[e]at e1;cases e1
      exact e2
 cases hk:K.lookup a with
 | some o =>
  have e:=KX a o hk
  rw[ha]at e
  cases e
  refine core (fun _=>none) (fun _=>.inl rfl) (.inr ⟨_,vs.toArray,_,hk,rfl,rfl,rfl,by rw[Qx,lenV];exact hl,by simpa using rv⟩) (fun b u z=>by have z':(none:Option HO)=some u:=z;cases z') (fun b z=>absurd rfl z) fun z=>absurd rfl z
 | none =>
  refine core (fun b=>if b=a then some (.frz { cls:=.type "list",data:=.seq vs.toArray } (.lst (ns.map V.int))) else none) (fun b=>?_) (.inl (.inr ⟨{ cls:=.type "list",data:=.seq vs.toArray },if_pos rfl⟩)) (fun b u z=>?_) (fun b z=>?_) fun _=>hk
  ·by_cases hb:b=a
   ·exact .inr ⟨_,_,if_pos hb⟩
   ·exact .inl (if_neg hb)
  ·by_cases hb:b=a
   ·have z':=(if_pos hb).symm.trans z
    cases z'
    subst hb
    exact⟨ha,by rw[Qa];exact hl,vs,_,rv,ha⟩
   ·have z':=(if_neg hb).symm.trans z
    cases z'
  ·by_cases hb:b=a
   ·exact hb
   ·exact absurd (if_neg hb) z
theorem walk_of{l:PySem.W.OpenLaw}{n k:Nat}{q:Program}{loose:List Str}{XP:(Str→Option Value)→Heap→Prop}{YP:World→Heap→Prop}{d:DefRec}{K:Params→PySem.W.Frag}{CX:World→CXT}{sp:World→Sp}{x:Str}
  (hn:l.most=some n) (hn2:n≤sizeLine) (hdf:d.params.defaults=[]) (hr:ZaI k callerA)
  (hY:∀ (w:World) (h:Heap),YP w h→(K w.params).In h)
  (F:∀ (w:World) (mg:Str→Option Value) (fa:Addr) (h:Heap),(K w.params).In h→h.Ns mainGlobals mg→mg d.name=some (.ref fa) →
   ∃fd:FuncData,(∀ (s:Shared) (u:Value),BindsTo s fd ⟨[u],[]⟩ [(x,u)]) ∧
    ∀base:Heap,(K w.params).In base→base.Ns mainGlobals mg→Zdi l.prog w (K w.params) mg base (CX w) k fa fd [x] (sp w))
  (hsp:∀ (w:World) (H:Hp) (a:Addr) (ns:List Int),ns.length≤n→Zop H→SqL (K w.params) H a (ns.map V.int)→sp w [.ref a] H (fun v _=>v=.bl true) fun _ _ _=>False)
  (hCX:∀ (w:World) (H:Hp) (s:Shared) (e:Value) (s':Shared),CX w [] H s (fun _ _ _=>False) e s'→False) :
  PySem.W.WalkO q loose XP YP l.row.toRowW d [] (fun f vs=>PySem.call f vs):=by
 refine Att.attach_call hn hdf fun w s₀ s₁ mg mb fa o pm cd doc a vs ns G Y ho hd hcd hmg hobj hints hlen hg=>?_
 have KX:=hY w _ Y
 obtain⟨fd,hb,hF⟩:=F w mg fa _ KX G.T.g hmg
 exact ZkT KX G.T.g G.T.b G.T.builtins G.T.nolimit hg hobj hints (QP hlen hn2) hr hF hb (fun H hO hS=>hsp w H a ns hlen hO hS) fun H e s'=>hCX w H s₁ e s'
def ZaD(s:Stmt)(j:Nat):Stmt:=match s with
 | .ClassDef _ _ _ body _ _ _ _ _ _ _=>body.getD j (.Pass ⟨0,0,0,0⟩)
 | _=>.Pass ⟨0,0,0,0⟩
def Zo(s:Stmt):Arguments:=match s with
 | .FunctionDef _ a _ _ _ _ _ _ _ _=>a
 | _=>{ posonlyargs:=[],args:=[],vararg:=none,kwonlyargs:=[],kw_defaults:=[],kwarg:=none,defaults:=[] }
def Zn(s:Stmt):List Stmt:=match s with
 | .FunctionDef _ _ b _ _ _ _ _ _ _=>b
 | _=>[]
def Zf(s:Stmt):Scope:=match s with
 | .FunctionDef _ _ _ _ _ _ sc _ _ _=>sc
 | _=>{ kind:=.function,names:=[],isGenerator:=false,isCoroutine:=false }
abbrev CX0:CXT:=fun _ _ _ _ _ _=>False
abbrev E0:XK:=fun _ _ _=>False
theorem Zjt{X:Cx}:Zdx CX0 X E0:=fun _ _ _ _ _ _ _ h=>h.elim
structure Fun (K:PySem.W.Frag) (x qual:Str) (st:Stmt) (f:Addr) (fd:FuncData):Prop where
 ex:∃ (oc:Value) (od:Option Addr) (kV doc pm:Value) (an:Option Addr) (cdv ct:Value) (osl:Array (Option Value)),
  fd=PySem.W.fnOf x qual (Zo st) (Zn st) (Zf st) .none kV doc pm an cdv ct∧K.lookup f=some ⟨oc,od,.func fd,osl⟩∧PySem.W.codeIn K cdv qual=true
 kp:PySem.W.keepIn K (.ref f)=true
section
variable {P:Program} {w:World} {K:PySem.W.Frag} {mg:Str→Option Value} {base:Heap}
theorem Fun.ok{x qual:Str}{st:Stmt}{f:Addr}{fd:FuncData}{N ps:List Str}{k:Nat}{sp:Sp}(F:Fun K x qual st f fd)(S:Zp N ps (Zf st))(len:∀vs H Q E,sp vs H Q E→vs.length=ps.length)
  (hbody:∀ (cdv:Value) (A:Around) (outer:List Env) (s:Shared) (H:Hp) (vs:List V) (Q:VK) (E:XK),ZaI k (A.deeper (envOfC qual (Zf st) s.heap.objs.size f cdv))→sp vs H Q E →
   ∃t,PSs (ZgY CX0 P w K mg base N qual (Zf st) f cdv A outer s H E).nox (Zn st) t∧t { nx:=fun _ H'=>Q .non H',rt:=Q } (ZcP N vs) H):Zdi P w K mg base CX0 (k+1) f fd ps sp:=by
 obtain⟨oc,od,kV,doc,pm,an,cdv,ct,osl,rfl,lk,hcd⟩:=F.ex
 refine Zpf lk hcd S len fun A outer s H vs Q E hr hsp=>?_
 obtain⟨t,h,q⟩:=hbody cdv A outer s H vs Q E hr hsp
 exact⟨t,h.nox,q⟩
theorem Fun.binds{x qual:Str}{st:Stmt}{f:Addr}{fd:FuncData}{ps:List Str}(F:Fun K x qual st f fd)
  (h:∀ (kV doc pm:Value) (an:Option Addr) (cdv ct:Value) (us:List Value),us.length=ps.length→bindArgs (PySem.W.fnOf x qual (Zo st) (Zn st) (Zf st) .none kV doc pm an cdv ct) ⟨us,[]⟩=pure (ps.zip us)):ZbK K fd ps []:=by
 obtain⟨oc,od,kV,doc,pm,an,cdv,ct,osl,rfl,lk,hcd⟩:=F.ex
 exact .all (h kV doc pm an cdv ct)
theorem ZN{x qual:Str}{st:Stmt}{f:Addr}{oc:Value}{od an:Option Addr}{osl:Array (Option Value)}{kV doc pm cdv ct:Value}(l:K.lookup f=some ⟨oc,od,.func (PySem.W.fnOf x qual (Zo st) (Zn st) (Zf st) .none kV doc pm an cdv ct),osl⟩)
  (c:PySem.W.codeIn K cdv qual=true) (k:PySem.W.keepIn K (.ref f)=true):Fun K x qual st f (PySem.W.fnOf x qual (Zo st) (Zn st) (Zf st) .none kV doc pm an cdv ct):=⟨⟨oc,od,kV,doc,pm,an,cdv,ct,osl,rfl,l,c⟩,k⟩
end
theorem ZlP{A:Around}{k:Nat}(hr:ZaI k A):A.units+1<cLine:=Nat.lt_of_le_of_lt (Nat.add_le_add_left (by decide:1≤64) _) hr.units
theorem Z2{n:Nat}(h:n≤1000):n<sizeLine:=Nat.lt_of_le_of_lt h (by decide)
section
variable {X:Cx}
theorem pv(i:Nat){x:Str}{pos:Pos}(hN:X.N[i]? = some x:=by rfl)(hv:Vis X.env.scope x:=by first|exact Or.inl rfl|exact Or.inr (Or.inl rfl)|exact Or.inr (Or.inr rfl))(hd:(x == ("__debug__" : Str))=false:=by decide)
  (hcd:(x == ("__classdict__" : Str))=false:=by decide):PE X (.Name x pos) (ZmR i):=Zih hN hv hd hcd
end
theorem Zcz{A B:Prop}(h:B):if false=true then A else B:=by
 rw[if_neg Qr]
 exact h
theorem ZfN{A B:Prop}(h:A):if true=true then A else B:=by
 rw[if_pos rfl]
 exact h
theorem Zbo{c A B:Prop}[Decidable c](h1:c→A)(h2:¬ c→B):if c then A else B:=by
 by_cases h:c
 ·rw[if_pos h]
  exact h1 h
 ·rw[if_neg h]
  exact h2 h
theorem Zfn{c A B:Prop}[Decidable c](hc:c)(h:B):if (!decide c)=true then A else B:=by
 rw[decide_eq_true hc]
 exact Zcz h
def ZH(H H':Hp):Prop:=∀b o,H b=some o→H' b=some o
theorem ZH.refl(H:Hp):ZH H H:=fun _ _ h=>h
theorem ZH.trans{H H1 H2:Hp}(a:ZH H H1)(b:ZH H1 H2):ZH H H2:=fun c o h=>b c o (a c o h)
theorem ZH.free{H H':Hp}(e:ZH H H'){l:Addr}(h:H' l=Option.none):H l=Option.none:=by
 cases q:H l with
 | none=>rfl
 | some o =>
  rw[e l o q]at h
  cases h
theorem ZH.seq{K:PySem.W.Frag}{H H':Hp}{a:Addr}{xs:List V}(e:ZH H H')(h:SqL K H a xs):SqL K H' a xs:=by
 rcases h with(h|⟨o,h⟩)|h
 ·exact .inl (.inl (e _ _ h))
 ·exact .inl (.inr ⟨o,e _ _ h⟩)
 ·exact .inr h
def Zak(cells:List (Str×Addr)):List (Str×NameKind)→List (Str×Addr)→List (Str×Addr)
 | [],acc=>acc
 | (n,k)::r,acc=>if k == .free then Zak cells r ((n,(cells.lookup n).getD 0)::acc) else Zak cells r acc
theorem Zdr{sc:Scope}{env:Env}(h:∀y∈sc.names,y.2=.free→∃c,env.cells.lookup y.1=some c) :
  closureFor sc env=pure (Zak env.cells sc.names []):=by
 have go:∀ (names:List (Str×NameKind)) (acc:List (Str×Addr)),(∀y∈names,y.2=.free→∃c,env.cells.lookup y.1=some c) →
   (forIn names acc fun (x:Str×NameKind) (r:List (Str×Addr))=>if (x.2 == NameKind.free)=true then (do let c ← cellOf env x.1;pure (ForInStep.yield ((x.1,c)::r))) else pure (ForInStep.yield r):Sem (List (Str×Addr)))=pure (Zak env.cells names acc):=by
  intro names
  induction names with
  | nil=>intro acc _;rfl
  | cons y r ih =>
   intro acc hy
   obtain⟨n,k⟩:=y
   rw[List.forIn_cons]
   cases hk:(k == NameKind.free) with
   | false =>
    have e1:Zak env.cells ((n,k)::r) acc=Zak env.cells r acc:=by
     show (if (k == NameKind.free)=true then _ else _)=_
     rw[hk];rfl
    rw[e1,← ih acc fun z hz=>hy z (Ql _ hz)]
    simp only[hk,Bool.false_eq_true,if_false,pure_bind]
   | true =>
    have hk':k=.free:=by simpa using hk
    obtain⟨c,hc⟩:=hy (n,k) QK hk'
    have e1:Zak env.cells ((n,k)::r) acc=Zak env.cells r ((n,c)::acc):=by
     show (if (k == NameKind.free)=true then _ else _)=_
     rw[hk,hc];rfl
    have e2:cellOf env n=pure c:=by
     unfold cellOf
     rw[hc]
    rw[e1,← ih ((n,c)::acc) fun z hz=>hy z (Ql _ hz)]
    simp only[hk,if_true,e2,pure_bind]
 have q:=go sc.names [] h
 unfold closureFor
 first
  | (rw[show (forIn sc.names ([]:List (Str×Addr)) _:Sem (List (Str×Addr)))=pure (Zak env.cells sc.names []) from q];rfl)
  | (simp only[bind_pure];exact q)
  | exact q
theorem ZcV(cells:List (Str×Addr)):∀ (names:List (Str×NameKind)) (acc:List (Str×Addr)) (x:Str) (c:Addr),(Zak cells names acc).lookup x=some c →
  (∃y∈names,y.1=x∧y.2=.free∧c=(cells.lookup x).getD 0)∨acc.lookup x=some c
 | [],acc,x,c,h=>.inr h
 | (n,k)::r,acc,x,c,h=>by
  by_cases hk:(k == NameKind.free)=true
  ·have e:Zak cells ((n,k)::r) acc=Zak cells r ((n,(cells.lookup n).getD 0)::acc):=by
    show (if (k == NameKind.free)=true then _ else _)=_
    rw[if_pos hk]
   rw[e]at h
   rcases ZcV cells r _ x c h with⟨y,hy,q⟩|q
   ·exact .inl ⟨y,Ql _ hy,q⟩
   ·rw[QaJ]at q
    by_cases hx:(x == n)=true
    ·rw[hx]at q
     have hx':x=n:=by simpa using hx
     subst hx'
     exact .inl ⟨(x,k),QK,rfl,by simpa using hk,(Qj q).symm⟩
    ·have hx':(x == n)=false:=by simpa using hx
     rw[hx']at q
     exact .inr q
  ·have e:Zak cells ((n,k)::r) acc=Zak cells r acc:=by
    show (if (k == NameKind.free)=true then _ else _)=_
    rw[if_neg hk]
   rw[e]at h
   rcases ZcV cells r _ x c h with⟨y,hy,q⟩|q
   ·exact .inl ⟨y,Ql _ hy,q⟩
   ·exact .inr q
theorem ZfI(cells:List (Str×Addr)):∀ (names:List (Str×NameKind)) (acc:List (Str×Addr)) (x:Str),((∃y∈names,y.1=x∧y.2=.free)∨∃c,acc.lookup x=some c) →
  ∃c,(Zak cells names acc).lookup x=some c
 | [],acc,x,h=>by
  rcases h with⟨y,hy,_⟩|h
  ·cases hy
  ·exact h
 | (n,k)::r,acc,x,h=>by
  by_cases hk:(k == NameKind.free)=true
  ·have e:Zak cells ((n,k)::r) acc=Zak cells r ((n,(cells.lookup n).getD 0)::acc):=by
    show (if (k == NameKind.free)=true then _ else _)=_
    rw[if_pos hk]
   rw[e]
   refine ZfI cells r _ x ?_
   by_cases hx:(x == n)=true
   ·exact .inr ⟨_,by rw[QaJ,hx]⟩
   ·have hx':(x == n)=false:=by simpa using hx
    rcases h with⟨y,hy,q⟩|⟨c,q⟩
    ·rcases QH.mp hy with rfl|hy
     ·exact absurd (by simpa using q.1.symm) hx
     ·exact .inl ⟨y,hy,q⟩
    ·exact .inr ⟨c,by rw[QaJ,hx'];exact q⟩
  ·have e:Zak cells ((n,k)::r) acc=Zak cells r acc:=by
    show (if (k == NameKind.free)=true then _ else _)=_
    rw[if_neg hk]
   rw[e]
   refine ZfI cells r _ x ?_
   rcases h with⟨y,hy,q⟩|h
   ·rcases QH.mp hy with rfl|hy
    ·exact absurd (by simpa using q.2) hk
    ·exact .inl ⟨y,hy,q⟩
   ·exact .inr h
structure ZX (N N':List Str) (o c:Scope):Prop where
 kind:c.kind=.function
 okind:o.kind=.function
 nocell:∀y∈c.names,y.2≠.cell
 loc:∀y∈c.names,y.2=.local→c.names.lookup y.1=some .local
 free:∀y∈c.names,y.2=.free→c.names.lookup y.1=some .free∧(o.names.lookup y.1=some .cell∨o.names.lookup y.1=some .free)
 len:N.length≤N'.length
 same:∀i∈List.range N.length,∀x∈N'[i]?,c.names.lookup x=some .local∨c.names.lookup x=some .free→c.names.lookup x=some .free∧N[i]? = some x
 nd:N'.Nodup
def ZU(X:Cx)(c:Scope)(N':List Str)(C:Addr)(s:Shared)(H:Hp)(fp:List Addr):Cx :=
 { X with N:=N',s₀:=s,H₀:=H,env:=compEnvC c (Zak X.env.cells c.names []) C X.env,outer:=X.stack,stack:=X.stack,ex:=fp,fn:=fun _=>false,pn:=[],xe:=fun _ _=>False }
theorem ZcT{env:Env}(hf:env.scope.kind=.function):∀ (names:List (Str×NameKind)) (x:Str),
  (names.map fun (p:Str×NameKind)=>if (p.2 == NameKind.free&&env.scope.kind == .function&&env.kindOf p.1 == some .cell)=true then (p.1,NameKind.cell) else (p.1,p.2)).lookup x =
   match names.lookup x with
   | some .free=>if env.kindOf x=some .cell then some .cell else some .free
   | k=>k
 | [],x=>rfl
 | (n,k)::r,x=>by
  have ih:=ZcT hf r x
  rw[Qi]
  by_cases hx:(x == n)=true
  ·have hx':x=n:=by simpa using hx
   subst hx'
   have e2:List.lookup x ((x,k)::r)=some k:=by rw[QaJ];simp
   rw[e2]
   by_cases hk:k=.free
   ·subst hk
    by_cases hc:env.kindOf x=some .cell
    ·simp[List.lookup_cons,hf,hc]
    ·simp[List.lookup_cons,hf,hc]
   ·have hk':(k == NameKind.free)=false:=by simpa using hk
    rw[hk']
    simp only[Bool.false_and,Bool.false_eq_true,if_false,List.lookup_cons,beq_self_eq_true]
    all_goals (cases k<;>first|rfl|exact absurd rfl hk)
  ·have hx':(x == n)=false:=by simpa using hx
   have e2:List.lookup x ((n,k)::r)=List.lookup x r:=by rw[QaJ,hx']
   rw[e2,← ih]
   by_cases hc:(k == NameKind.free&&env.scope.kind == .function&&env.kindOf n == some .cell)=true
   ·simp only[hc,if_true,List.lookup_cons,hx']
   ·simp only[hc,if_false,List.lookup_cons,hx',Bool.false_eq_true]
section
variable {X:Cx} {N N':List Str} {o c:Scope}
theorem Zcm(S:ZX N N' o c)(ho:X.env.scope=o)(cl:List (Str×Addr))(C:Addr)(x:Str):(compEnvC c cl C X.env).kindOf x =
  match c.names.lookup x with
  | some .free=>if X.env.kindOf x=some .cell then some .cell else some .free
  | k=>k:=ZcT (env:=X.env) (by rw[ho];exact S.okind) c.names x
theorem Zcx{names:List (Str×NameKind)}{x:Str}{k:NameKind}(h:names.lookup x=some k):(x,k)∈names:=Qag h
theorem ZbA(S:ZX N N' o c)(ho:X.env.scope=o)(ok:X.Ok){x:Str}{a:Addr}(h:(Zak X.env.cells c.names []).lookup x=some a) :
  X.env.cells.lookup x=some a∧c.names.lookup x=some .free:=by
 rcases ZcV _ _ _ _ _ h with⟨y,hy,rfl,hf,e⟩|q
 ·have hk:=S.free y hy hf
  have hv:X.env.kindOf y.1=some .cell∨X.env.kindOf y.1=some .free:=by
   show X.env.scope.names.lookup y.1=_∨X.env.scope.names.lookup y.1=_
   rw[ho];exact hk.2
  obtain⟨b,hb⟩:=ok.has y.1 hv
  rw[hb]at e
  exact⟨by rw[hb,e];rfl,hk.1⟩
 ·cases q
theorem Zh9(S:ZX N N' o c)(ho:X.env.scope=o)(ok:X.Ok){x:Str}(h:c.names.lookup x=some .free):∃a,(Zak X.env.cells c.names []).lookup x=some a∧X.env.cells.lookup x=some a:=by
 obtain⟨a,ha⟩:=ZfI X.env.cells c.names [] x (.inl ⟨(x,.free),Zcx h,rfl,rfl⟩)
 exact⟨a,ha,(ZbA S ho ok ha).1⟩
theorem ZmY(S:ZX N N' o c)(ho:X.env.scope=o){pins:List (Addr×Obj)}{σ:St}{H:Hp}{s:Shared}{fp:List Addr}(I:Inv X pins σ H s)
  (hf:∀b∈fp,Zdv X pins H b) (ht:∀b∈fp,b<s.heap.objs.size):(ZU X c N' s.heap.objs.size s H fp).Ok where
 mod:=I.ok.mod
 kind:=S.kind
 glob:=I.ok.glob
 blt:=I.ok.blt
 above:=Qg _
 inj:=fun x y a h1 h2=>I.ok.inj x y a (ZbA S ho I.ok h1).1 (ZbA S ho I.ok h2).1
 has:=fun x hx=>by
  have e:=Zcm (X:=X) S ho (Zak X.env.cells c.names []) s.heap.objs.size x
  have hx':(compEnvC c (Zak X.env.cells c.names []) s.heap.objs.size X.env).kindOf x=some .cell∨(compEnvC c (Zak X.env.cells c.names []) s.heap.objs.size X.env).kindOf x=some .free:=hx
  rw[e]at hx'
  cases q:c.names.lookup x with
  | none=>rw[q]at hx';rcases hx' with z|z<;>cases z
  | some k =>
   by_cases hk:k=.free
   ·subst hk
    obtain⟨a,ha,_⟩:=Zh9 S ho I.ok q
    exact⟨a,ha⟩
   ·rw[q]at hx'
    have hc:k=.cell:=by
     cases k<;>first|rfl|exact absurd rfl hk|(rcases hx' with z|z<;>cases z)
    subst hc
    exact absurd rfl (S.nocell _ (Zcx q))
 cab:=fun x a h=>by cases (show false=true from h)
 hd:=I.ok.hd
 frames:=I.ok.frames
 stk:=.inl rfl
 exf:=fun b hb=>⟨QB (ht b hb),fun x a h=>(hf b hb).2.2.2.2.1 x a (ZbA S ho I.ok h).1⟩
 bs:=fun b ob e=>I.bs b ob e
 bsz:=QP I.ok.bsz I.sz
 noex:=fun b ob e hb=>by
  rcases(hf b hb).2.2.2.1 with z|z
  ·exact I.ok.noex b ob e z
  ·exact absurd (QA (Qo e) (QP I.ok.bsz z)) (Qac _)
 exfs:=fun b hb hb'=>by
  rcases QH.mp (I.stkSub b hb') with z|z
  ·exact(hf b hb).2.1 z
  ·exact(hf b hb).2.2.1 z
 funs:=I.stack
 frf:=I.stkFree
theorem Zh0(S:ZX N N' o c)(hN:X.N=N)(ho:X.env.scope=o){pins:List (Addr×Obj)}{σ:St}{H:Hp}{s:Shared}{fp:List Addr}{h₁:Heap}{tk:Nat}{m₀:Str→Option Value}(I:Inv X pins σ H s)
  (hf:∀b∈fp,Zdv X pins H b) (ht:∀b∈fp,b<s.heap.objs.size) (hns:h₁.Ns s.heap.objs.size m₀) (hk:∀b ob,s.heap.get? b=some ob→h₁.get? b=some ob) :
  Inv (ZU X c N' s.heap.objs.size s H fp) [] (σ++List.replicate (N'.length-N.length) none) H { s with heap:=h₁,toks:=tk } where
 ok:=ZmY S ho I hf ht
 os:=rfl
 bare:=I.bare
 base:=Un.kept hk
 loc:=by
  refine⟨m₀,hns,fun i x v e1 e2 e3=>?_⟩
  obtain⟨m,hn,hl⟩:=I.loc
  have hlen:σ.length=N.length:=by rw[I.len,hN]
  have hi:i<σ.length:=by
   by_cases hi:i<σ.length
   ·exact hi
   ·rw[QR (by omega),List.getElem?_replicate]at e2
    split at e2<;>cases e2
  have e2':σ[i]? = some (some v):=by rw[Q5 hi]at e2;exact e2
  have kd:=Zcm (X:=X) S ho (Zak X.env.cells c.names []) s.heap.objs.size x
  have vis:c.names.lookup x=some .local∨c.names.lookup x=some .free:=by
   have e3':(compEnvC c (Zak X.env.cells c.names []) s.heap.objs.size X.env).kindOf x=some .local∨(compEnvC c (Zak X.env.cells c.names []) s.heap.objs.size X.env).kindOf x=some .cell∨(compEnvC c (Zak X.env.cells c.names []) s.heap.objs.size X.env).kindOf x=some .free:=e3
   rw[kd]at e3'
   cases q:c.names.lookup x with
   | none=>rw[q]at e3';rcases e3' with z|z|z<;>cases z
   | some k =>
    cases k with
    | «local»=>exact .inl rfl
    | free=>exact .inr rfl
    | cell=>exact absurd rfl (S.nocell _ (Zcx q))
    | _=>rw[q]at e3';rcases e3' with z|z|z<;>cases z
  obtain⟨hfr,hNi⟩:=S.same i (List.mem_range.mpr (by omega)) x (by rw[show N'[i]? = some x from e1];rfl) vis
  have hok:X.env.kindOf x=some .cell∨X.env.kindOf x=some .free:=by
   show X.env.scope.names.lookup x=_∨X.env.scope.names.lookup x=_
   rw[ho];exact(S.free _ (Zcx hfr) rfl).2
  obtain⟨u,r,l⟩:=hl i x v (by rw[hN];exact hNi) e2' (.inr hok)
  refine⟨u,r,.inr ⟨?_,?_⟩⟩
  ·show (compEnvC c (Zak X.env.cells c.names []) s.heap.objs.size X.env).kindOf x=some .cell∨(compEnvC c (Zak X.env.cells c.names []) s.heap.objs.size X.env).kindOf x=some .free
   rw[kd,hfr]
   show (if X.env.kindOf x=some .cell then some NameKind.cell else some NameKind.free)=some .cell∨(if X.env.kindOf x=some .cell then some NameKind.cell else some NameKind.free)=some .free
   by_cases q:X.env.kindOf x=some .cell
   ·rw[if_pos q];exact .inl rfl
   ·rw[if_neg q];exact .inr rfl
  ·obtain⟨a,ha,ha'⟩:=Zh9 S ho I.ok hfr
   refine⟨a,ha,?_⟩
   rcases l with⟨z,_⟩|⟨_,a',e,ob,hob,hd⟩
   ·rcases hok with q|q<;>rw[q]at z<;>cases z
   ·rw[ha']at e;cases e
    exact⟨ob,hk _ _ hob,hd⟩
 cell:=fun x a h=>by
  obtain⟨v,ob,e,d⟩:=I.cell x a (ZbA S ho I.ok h).1
  exact⟨v,ob,hk _ _ e,d⟩
 free:=I.hok.fresh (Qg _)
 freeC:=fun x a h=>I.freeC x a (ZbA S ho I.ok h).1
 pin:=fun p hp=>absurd (show p∈([]:List (Addr×Obj)) from hp) (by simp)
 hok:=I.hok.kept hk
 len:=by
  have hlen:σ.length=N.length:=by rw[I.len,hN]
  have:=S.len
  show (σ++List.replicate (N'.length-N.length) none).length=N'.length
  rw[Qd,Qay]
  omega
end
abbrev Zi4(ifs:List Expr)(env:Env):Sem Bool :=
 forIn ifs true fun k r=>if r=true then do let ok ← isTrue k env (eval k env);pure (ForInStep.yield ok) else pure (ForInStep.yield r)
def PTs(X:Cx)(ifs:List Expr)(t:TT):Prop :=
 ∀ (pins:List (Addr×Obj)) (s:Shared) (σ:St) (H:Hp) (Q:Bool→Hp→Prop),Inv X pins σ H s→t σ H Q→wpAny (model X.prog X.w) X.A (Zi4 ifs X.env) (TP X pins σ Q) X.xe s
def ZiA:TT:=fun _ H Q=>Q true H
theorem Za9{X:Cx}:PTs X [] ZiA:=fun _ _ _ H _ I h=>wpAny_tests_nil ⟨H,I,h⟩
theorem Zmu{X:Cx}{e:Expr}{t:TT}(h:PT X e t):PTs X [e] t:=fun pins s σ H Q I q=>wpAny_tests_one (h pins s σ H Q I q)
section
variable {prog:Program} {w:World} {A:Around} {R:Result→Shared→Prop} {s:Shared}
theorem ZgD{elt target iter:Expr}{ifs:List Expr}{scope:Scope}{pos:Pos}{it acc:Value}{env:Env}{E:Value→Shared→Prop}(I:Nat→Shared→Prop)
  (hE:∀e s',E e s'→False)
  (turn:∀n s,I n s→wpAny (model prog w) A (pyNext it) (fun r s₁=>match r with
   | none=>R (.ok .next) s₁
   | some v=>wpAny (model prog w) A (letOwnedTupleGo target it v) (fun _ s₀=>wpAny (model prog w) A (assign target env v) (fun _ s₂ =>
     wpAny (model prog w) A (Zi4 ifs env) (fun ok s₃ =>
      if ok=true then wpAny (model prog w) A (eval elt env) (fun x s₄ =>
       wpAny (model prog w) A (call (.builtin "list.append") [acc,x]) (fun _ s₅=>∃m,m<n∧I m s₅) E s₄) E s₃
      else ∃m,m<n∧I m s₃) E s₂) E s₀) E s₁) E s)
  (n:Nat) (h:I n s):codeAny (model prog w) A (.compLoop (.ListComp elt [⟨target,iter,ifs,0⟩] scope pos) 0 it acc env) R s:=by
 have go:∀ {α:Type} {t:Sem α} {Q:α→Shared→Prop} {s:Shared},wpAny (model prog w) A t Q E s→wpAny (model prog w) A t Q (notedBy (model prog w) A env fun e s'=>R (.error e) s') s :=
  fun {α t Q s} q=>wpAny_mono q (fun _ _ z=>z) fun e s' z=>(hE e s' z).elim
 refine codeAny_loop rfl I (fun n s hI=>?_) n h
 show wpAny _ A ((compTurn (.ListComp elt [⟨target,iter,ifs,0⟩] scope pos) 0 it acc env).onRaise (fun x=>do noteFrame x env;theTreesLotGoes x)) _ _ s
 refine wpAny_noted ?_
 rw[compTurn_list]
 refine wpAny_bind (wpAny_standAt (wpAny_bind (thn (go (turn n s hI)) fun r s₁ h₁=>?_)))
 cases r with
 | none=>exact wpAny_pure h₁
 | some v =>
  refine wpAny_bind (thn (go h₁) fun _ s₀ h₀=>wpAny_bind (thn (go h₀) fun _ s₂ h₂=>wpAny_bind (thn (go h₂) fun ok s₃ h₃=>?_)))
  cases ok with
  | false=>exact wpAny_pure ⟨rfl,h₃⟩
  | true =>
   exact wpAny_bind (wpAny_bind (thn (go h₃) fun x s₄ h₄=>wpAny_bind (thn (go h₄) fun _ s₅ h₅=>wpAny_pure (wpAny_pure ⟨rfl,h₅⟩))))
end
def ZdG(J:It)(D:Addr)(k:Nat)(σ:St)(H1:Hp)(g:TG)(tc:TT)(te:TE)(Q:VK):Prop :=
 ∃W:Nat→Nat→List V→St→Hp→Prop,(∃m,W 0 m [] (σ++List.replicate k none) (upd H1 D (.lst []))) ∧
  ∀i m ys σ2 H2,W i m ys σ2 H2→(J.stop i H2∧Q (.ref D) H2) ∨
   (J.go i H2∧∃N:List V→St→Hp→Prop,(∀ys' σ' H',N ys' σ' H'→∃m',m'<m∧W (i+1) m' ys' σ' H')∧∀x H3,J.yld i H2 x H3→g x σ2 H3 fun σ4 H4=>tc σ4 H4 fun b H5 =>
    if b=true then te σ4 H5 fun y H6=>H6 D=some (.lst ys)∧ys.length<sizeLine∧N (ys++[y]) σ4 (upd H6 D (.lst (ys++[y]))) else N ys σ4 H5)
def ZkO(n:Nat)(wi:TI)(g:TG)(tc:TT)(te:TE):TE:=fun σ H Q=>wi σ H fun J H1=>∀D,H1 D=none→ZdG J D n σ H1 g tc te Q
section
variable {X:Cx} {N N':List Str} {o c:Scope}
theorem Zho{elt tg iter:Expr}{ifs:List Expr}{pos pos':Pos}{wi:TI}{g:TG}{tc:TT}{te:TE}{use:Option (Value→Sem Unit)}{QQ:Value→Shared→Prop}(S:ZX N N' o c)(hN:X.N=N)(ho:X.env.scope=o)(hc:X.calm=true)
  (hi:PI X tg iter wi) (hg:∀C s H fp,PG (ZU X c N' C s H fp) tg g) (ht:∀C s H fp,PTs (ZU X c N' C s H fp) ifs tc) (he:∀C s H fp,PE (ZU X c N' C s H fp) elt te)
  (hs:∀x,foldedSetIterable iter X.env x=pure x) {pins:List (Addr×Obj)} {s:Shared} {σ:St} {H:Hp} {Q:VK} (I:Inv X pins σ H s) (h:ZkO (N'.length-N.length) wi g tc te σ H Q)
  (post:∀ (D C:Addr) (s5:Shared) (H5:Hp) (m:Str→Option Value),Inv X pins σ H5 s5→H5 C=none→s5.heap.Ns C m→C≠X.env.locals→X.s₀.heap.objs.size≤C→(∀x a,X.env.cells.lookup x=some a→a≠C)→(∀p∈X.pn++pins,p.1≠C) →
   Q (.ref D) H5→compPost (model X.prog X.w) X.A X.xe use QQ (.ref D) C (.ok .next) s5) :
  wpAny (model X.prog X.w) X.A (comprehension (.ListComp elt [⟨tg,iter,ifs,0⟩] c pos) c X.env pos' (newList []) false (eval iter X.env) use) QQ X.xe s:=by
 have hclos:closureFor c X.env=pure (Zak X.env.cells c.names []):=Zdr fun y hy hf=>by
  refine I.ok.has y.1 ?_
  show X.env.scope.names.lookup y.1=_∨X.env.scope.names.lookup y.1=_
  rw[ho];exact(S.free y hy hf).2
 refine wpAny_comprehension_free (use:=use) rfl hs hclos S.kind S.loc (thn (hi pins s σ H _ I h) fun v s1 h1=>thn h1 fun itv s2 h2=>?_)
 obtain⟨it,fp,tn,J,H2,e,I2,T,st2,f2,hR⟩:=h2
 subst e
 have hD:H2 s2.heap.objs.size=none:=I2.fresh
 have I3:Inv X pins σ (upd H2 s2.heap.objs.size (.lst [])) { s2 with heap:=s2.heap.push { cls:=.type "list",data:=.seq ([]:List Value).toArray } } :=
  I2.lnew (ys:=[]) (its:=[]) (t':=s2.toks) .nil (Qp _)
 have fpl:∀b∈fp,b<s2.heap.objs.size:=fun b hb=>by
  obtain⟨ob,e,_⟩:=T.obj 0 _ st2 b hb
  exact Qo e
 refine wpAny_newObj_type (wpAny_newFunctionEnv S.nocell (by intro y hy;simp at hy) (fun h₁ hns₁ hsb₁=>?_) S.kind)
 have e3:∃s3:Shared,s3={ s2 with heap:=s2.heap.push { cls:=.type "list",data:=.seq ([]:List Value).toArray } }:=⟨_,rfl⟩
 obtain⟨s3,hs3⟩:=e3
 have e3:s3.heap=s2.heap.push { cls:=.type "list",data:=.seq ([]:List Value).toArray }:=by rw[hs3]
 have sz3:s3.heap.objs.size=s2.heap.objs.size+1:=by rw[e3,Qaa]
 have fpl3:∀b∈fp,b<s3.heap.objs.size:=fun b hb=>QA (fpl b hb) (by rw[sz3];exact Qaj _)
 have f3:∀b∈fp,Zdv X pins (upd H2 s2.heap.objs.size (.lst [])) b:=fun b hb=>⟨by rw[Zc (QB (fpl b hb))];exact(f2 b hb).1,(f2 b hb).2⟩
 have st3:tn 0 s3.heap:=T.keep 0 _ _ st2 fun b _ ob e=>by rw[e3];exact Qc _ e
 rw[← hs3]at I3
 show codeAny (model X.prog X.w) X.A (.compStart _ 0 (.ref it) (.ref s2.heap.objs.size) (compEnvC c (Zak X.env.cells c.names []) (s2.heap.push { cls:=.type "list",data:=.seq ([]:List Value).toArray }).objs.size X.env))
  (compPost (model X.prog X.w) X.A X.xe use QQ (.ref s2.heap.objs.size) (s2.heap.push { cls:=.type "list",data:=.seq ([]:List Value).toArray }).objs.size)
  { s2 with heap:=h₁,toks:=s2.toks+([]:List (Str×Value)).length }
 have hns:h₁.Ns s3.heap.objs.size (fun x=>([]:List (Str×Value)).reverse.lookup x):=by rw[e3];exact hns₁
 have hk1:∀b ob,s3.heap.get? b=some ob→h₁.get? b=some ob:=fun b ob e=>by
  rw[e3]at e
  exact hsb₁.extBut b ob (QB (Qo e)) (Qc _ e)
 rw[← e3]
 have es4:({ s2 with heap:=h₁,toks:=s2.toks+([]:List (Str×Value)).length }:Shared)={ s3 with heap:=h₁,toks:=s2.toks }:=by rw[hs3];rfl
 rw[es4]
 obtain⟨W,⟨m0,w0⟩,turn⟩:=hR s2.heap.objs.size hD
 have I4:=Zh0 (tk:=s2.toks) S hN ho I3 f3 fpl3 hns hk1
 have st4:tn 0 h₁:=T.keep 0 _ _ st3 fun b _ ob e=>hk1 b ob e
 generalize hX:ZU X c N' s3.heap.objs.size s3 (upd H2 s2.heap.objs.size (.lst [])) fp=Y at I4
 have Yp:Y.prog=X.prog:=by rw[← hX];rfl
 have Yw:Y.w=X.w:=by rw[← hX];rfl
 have YK:Y.K=X.K:=by rw[← hX];rfl
 have Yc:Y.calm=true:=by rw[← hX];exact hc
 have YA:Y.A=X.A:=by rw[← hX];rfl
 have Yenv:Y.env=compEnvC c (Zak X.env.cells c.names []) s3.heap.objs.size X.env:=by rw[← hX];rfl
 have Yl:Y.env.locals=s3.heap.objs.size:=by rw[Yenv];rfl
 have Yxe:Y.xe=fun _ _=>False:=by rw[← hX];rfl
 have hg':=hg s3.heap.objs.size s3 (upd H2 s2.heap.objs.size (.lst [])) fp
 have ht':=ht s3.heap.objs.size s3 (upd H2 s2.heap.objs.size (.lst [])) fp
 have he':=he s3.heap.objs.size s3 (upd H2 s2.heap.objs.size (.lst [])) fp
 rw[hX]at hg' ht' he'
 have stat:∀ {H':Hp},(∀b∈fp,H' b=none)→∀b∈fp,Zdv Y [] H' b:=fun {H'} hn b hb=>by
  obtain⟨_,q1,q2,q3,q4,_⟩:=f3 b hb
  have z1:=I4.ok.exf b (by rw[← hX];exact hb)
  refine⟨hn b hb,z1.1,I4.ok.exfs b (by rw[← hX];exact hb),.inl (by rw[← hX];exact hb),z1.2,fun p hp=>?_⟩
  have hp':p∈([]:List (Addr×Obj)):=by
   have:Y.pn=[]:=by rw[← hX];rfl
   rw[this]at hp;exact hp
  cases hp'
 have fin:∀ (s5:Shared) (σ5:St) (H5:Hp),Inv Y [] σ5 H5 s5→Q (.ref s2.heap.objs.size) H5→compPost (model X.prog X.w) X.A X.xe use QQ (.ref s2.heap.objs.size) s3.heap.objs.size (.ok .next) s5:=fun s5 σ5 H5 I5 q=>by
  obtain⟨m,hn,_⟩:=id I5.loc
  rw[Yl]at hn
  have hCn:H5 s3.heap.objs.size=none:=by have:=I5.free;rw[Yl]at this;exact this
  have un:Un (frs X.stack) fp (upd H2 s2.heap.objs.size (.lst [])) H5 s3.heap s5.heap:=by
   have:=I5.base
   rw[← hX]at this
   exact this
  have os5:s5.os=s3.os:=by have:=I5.os;rw[← hX]at this;exact this
  have hok5:HOk X.prog X.w H5 s5.heap:=by
   have:=I5.hok
   rw[Yp,Yw]at this
   exact this
  refine post _ _ s5 H5 m (I3.call' (s':=s5) (ch:=fp) os5 un hok5 I5.bare fun b hb=>?_) hCn hn (Q4 I3.lt) I3.sz (fun x a e=>?_) (fun p hp=>?_) q
  ·obtain⟨_,q1,_,q3,q4,q5⟩:=f3 b hb
   exact⟨q3,q1,q4,q5⟩
  ·obtain⟨v,ob,e',_⟩:=I3.cell x a e
   exact QB (Qo e')
  ·exact QB (Qo (I3.pin p hp).1)
 have loop:codeAny (model X.prog X.w) X.A (.compLoop (.ListComp elt [⟨tg,iter,ifs,0⟩] c pos) 0 (.ref it) (.ref s2.heap.objs.size) (compEnvC c (Zak X.env.cells c.names []) s3.heap.objs.size X.env))
   (compPost (model X.prog X.w) X.A X.xe use QQ (.ref s2.heap.objs.size) s3.heap.objs.size) { s3 with heap:=h₁,toks:=s2.toks }:=by
  rw[← Yenv,← YA]
  refine ZgD (E:=fun _ _=>False) (fun n s'=>∃i ys σ' H',Inv Y [] σ' H' s'∧tn i s'.heap∧(∀b∈fp,H' b=none)∧W i n ys σ' H') (fun _ _ z=>z) ?_ m0
   ⟨0,[],_,_,I4,st4,fun b hb=>(f3 b hb).1,?_⟩
  ·rintro n s5 ⟨i,ys,σ5,H5,I5,st5,fr5,w5⟩
   rcases turn i n ys σ5 H5 w5 with⟨stop,qn⟩|⟨go,Nn,hNn,step⟩
   ·refine thn (T.done Y Yp Yw YK Yc i [] s5 σ5 H5 _ I5 (stat fr5) st5 stop) ?_
    rintro r s6 ⟨hr,I6⟩
    subst hr
    have fq:=fin s6 σ5 H5 I6 qn
    rw[← YA]at fq
    exact fq
   ·refine thn (T.item Y Yp Yw YK Yc i [] s5 σ5 H5 _ I5 (stat fr5) st5 go) ?_
    rintro r s6 ⟨u,hr,h6⟩
    subst hr
    refine thn h6 ?_
    rintro _ s7 ⟨x,H7,I7,r7,y7,st7,fr7⟩
    have I7':=I7.pinned (stat fr7) (T.obj _ _ st7)
    have back:∀ {σ9:St} {H9:Hp} {s9:Shared},Inv Y ([]++ZbI fp s7.heap) σ9 H9 s9→Inv Y [] σ9 H9 s9∧tn (i+1) s9.heap∧∀b∈fp,H9 b=none:=fun {σ9 H9 s9} I9=>by
     refine⟨I9.unpinned,T.keep _ _ _ st7 fun b hb ob e=>(I9.pin (b,ob) (Qf _ (Qf _ (ZaO hb e)))).1,fun b hb=>?_⟩
     obtain⟨ob,e,d⟩:=T.obj _ _ st7 b hb
     exact(I9.pin (b,ob) (Qf _ (Qf _ (ZaO hb e)))).2.1
    have P1:=hg' _ s7 σ5 H7 x u _ I7' r7 (step x H7 y7)
    rw[Yp,Yw,Yxe]at P1
    refine thn P1 ?_
    rintro _ s8 ⟨σ8,H8,I8,q8⟩
    have P2:=ht' _ s8 σ8 H8 _ I8 q8
    rw[Yp,Yw,Yxe]at P2
    refine thn P2 ?_
    rintro ok s9 ⟨H9,I9,q9⟩
    cases ok with
    | false =>
     rw[if_neg Qr]at q9
     rw[if_neg Qr]
     obtain⟨b1,b2,b3⟩:=back I9
     obtain⟨m',hm',w9⟩:=hNn _ _ _ q9
     exact⟨m',hm',i+1,ys,σ8,H9,b1,b2,b3,w9⟩
    | true =>
     rw[if_pos rfl]at q9
     rw[if_pos rfl]
     have P3:=he' _ s9 σ8 H9 _ I9 q9
     rw[Yp,Yw,Yxe]at P3
     refine thn P3 ?_
     rintro y s10 ⟨vy,H10,I10,r10,hDl,hsz,q10⟩
     have P4:=Za4 (X:=Y) _ s10 σ8 H10 (.ref s2.heap.objs.size) [vy] (.ref s2.heap.objs.size) [y] (fun _ H'=>Nn (ys++[vy]) σ8 H') I10 rfl (.cons r10 .nil) ⟨_,ys,vy,rfl,rfl,hDl,hsz,q10⟩
     rw[Yp,Yw,Yxe]at P4
     refine thn P4 ?_
     rintro _ s11 ⟨_,H11,I11,_,q11⟩
     obtain⟨b1,b2,b3⟩:=back I11
     obtain⟨m',hm',w11⟩:=hNn _ _ _ q11
     exact⟨m',hm',i+1,ys++[vy],σ8,H11,b1,b2,b3,w11⟩
  ·exact w0
 have lp:=T.self X.A 0 { s3 with heap:=h₁,toks:=s2.toks } (fun it' s'=>codeAny (model X.prog X.w) X.A (.compLoop (.ListComp elt [⟨tg,iter,ifs,0⟩] c pos) 0 it' (.ref s2.heap.objs.size) (compEnvC c (Zak X.env.cells c.names []) s3.heap.objs.size X.env))
   (compPost (model X.prog X.w) X.A X.xe use QQ (.ref s2.heap.objs.size) s3.heap.objs.size) s') (fun _ _=>False) st4 loop
 exact codeAny_compStart_list loop (wpAny_mono lp (fun _ _ z=>z) fun _ _ z=>z.elim)
theorem Inv.let{pins:List (Addr×Obj)}{σ:St}{H:Hp}{s:Shared}{C:Addr}{h':Heap}(I:Inv X pins σ H s)(hn:H C=none)(hL:C≠X.env.locals)(h1:X.s₀.heap.objs.size≤C)
  (h2:∀x a,X.env.cells.lookup x=some a→a≠C) (h3:∀p∈X.pn++pins,p.1≠C) (hs:Heap.SameBut C s.heap h'):Inv X pins σ H { s with heap:=h' } :=
 I.turned (t':=s.toks) (fun b ob hb e=>hs.extBut b ob hb e) hn hL (.inr h1) h2 h3
theorem Zbl{elt tg iter:Expr}{ifs:List Expr}{pos:Pos}{wi:TI}{g:TG}{tc:TT}{te:TE}(S:ZX N N' o c)(hN:X.N=N)(ho:X.env.scope=o)(hc:X.calm=true)
  (hi:PI X tg iter wi) (hg:∀C s H fp,PG (ZU X c N' C s H fp) tg g) (ht:∀C s H fp,PTs (ZU X c N' C s H fp) ifs tc) (he:∀C s H fp,PE (ZU X c N' C s H fp) elt te)
  (hs:∀x,foldedSetIterable iter X.env x=pure x:=by intro _;rfl) :
  PE X (.ListComp elt [⟨tg,iter,ifs,0⟩] c pos) (ZkO (N'.length-N.length) wi g tc te):=by
 intro pins s σ H Q I h
 rw[eval_ListComp]
 refine Zho (use:=none) S hN ho hc hi hg ht he hs I h fun D C s5 H5 m I5 hCn hn n1 n2 n3 n4 q=>⟨m,hn,fun h' hsb=>?_⟩
 exact⟨.ref D,H5,I5.let hCn n1 n2 n3 n4 hsb,rfl,q⟩
theorem Zfl{i:Nat}{x:Str}{elt tg iter:Expr}{ifs:List Expr}{pos pos' spos:Pos}{wi:TI}{g:TG}{tc:TT}{te:TE}(hnd:X.N.Nodup)(hx:X.N[i]? = some x)(hl:Loc X.env.scope x)(S:ZX N N' o c)(hN:X.N=N)(ho:X.env.scope=o)(hc:X.calm=true)
  (hi:PI X tg iter wi) (hg:∀C s H fp,PG (ZU X c N' C s H fp) tg g) (ht:∀C s H fp,PTs (ZU X c N' C s H fp) ifs tc) (he:∀C s H fp,PE (ZU X c N' C s H fp) elt te)
  (hsw:swapsWith (.ListComp elt [⟨tg,iter,ifs,0⟩] c pos) (some (.Name x pos')) spos.line X.env=pure true)
  (hs:∀x,foldedSetIterable iter X.env x=pure x:=by intro _;rfl) (hf:X.fn x=true∨X.env.scope.names.lookup x=some .local:=by first|exact .inl rfl|exact .inr rfl|assumption) :
  PS X (.Assign [.Name x pos'] (.ListComp elt [⟨tg,iter,ifs,0⟩] c pos) spos) (Zok (ZkO (N'.length-N.length) wi g tc te) (Zju i)):=by
 intro pins s σ H D I h
 rw[exec_Assign_Name_used _ _ _ _ hsw]
 refine wpAny_bind (wpAny_standAt (wpAny_bind ?_))
 show wpAny _ X.A (do let _ ← comprehension (.ListComp elt [⟨tg,iter,ifs,0⟩] c pos) c X.env _ (newList []) false (eval iter X.env) (some (assign (.Name x pos') X.env))) _ _ s
 refine wpAny_bind (thn (Zho (QQ:=fun _ s'=>SP X pins D .next s') (use:=some (assign (.Name x pos') X.env)) S hN ho hc hi hg ht he hs I h ?_) fun _ s' hq=>wpAny_pure (wpAny_pure hq))
 intro L C s5 H5 m I5 hCn hn n1 n2 n3 n4 q
 show wpAny _ X.A (assign (.Name x pos') X.env (.ref L)) _ _ _
 refine wpAny_assign_Name (Zf2 (v:=.ref L) I5 hnd hx hl rfl (?_) hf)
 rintro s6 I6 ⟨a,hsb,ha⟩
 have nCa:C≠a:=by
  rcases ha with z|z
  ·rw[z];exact n1
  ·exact(n3 x a z).symm
 exact⟨m,hn.sameBut hsb nCa,fun h' hsb'=>⟨_,H5,I6.let hCn n1 n2 n3 n4 hsb',q⟩⟩
end
theorem ZfB{ys:List Str}:∀ {us:List Value},Zy (ys.map V.str) us→StrsAre us ys:=by
 induction ys with
 | nil=>intro us r;rw[List.map_nil]at r;cases r;exact .nil
 | cons y ys ih =>
  intro us r
  rw[Qi]at r
  cases r with
  | cons r1 r2 =>
   obtain⟨t,e⟩:=r1
   subst e
   exact .cons _ _ (ih r2)
theorem Zf8:∀ {vs:List Value} {ys:List Str},StrsAre vs ys→Zy (ys.map V.str) vs
 | _,_,.nil=>.nil
 | _,_,.cons _ t h=>.cons ⟨t,rfl⟩ (Zf8 h)
section
variable {X:Cx}
def ZoW(K:PySem.W.Frag):List V→Hp→VK→Prop:=fun xs H Q=>∃x c t b,xs=[x,.ty c]∧ZdR K H x t∧PySem.W.kitOne K t (.type c)=some b∧Q (.bl b) H
theorem ZkB:Zaz X (.builtin "isinstance") (ZoW X.K):=by
 intro pins s σ H xs us Q I r h
 obtain⟨x,c,t,b,rfl,ty,e,q⟩:=h
 obtain⟨u,w',rfl,rx,rc⟩:=Zi2 r
 cases rc
 exact ZjO I rx ty e fun tk=>⟨.bl b,H,I.tok _,rfl,q⟩
def ZnO(K:PySem.W.Frag):List V→Hp→VK→Prop:=fun xs H Q=>∃ (x:V) (tp:Addr) (cs:List String) (t:Value) (b:Bool),xs=[x,.ref tp]∧H tp=some (.tup (cs.map V.ty))∧ZdR K H x t∧PySem.W.kitAny K t (cs.map Value.type)=some b∧Q (.bl b) H
theorem ZmH{cs:List String}:∀ {us:List Value},Zy (cs.map V.ty) us→us=cs.map Value.type:=by
 induction cs with
 | nil=>intro us r;rw[List.map_nil]at r;cases r;rfl
 | cons y ys ih =>
  intro us r
  rw[Qi]at r
  cases r with
  | cons r1 r2=>rw[show _=Value.type y from r1,ih r2];rfl
theorem Zkg:Zaz X (.builtin "isinstance") (ZnO X.K):=by
 intro pins s σ H xs us Q I r h
 obtain⟨x,tp,cs,t,b,rfl,ht,ty,e,q⟩:=h
 obtain⟨u,w',rfl,rx,rc⟩:=Zi2 r
 cases rc
 obtain⟨_,its,rv,⟨ot,e1,e2,n,e3⟩⟩:=I.hok tp _ ht
 have ei:=ZmH rv
 subst ei
 obtain⟨oc,od,dt,sl⟩:=ot
 have e2':oc=Value.type "tuple":=e2
 have e3':dt=Data.seq (cs.map Value.type).toArray n:=e3
 subst e2';subst e3'
 have fin:∀tk,EP X pins σ Q (.bool b) { s with toks:=tk }:=fun tk=>⟨.bl b,H,I.tok _,rfl,q⟩
 cases ty with
 | non=>cases (show u=Value.none from rx);exact Q3 PySem.W.kitx_none I.kIn True.intro e1 e (fun z=>nomatch z) fin
 | bl y=>cases (show u=Value.bool y from rx);exact Q3 PySem.W.kitx_bool I.kIn True.intro e1 e (fun z=>nomatch z) fin
 | int i=>obtain⟨t,q⟩:=(show ∃t,u=Value.int i t from rx);cases q;exact Q3 PySem.W.kitx_int I.kIn True.intro e1 e (fun z=>nomatch z) fin
 | str y=>obtain⟨t,q⟩:=(show ∃t,u=Value.str y t from rx);cases q;exact Q3 PySem.W.kitx_str I.kIn True.intro e1 e (fun z=>nomatch z) fin
 | flt y=>obtain⟨t,q⟩:=(show ∃t,u=Value.float y t from rx);cases q;exact Q3 PySem.W.kitx_float I.kIn True.intro e1 e (fun z=>nomatch z) fin
 | @lst a xs ea =>
  cases (show u=Value.ref a from rx)
  obtain⟨_,_,n,_,h1⟩:=(show Zaa X.prog X.w H s.heap a (.lst xs) from I.hok a _ ea)
  exact Q3 QaX I.kIn ⟨_,h1,rfl⟩ e1 e (fun z=>nomatch z) fin
 | @frz a ob xs ea =>
  cases (show u=Value.ref a from rx)
  obtain⟨_,_,_,n,_,h1⟩:=(show Zaa X.prog X.w H s.heap a (.frz ob (.lst xs)) from I.hok a _ ea)
  exact Q3 QaX I.kIn ⟨_,h1,rfl⟩ e1 e (fun z=>nomatch z) fin
 | @tup a xs ea =>
  cases (show u=Value.ref a from rx)
  obtain⟨_,_,_,p⟩:=(show Zaa X.prog X.w H s.heap a (.tup xs) from I.hok a _ ea)
  obtain⟨o,h1,h2,_⟩:=p
  exact Q3 PySem.W.kitx_tuple I.kIn ⟨o,h1,h2⟩ e1 e (fun z=>nomatch z) fin
 | @dK a kvs ea =>
  cases (show u=Value.ref a from rx)
  obtain⟨_,_,vs,_,p⟩:=(show Zaa X.prog X.w H s.heap a (.dK kvs) from I.hok a _ ea)
  obtain⟨o,es,ep,h1,h2,_⟩:=p
  exact Q3 QaY I.kIn ⟨o,h1,h2.1⟩ e1 e (fun z=>nomatch z) fin
 | @dT a kvs ea =>
  cases (show u=Value.ref a from rx)
  obtain⟨_,_,xs,_,o,es,ep,h1,h2,_⟩:=(show Zaa X.prog X.w H s.heap a (.dT kvs) from I.hok a _ ea)
  exact Q3 QaY I.kIn ⟨o,h1,h2.1⟩ e1 e (fun z=>nomatch z) fin
 | @ins a C dx fs ea cl ha hn htk hm =>
  cases (show u=Value.ref a from rx)
  obtain⟨mA,O,_⟩:=ZdO I.hok ea
  obtain⟨od,J,_⟩:=O.look
  exact Q3 (PySem.W.kitx_own (cl.get _) cl.hd ha hn htk hm) I.kIn J e1 e (fun z=>nomatch z) fin
theorem Zlq(hc:X.calm=true):Zaz X (.builtin "all") (fun xs H Q=>∃ (p:Addr) (bs:List Bool),xs=[.ref p]∧SqL X.K H p (bs.map V.bl)∧Q (.bl (bs.all id)) H):=by
 intro pins s σ H xs us Q I r h
 obtain⟨p,bs,rfl,hq,q⟩:=h
 obtain⟨u,rfl,rx⟩:=ZcB r
 cases rx
 obtain⟨its,rv,pl,hz⟩:=I.list hq
 have hl:=pl.isList
 have hlt:p<s.heap.objs.size:=by obtain⟨_,e,_⟩:=hl;exact Qo e
 refine call_all_walk (wpAny_pyIter_list hl ?_)
 refine⟨s.heap.objs.size,[s.heap.objs.size,p],[s.heap.objs.size],its.toArray.size,_,_,fun i=>(bs[i]?).getD true,rfl,Walks.list (A:=X.A.in1) (I.ok.hd hc) _ p (QB hlt) its.toArray,
  ⟨⟨_,Qz _ rfl,rfl,rfl⟩,hl.push _⟩,fun i v s' Q' E' hP hQ=>?_,fun h' tk hk=>?_⟩
 ·have hP':its[i]? = some v:=by simpa using hP
  have hi:i<its.length:=(Qe.mp hP').1
  have hlen:=rv.length
  have hb:(bs.map V.bl)[i]? = some (V.bl (bs[i]'(by rw[Qa]at hlen;omega))):=by
   rw[Qs,Qb (by rw[Qa]at hlen;omega)];rfl
  obtain⟨u',hu',ru'⟩:=rv.get hb
  rw[hP']at hu';cases hu'
  obtain rfl:v=Value.bool _:=ru'
  have hQ2:Q' ((bs[i]?).getD true) s':=hQ
  rw[Qb (by rw[Qa]at hlen;omega)]at hQ2
  exact wpAny_truthy_bool hQ2
 ·have e:((List.range its.toArray.size).all fun i=>(bs[i]?).getD true)=bs.all id:=by
   have hlen:=rv.length
   rw[Qa]at hlen
   rw[Qx,← hlen,QaU,Qa4,Qa4]
   constructor
   ·intro z b hb
    obtain⟨i,hi,rfl⟩:=Qad.mp hb
    have:=z i (List.mem_range.mpr hi)
    rw[Qb hi]at this
    exact this
   ·intro z i hi
    have hi':=List.mem_range.mp hi
    rw[Qb hi']
    exact z _ (QV hi')
  refine⟨.bl (bs.all id),H,I.kept fun b ob e'=>hk b ob (fun hm=>?_) (Qc _ e'),by rw[e];rfl,q⟩
  rw[Qk.mp hm]at e'
  exact Qac _ (Qo e')
theorem Zhb:Zaz X (.builtin "sorted") (fun xs H Q=>∃ (p:Addr) (ss:List Str),xs=[.ref p]∧SqL X.K H p (ss.map V.str)∧ss.length<64 ∧
  ∀ (l:Addr) (ss':List Str),H l=none→ss'.Perm ss→sortedS ss'=true→Q (.ref l) (upd H l (.lst (ss'.map V.str)))):=by
 intro pins s σ H xs us Q I r h
 obtain⟨p,ss,rfl,hq,h64,q⟩:=h
 obtain⟨u,rfl,rx⟩:=ZcB r
 cases rx
 obtain⟨its,rv,pl,hz⟩:=I.list hq
 have hlen:=rv.length
 rw[Qa]at hlen hz
 refine sorted_strs pl.isList (ZfB rv) (by omega) fun out ss' a1 a2 a3=>?_
 obtain⟨e,he⟩:=sortedAll_at s.heap its out
 have hp:=a2.length_eq
 refine⟨.ref (s.heap.objs.size+1),_,I.laid (t':=s.toks) (o:=.lst (ss'.map V.str)) (fun _ _=>sortedAll_old) (Qaj _) ⟨by rw[Qa];omega,out.toList,e,Zf8 a1,by simpa using he⟩,rfl,q _ ss' (I.hok.fresh (Qaj _)) a2 a3⟩
theorem Zm5:MtR X "str.join" (fun x vs H Q=>∃ (sep:Str) (p:Addr) (ys:List Str),x=.str sep∧vs=[.ref p]∧SqL X.K H p (ys.map V.str)∧(ys.map (·.length)).sum+ys.length*sep.length≤16777216∧Q (.str (Txt.join sep ys)) H):=by
 intro pins s σ H x vs v us Q I rx rv h
 obtain⟨sep,p,ys,rfl,rfl,hq,hz,q⟩:=h
 obtain⟨t,rfl⟩:=rx
 obtain⟨u,rfl,ru⟩:=rv.one
 cases ru
 obtain⟨its,r',pl,_⟩:=I.list hq
 exact join_list pl.isList (ZfB r') hz fun t' k=>⟨.str _,H,I.tok _,⟨_,rfl⟩,q⟩
theorem Zjq:OpR X (binaryOp .Mult) (fun x y H Q=>∃a n,x=.str a∧y=.int n∧0≤n∧n≤1000000∧(a.length:Int)*n≤1000000∧Q (.str (Txt.mul a n)) H):=by
 intro pins s σ H x y v u Q I rx ry h
 obtain⟨a,n,rfl,rfl,h0,h1,h2,q⟩:=h
 obtain⟨t,rfl⟩:=rx
 obtain⟨t',rfl⟩:=ry
 have h2':a.length*n.toNat≤1000000:=by
  have e:((a.length*n.toNat:Nat):Int)=(a.length:Int)*n:=by rw[Int.natCast_mul,Int.toNat_of_nonneg h0]
  omega
 refine PySem.P.mul_str ?_ (fun c1 c2=>?_) (fun c1 c2=>?_) ?_
 ·have e1:decide (n < -(2 ^ 63:Int))=false:=decide_eq_false (by omega)
  have e2:decide (n≥2 ^ 63)=false:=decide_eq_false (by omega)
  rw[e1,e2];rfl
 ·have hn:(1:Int)≤n:=by omega
  have q1:(a.length:Int)*1≤(a.length:Int)*n:=Int.mul_le_mul_of_nonneg_left hn (Int.natCast_nonneg _)
  have q2:(1000000:Int)≤(2 ^ 63-1) / n:=by
   rw[Int.le_ediv_iff_mul_le (by omega)]
   have:(1000000:Int)*n≤1000000*1000000:=Int.mul_le_mul_of_nonneg_left h1 (by decide)
   omega
  omega
 ·unfold Builtin.Str.tooLong
  have hl:sizeLine=16777216:=sizeLine_eq
  exact decide_eq_false (by omega)
 ·have e:Txt.mul a n=if n<1 then Str.empty else if (n == 1||a.length == 0)=true then a else ⟨(List.replicate n.toNat a.cps).foldl (·++·) #[]⟩:=rfl
  rw[e]at q
  by_cases c1:n<1
  ·rw[if_pos c1]at q ⊢
   exact⟨by decide,.str _,H,I.tok _,⟨_,rfl⟩,q⟩
  ·rw[if_neg c1]at q ⊢
   by_cases c2:(n == 1||a.length == 0)=true
   ·rw[if_pos c2]at q ⊢
    exact⟨.str _,H,I,⟨_,rfl⟩,q⟩
   ·rw[if_neg c2]at q ⊢
    refine⟨?_,.str _,H,I.tok _,⟨_,rfl⟩,q⟩
    have hfold:∀ (k:Nat) (acc:Array Nat),((List.replicate k a.cps).foldl (·++·) acc).size=acc.size+k*a.cps.size:=by
     intro k
     induction k with
     | zero=>intro acc;simp
     | succ k ih=>intro acc;rw[List.replicate_succ,List.foldl_cons,ih,Array.size_append,Nat.succ_mul];omega
    show ((List.replicate n.toNat a.cps).foldl (·++·) #[]).size≤sizeLine
    rw[hfold]
    have e2:a.cps.size=a.length:=rfl
    have:n.toNat*a.cps.size≤1000000:=by rw[e2,Nat.mul_comm];exact h2'
    have hl:sizeLine=16777216:=sizeLine_eq
    simp only[List.size_toArray,List.length_nil]
    omega
end
inductive Src where
 | l (a:Addr)|t (a:Addr)|s (z:Str)
def Src.val:Src→V
 | .l a=>.ref a
 | .t a=>.ref a
 | .s z=>.str z
def ZmM(c:Nat):V:=.str ⟨#[c]⟩
def Src.its(K:PySem.W.Frag)(H:Hp):Src→List V→Prop
 | .l a,xs=>SqL K H a xs
 | .t a,xs=>SqT K H a xs
 | .s z,xs=>xs=z.cps.toList.map ZmM
def Src.at(h:Heap)(i:Addr):Src→Nat→Prop
 | .l a,k=>h.IsListIter i a k
 | .t a,k=>h.IsTupleIter i a k
 | .s z,k=>∃tk,h.IsStrIter i (strIterType z) z tk k
def Src.raw(h:Heap):Src→List Value→Prop
 | .l a,us=>h.IsList a us.toArray
 | .t a,us=>h.IsTuple a us.toArray
 | .s _,_=>True
def Src.fit:Src→List Value→Nat→Value→Prop
 | .l _,us,k,u=>us[k]? = some u
 | .t _,us,k,u=>us[k]? = some u
 | .s z,_,k,u=>∃c tk,z.cps[k]? = some c∧u=.str ⟨#[c]⟩ tk
def Src.many:Src→List Value→Nat
 | .l _,us=>us.length
 | .t _,us=>us.length
 | .s z,_=>z.cps.size
def Src.off:Src→Addr→Prop
 | .l a,b=>a≠b
 | .t a,b=>a≠b
 | .s _,_=>True
theorem Src.at_obj{h:Heap}{i:Addr}:∀ {S:Src} {k:Nat},S.at h i k→∃o vs,h.get? i=some o∧o.data=.fields vs
 | .l _,_,⟨o,e,_,d⟩=>⟨o,_,e,d⟩
 | .t _,_,⟨o,e,_,d⟩=>⟨o,_,e,d⟩
 | .s _,_,⟨_,o,e,_,d⟩=>⟨o,_,e,d⟩
theorem Src.at_keep{h h':Heap}{i:Addr}(k':∀o,h.get? i=some o→h'.get? i=some o):∀ {S:Src} {k:Nat},S.at h i k→S.at h' i k
 | .l _,_,⟨o,e,d⟩=>⟨o,k' o e,d⟩
 | .t _,_,⟨o,e,d⟩=>⟨o,k' o e,d⟩
 | .s _,_,⟨tk,o,e,d⟩=>⟨tk,o,k' o e,d⟩
theorem Src.raw_keep{h h':Heap}{b:Addr}(k':∀c o,c≠b→h.get? c=some o→h'.get? c=some o):∀ {S:Src} {us:List Value},S.off b→S.raw h us→S.raw h' us
 | .l _,_,f,⟨o,e,d⟩=>⟨o,k' _ o f e,d⟩
 | .t _,_,f,⟨o,e,d⟩=>⟨o,k' _ o f e,d⟩
 | .s _,_,_,_=>trivial
section
variable {prog:Program} {w:World} {A:Around} {E:Value→Shared→Prop} {s:Shared}
theorem Zhd{it t:Addr}{i:Nat}{items:Array Value}{x:Value}{Q:Value→Shared→Prop}(hit:s.heap.IsTupleIter it t i)(ht:s.heap.IsTuple t items)(hx:items[i]? = some x)
  (hQ:∀h',h'.IsTupleIter it t (i+1)→Heap.SameBut it s.heap h'→Q x { s with heap:=h' }):wpAny (model prog w) A (Builtin.SmallTypes.nextOf (.ref it)) Q E s:=by
 obtain⟨o,ho,hc,hd⟩:=id hit
 obtain⟨ol,hol,_,nl,hdl⟩:=ht
 unfold Builtin.SmallTypes.nextOf
 refine wpAny_bind (wpAny_callSpecial?_slot (name:=Str.ofString "__next__") hit.typeIs F.slot_tuple_iterator_next
  (wpAny_call_entry F.slot_tuple_iterator_next hit.typeIs F.entry_tuple_iterator_next ?_ (F.args_tuple_iterator_next_1 _)))
 show wpAny _ _ (field (.ref it) 0 >>= _) _ _ s
 refine wpAny_bind (wpAny_field ho hd (x:=.ref t) rfl ?_)
 show wpAny _ _ (if (Value.ref t == Value.none)=true then _ else _) _ _ s
 rw[if_neg (show ¬ ((Value.ref t == Value.none)=true) from Qr)]
 show wpAny _ _ (field (.ref it) 1 >>= _) _ _ s
 refine wpAny_bind (wpAny_field ho hd (x:=.int i 0) rfl ?_)
 show wpAny _ _ (seqItems? (.ref t) >>= _) _ _ s
 refine wpAny_bind (wpAny_seqItems hol hdl ?_)
 simp only[Int.toNat_natCast,hx]
 refine wpAny_bind (wpAny_setField ho hd (by simp) (wpAny_pure ⟨x,rfl,wpAny_pure (hQ _ ?_ (Heap.SameBut.update ..))⟩))
 exact⟨_,Heap.get?_update_self _ ho (Obj.isFreed_of_fields (Obj.data_mapFields hd _)),(Obj.cls_mapFields ..).trans hc,by
  rw[Obj.data_mapFields hd];simp[rawInt]⟩
theorem ZcY{i:Addr}{k:Nat}{us:List Value}{Q:Value→Shared→Prop}:∀ {S:Src},S.at s.heap i k→S.raw s.heap us→k<S.many us →
  (∀h' tk u,S.fit us k u→S.at h' i (k+1)→Heap.SameBut i s.heap h'→Q u { s with heap:=h',toks:=tk })→wpAny (model prog w) A (Builtin.SmallTypes.nextOf (.ref i)) Q E s
 | .l a,h1,h2,h3,hQ=>wpAny_nextOf_list_item h1 h2 (x:=us[k]'h3) (by rw[Qal];exact Qb h3) fun h' q1 q2=>hQ h' s.toks _ (Qb h3) q1 q2
 | .t a,h1,h2,h3,hQ=>Zhd h1 h2 (x:=us[k]'h3) (by rw[Qal];exact Qb h3) fun h' q1 q2=>hQ h' s.toks _ (Qb h3) q1 q2
 | .s z,⟨tk,h1⟩,h2,h3,hQ=>by
  have hx:z.cps[k]? = some z.cps[k]:=Array.getElem?_eq_getElem h3
  by_cases ha:z.cps.all (·<128)=true
  ·have e:strIterType z = "str_ascii_iterator":=by unfold strIterType;rw[if_pos ha]
   rw[e]at h1
   exact wpAny_nextOf_ascii_item h1 hx fun h' q1 q2=>hQ h' _ _ ⟨_,_,hx,rfl⟩ ⟨tk,by rw[e];exact q1⟩ q2
  ·have e:strIterType z = "str_iterator":=by unfold strIterType;rw[if_neg ha]
   rw[e]at h1
   exact wpAny_nextOf_wide_item h1 hx fun h' q1 q2=>hQ h' _ _ ⟨_,_,hx,rfl⟩ ⟨tk,by rw[e];exact q1⟩ q2
theorem Zeq{it t:Addr}{i:Nat}{items:Array Value}{Q:Value→Shared→Prop}(hh:A.handled=none)(hit:s.heap.IsTupleIter it t i)(ht:s.heap.IsTuple t items)(hx:items[i]? = none)
  (hE:∀h' e,Heap.ExtBut it s.heap h'→(∃o,h'.get? e=some o∧o.cls=.type "StopIteration")→E (.ref e) { s with heap:=h' }):wpAny (model prog w) A (Builtin.SmallTypes.nextOf (.ref it)) Q E s:=by
 obtain⟨o,ho,hc,hd⟩:=id hit
 obtain⟨ol,hol,_,nl,hdl⟩:=ht
 unfold Builtin.SmallTypes.nextOf
 refine wpAny_bind (wpAny_callSpecial?_slot (name:=Str.ofString "__next__") hit.typeIs F.slot_tuple_iterator_next
  (wpAny_call_entry F.slot_tuple_iterator_next hit.typeIs F.entry_tuple_iterator_next ?_ (F.args_tuple_iterator_next_1 _)))
 show wpAny _ _ (field (.ref it) 0 >>= _) _ _ s
 refine wpAny_bind (wpAny_field ho hd (x:=.ref t) rfl ?_)
 show wpAny _ _ (if (Value.ref t == Value.none)=true then _ else _) _ _ s
 rw[if_neg (show ¬ ((Value.ref t == Value.none)=true) from Qr)]
 show wpAny _ _ (field (.ref it) 1 >>= _) _ _ s
 refine wpAny_bind (wpAny_field ho hd (x:=.int i 0) rfl ?_)
 show wpAny _ _ (seqItems? (.ref t) >>= _) _ _ s
 refine wpAny_bind (wpAny_seqItems hol hdl ?_)
 simp only[Int.toNat_natCast,hx]
 refine wpAny_bind (wpAny_rule (wpAny_bind (wpAny_setField ho hd (by simp) ?_)))
 show wpAny _ _ (newExc (.type "StopIteration") [] >>= _) _ _ _
 refine wpAny_bind ?_
 simp only[newExc,newTuple]
 refine wpAny_bind (wpAny_newObj_type ?_ (by size_fits))
 refine wpAny_bind (m:=firstArgMember _ _) (wpAny_of_eq (a:=Value.none) (by first|rfl|(simp only[firstArgMember];rfl)) ?_)
 refine wpAny_newObj_type ?_ (by size_fits)
 simp only[raiseNew]
 refine wpAny_bind (wpAny_handled ?_)
 first|rw[show A.in1.handled=none from hh]|rw[hh]
 refine wpAny_bind (wpAny_pure (wpAny_throw ?_))
 exact hE _ _ (((Heap.SameBut.update ..).extBut.push _).push _) ⟨_,Qz _ rfl,rfl⟩
theorem ZeW{i:Addr}{k:Nat}{us:List Value}{Q:Value→Shared→Prop}(hh:A.handled=none):∀ {S:Src},S.at s.heap i k→S.raw s.heap us→S.many us≤k →
  (∀h' e,Heap.ExtBut i s.heap h'→(∃o,h'.get? e=some o∧o.cls=.type "StopIteration")→E (.ref e) { s with heap:=h' })→wpAny (model prog w) A (Builtin.SmallTypes.nextOf (.ref i)) Q E s
 | .l a,h1,h2,h3,hE=>wpAny_nextOf_list_end hh h1 h2 (by rw[Qal];exact Qab h3) hE
 | .t a,h1,h2,h3,hE=>Zeq hh h1 h2 (by rw[Qal];exact Qab h3) hE
 | .s z,⟨tk,h1⟩,h2,h3,hE=>by
  have hx:z.cps[k]? = none:=Array.getElem?_eq_none h3
  by_cases ha:z.cps.all (·<128)=true
  ·have e:strIterType z = "str_ascii_iterator":=by unfold strIterType;rw[if_pos ha]
   rw[e]at h1
   exact wpAny_nextOf_ascii_end hh h1 hx hE
  ·have e:strIterType z = "str_iterator":=by unfold strIterType;rw[if_neg ha]
   rw[e]at h1
   exact wpAny_nextOf_wide_end hh h1 hx hE
structure ZgM (z TI TO i1 i2:Addr) (S1 S2:Src):Prop where
 TIz:TI≠z
 TOz:TO≠z
 i1z:i1≠z
 i2z:i2≠z
 TITO:TI≠TO
 TIi1:TI≠i1
 TIi2:TI≠i2
 TOi1:TO≠i1
 TOi2:TO≠i2
 i12:i1≠i2
 s1z:S1.off z
 s1TO:S1.off TO
 s1i1:S1.off i1
 s1i2:S1.off i2
 s2z:S2.off z
 s2TO:S2.off TO
 s2i1:S2.off i1
 s2i2:S2.off i2
theorem Zl1{z TI TO i1 i2:Addr}{S1 S2:Src}{k:Nat}{us1 us2:List Value}{a b:Value}{Q:Option Value→Shared→Prop}(D:ZgM z TI TO i1 i2 S1 S2)
  (hz:IsZip s.heap z TI TO .none) (hTI:IsPair s.heap TI (.ref i1) (.ref i2)) (hTO:IsPair s.heap TO a b)
  (h1:S1.at s.heap i1 k) (h2:S2.at s.heap i2 k) (r1:S1.raw s.heap us1) (r2:S2.raw s.heap us2) (m1:k<S1.many us1) (m2:k<S2.many us2)
  (hQ:∀h' tk x y,S1.fit us1 k x→S2.fit us2 k y→IsZip h' z TI TO (rawInt s.heap.objs.size)→IsPair h' TO x y→S1.at h' i1 (k+1)→S2.at h' i2 (k+1)→IsPair h' s.heap.objs.size x y→h'.objs.size=s.heap.objs.size+1 →
   (∀c o,c≠z→c≠TO→c≠i1→c≠i2→s.heap.get? c=some o→h'.get? c=some o)→Q (some (.ref s.heap.objs.size)) { s with heap:=h',toks:=tk }) :
  wpAny (model prog w) A (pyNext (.ref z)) Q E s:=by
 have hT:s.TypeIs (.ref z) "zip":=⟨_,hz,rfl⟩
 unfold pyNext
 refine wpAny_bind (wpAny_attempt (wpAny_callSpecial?_slot (name:=Str.ofString "__next__") hT F.slot_zip_next (wpAny_call_entry F.slot_zip_next hT F.entry_zip_next ?_ (F.args_zip_next_1 _))))
 show wpAny _ _ (field (.ref z) 2 >>= _) _ _ _
 refine wpAny_bind (wpAny_field hz rfl (x:=.bool false) rfl ?_)
 show wpAny _ _ (field (.ref z) 3 >>= _) _ _ _
 refine wpAny_bind (wpAny_field hz rfl (x:=.ref TI) rfl (wpAny_bind (wpAny_seqItems hTI rfl ?_)))
 show wpAny _ _ (Builtin.SmallTypes.ownedTupleIsFree (.ref z) >>= _) _ _ _
 unfold Builtin.SmallTypes.ownedTupleIsFree
 refine wpAny_bind (wpAny_bind (wpAny_field hz rfl (x:=.none) rfl (wpAny_pure ?_)))
 simp only[if_true]
 refine wpAny_bind (wpAny_rule (wpAny_bind (wpAny_field hz rfl (x:=.ref TO) rfl (wpAny_bind (wpAny_setField_rec hz (by simp) fun h₁ hz₁ hs₁=>?_)))))
 replace hz₁:IsZip h₁ z TI TO .ellipsis:=hz₁
 refine wpAny_bind ?_
 simp only[List.zipIdx_cons,List.zipIdx_nil,List.forIn_cons,List.forIn_nil]
 refine wpAny_bind (wpAny_bind (wpAny_onRaise ?_))
 show wpAny _ _ (Builtin.SmallTypes.nextOf (.ref i1) >>= _) _ _ _
 refine wpAny_bind (ZcY (S:=S1) (us:=us1) (k:=k) (S1.at_keep (fun o e=>hs₁.extBut _ o D.i1z e) h1) (S1.raw_keep (fun c o n e=>hs₁.extBut c o n e) D.s1z r1) m1 fun h₂ tk₂ x fx h1₂ hs₂=>wpAny_pure ?_)
 have hs₂':Heap.SameBut i1 h₁ h₂:=hs₂
 have hTO₂:IsPair h₂ TO a b:=hs₂'.extBut _ _ D.TOi1 (hs₁.extBut _ _ D.TOz hTO)
 refine wpAny_bind (wpAny_seqItems hTO₂ rfl (wpAny_bind (wpAny_updateSeq_pair hTO₂ fun h₃ hTO₃ hs₃=>wpAny_bind (wpAny_letGo (wpAny_pure ?_)))))
 replace hTO₃:IsPair h₃ TO x b:=hTO₃
 have hs₃':Heap.SameBut TO h₂ h₃:=hs₃
 refine wpAny_bind (wpAny_bind (wpAny_onRaise ?_))
 show wpAny _ _ (Builtin.SmallTypes.nextOf (.ref i2) >>= _) _ _ _
 refine wpAny_bind (ZcY (S:=S2) (us:=us2) (k:=k)
  (S2.at_keep (fun o e=>hs₃'.extBut _ o D.TOi2.symm (hs₂'.extBut _ o D.i12.symm (hs₁.extBut _ o D.i2z e))) h2)
  (S2.raw_keep (fun c o n e=>hs₃'.extBut c o n e) D.s2TO (S2.raw_keep (fun c o n e=>hs₂'.extBut c o n e) D.s2i1 (S2.raw_keep (fun c o n e=>hs₁.extBut c o n e) D.s2z r2))) m2 fun h₄ tk₄ y fy h2₄ hs₄=>wpAny_pure ?_)
 have hs₄':Heap.SameBut i2 h₃ h₄:=hs₄
 have hTO₄:IsPair h₄ TO x b:=hs₄'.extBut _ _ D.TOi2 hTO₃
 refine wpAny_bind (wpAny_seqItems hTO₄ rfl (wpAny_bind (wpAny_updateSeq_pair hTO₄ fun h₅ hTO₅ hs₅=>wpAny_bind (wpAny_letGo (wpAny_pure (wpAny_pure ?_))))))
 replace hTO₅:IsPair h₅ TO x y:=hTO₅
 have hs₅':Heap.SameBut TO h₄ h₅:=hs₅
 refine wpAny_bind (wpAny_seqItems hTO₅ rfl (wpAny_bind (wpAny_newTuple ?_)))
 have hsz:h₅.objs.size=s.heap.objs.size:=by rw[hs₅'.1,hs₄'.1,hs₃'.1,hs₂'.1,hs₁.1]
 have hz₅:IsZip h₅ z TI TO .ellipsis:=hs₅'.extBut _ _ D.TOz.symm (hs₄'.extBut _ _ D.i2z.symm (hs₃'.extBut _ _ D.TOz.symm (hs₂'.extBut _ _ D.i1z.symm hz₁)))
 have hk₅:∀c o,c≠z→c≠TO→c≠i1→c≠i2→s.heap.get? c=some o→h₅.get? c=some o:=fun c o c1 c2 c3 c4 e =>
  hs₅'.extBut _ _ c2 (hs₄'.extBut _ _ c4 (hs₃'.extBut _ _ c2 (hs₂'.extBut _ _ c3 (hs₁.extBut _ _ c1 e))))
 have h1₅:S1.at h₅ i1 (k+1):=S1.at_keep (fun o e=>hs₅'.extBut _ o D.TOi1.symm (hs₄'.extBut _ o D.i12 (hs₃'.extBut _ o D.TOi1.symm e))) h1₂
 have h2₅:S2.at h₅ i2 (k+1):=S2.at_keep (fun o e=>hs₅'.extBut _ o D.TOi2.symm e) h2₄
 have hzlt:z<h₅.objs.size:=Qo hz₅
 show wpAny _ _ (Builtin.SmallTypes.ownedTupleHandOut (.ref z) (.ref h₅.objs.size) >>= _) _ _ _
 refine wpAny_bind ?_
 unfold Builtin.SmallTypes.ownedTupleHandOut
 have hz₆:IsZip (h₅.push { cls:=.type "tuple",data:=.seq #[x,y] }) z TI TO .ellipsis:=Qc _ hz₅
 refine wpAny_bind (wpAny_setField_rec hz₆ (by simp) fun h₇ hz₇ hs₇=>?_)
 replace hz₇:IsZip h₇ z TI TO (rawInt h₅.objs.size):=hz₇
 refine wpAny_setField_rec hz₇ (by simp) fun h₈ hz₈ hs₈=>?_
 replace hz₈:IsZip h₈ z TI TO (rawInt h₅.objs.size):=hz₈
 have up:∀c o,c≠z→h₅.get? c=some o→h₈.get? c=some o:=fun c o c1 e=>hs₈.extBut _ _ c1 (hs₇.extBut _ _ c1 (Qc _ e))
 have hT₈:IsPair h₈ h₅.objs.size x y:=hs₈.extBut _ _ (Q4 hzlt) (hs₇.extBut _ _ (Q4 hzlt) (Qz _ rfl))
 have hz8:h₈.objs.size=h₅.objs.size+1:=by rw[hs₈.1,hs₇.1,Qaa]
 rw[hsz]at hz₈ hT₈ hz8
 refine wpAny_pure ⟨_,rfl,wpAny_pure ?_⟩
 show Q (some (.ref h₅.objs.size)) _
 rw[hsz]
 exact hQ h₈ tk₄ x y fx fy hz₈ (up _ _ D.TOz hTO₅) (S1.at_keep (fun o e=>up _ o D.i1z e) h1₅) (S2.at_keep (fun o e=>up _ o D.i2z e) h2₅) hT₈ hz8 fun c o c1 c2 c3 c4 e=>up c o c1 (hk₅ c o c1 c2 c3 c4 e)
theorem ZlV{z TI TO i1 i2:Addr}{S1 S2:Src}{k:Nat}{us1 us2:List Value}{a b:Value}{Q:Option Value→Shared→Prop}(hh:A.handled=none)(D:ZgM z TI TO i1 i2 S1 S2)
  (hz:IsZip s.heap z TI TO .none) (hTI:IsPair s.heap TI (.ref i1) (.ref i2)) (hTO:IsPair s.heap TO a b)
  (h1:S1.at s.heap i1 k) (h2:S2.at s.heap i2 k) (r1:S1.raw s.heap us1) (r2:S2.raw s.heap us2) (hend:S1.many us1≤k∨S2.many us2≤k)
  (hQ:∀h' tk,(∀c o,c≠z→c≠TO→c≠i1→c≠i2→s.heap.get? c=some o→h'.get? c=some o)→Q none { s with heap:=h',toks:=tk }) :
  wpAny (model prog w) A (pyNext (.ref z)) Q E s:=by
 have hT:s.TypeIs (.ref z) "zip":=⟨_,hz,rfl⟩
 unfold pyNext
 have done:∀ (h':Heap) (tk:Nat) (e:Addr),(∀c o,c≠z→c≠TO→c≠i1→c≠i2→s.heap.get? c=some o→h'.get? c=some o)→(∃o,h'.get? e=some o∧o.cls=.type "StopIteration") →
   wpAny (model prog w) A (do if (← isInstance (.ref e) (.type "StopIteration")) then pure none else throw (.ref e):Sem (Option Value)) Q E { s with heap:=h',toks:=tk }:=fun h' tk e hk ⟨o,ho,hc⟩=>
  wpAny_bind (wpAny_isInstance (T := "StopIteration") (b:=true) ⟨o,ho,hc⟩ isSubtype_stop (wpAny_pure (hQ h' tk hk)))
 refine wpAny_bind (wpAny_attempt (wpAny_callSpecial?_slot (name:=Str.ofString "__next__") hT F.slot_zip_next (wpAny_call_entry F.slot_zip_next hT F.entry_zip_next ?_ (F.args_zip_next_1 _))))
 show wpAny _ _ (field (.ref z) 2 >>= _) _ _ _
 refine wpAny_bind (wpAny_field hz rfl (x:=.bool false) rfl ?_)
 show wpAny _ _ (field (.ref z) 3 >>= _) _ _ _
 refine wpAny_bind (wpAny_field hz rfl (x:=.ref TI) rfl (wpAny_bind (wpAny_seqItems hTI rfl ?_)))
 show wpAny _ _ (Builtin.SmallTypes.ownedTupleIsFree (.ref z) >>= _) _ _ _
 unfold Builtin.SmallTypes.ownedTupleIsFree
 refine wpAny_bind (wpAny_bind (wpAny_field hz rfl (x:=.none) rfl (wpAny_pure ?_)))
 simp only[if_true]
 refine wpAny_bind (wpAny_rule (wpAny_bind (wpAny_field hz rfl (x:=.ref TO) rfl (wpAny_bind (wpAny_setField_rec hz (by simp) fun h₁ hz₁ hs₁=>?_)))))
 replace hz₁:IsZip h₁ z TI TO .ellipsis:=hz₁
 refine wpAny_bind ?_
 simp only[List.zipIdx_cons,List.zipIdx_nil,List.forIn_cons,List.forIn_nil]
 refine wpAny_bind (wpAny_bind (wpAny_onRaise ?_))
 show wpAny _ _ (Builtin.SmallTypes.nextOf (.ref i1) >>= _) _ _ _
 by_cases m1:k<S1.many us1
 ·have m2:S2.many us2≤k:=by rcases hend with z'|z';omega;exact z'
  refine wpAny_bind (ZcY (S:=S1) (us:=us1) (k:=k) (S1.at_keep (fun o e=>hs₁.extBut _ o D.i1z e) h1) (S1.raw_keep (fun c o n e=>hs₁.extBut c o n e) D.s1z r1) m1 fun h₂ tk₂ x fx h1₂ hs₂=>wpAny_pure ?_)
  have hs₂':Heap.SameBut i1 h₁ h₂:=hs₂
  have hTO₂:IsPair h₂ TO a b:=hs₂'.extBut _ _ D.TOi1 (hs₁.extBut _ _ D.TOz hTO)
  refine wpAny_bind (wpAny_seqItems hTO₂ rfl (wpAny_bind (wpAny_updateSeq_pair hTO₂ fun h₃ hTO₃ hs₃=>wpAny_bind (wpAny_letGo (wpAny_pure ?_)))))
  have hs₃':Heap.SameBut TO h₂ h₃:=hs₃
  refine wpAny_bind (wpAny_bind (wpAny_onRaise ?_))
  show wpAny _ _ (Builtin.SmallTypes.nextOf (.ref i2) >>= _) _ _ _
  refine wpAny_bind (ZeW (S:=S2) (us:=us2) (k:=k) hh
   (S2.at_keep (fun o e=>hs₃'.extBut _ o D.TOi2.symm (hs₂'.extBut _ o D.i12.symm (hs₁.extBut _ o D.i2z e))) h2)
   (S2.raw_keep (fun c o n e=>hs₃'.extBut c o n e) D.s2TO (S2.raw_keep (fun c o n e=>hs₂'.extBut c o n e) D.s2i1 (S2.raw_keep (fun c o n e=>hs₁.extBut c o n e) D.s2z r2))) m2 fun h₄ e hs₄ he=>?_)
  obtain⟨oe,hoe,hce⟩:=he
  have hz₄:IsZip h₄ z TI TO .ellipsis:=hs₄ _ _ D.i2z.symm (hs₃'.extBut _ _ D.TOz.symm (hs₂'.extBut _ _ D.i1z.symm hz₁))
  have hez:e≠z:=fun x=>by subst x;rw[hz₄]at hoe;cases hoe;simp at hce
  exact wpAny_setField_rec hz₄ (by simp) fun h₅ _ hs₅=>done h₅ _ e (fun c o c1 c2 c3 c4 x=>hs₅.extBut _ _ c1 (hs₄ _ _ c4 (hs₃'.extBut _ _ c2 (hs₂'.extBut _ _ c3 (hs₁.extBut _ _ c1 x))))) ⟨oe,hs₅.extBut _ _ hez hoe,hce⟩
 ·refine wpAny_bind (ZeW (S:=S1) (us:=us1) (k:=k) hh (S1.at_keep (fun o e=>hs₁.extBut _ o D.i1z e) h1) (S1.raw_keep (fun c o n e=>hs₁.extBut c o n e) D.s1z r1) (by omega) fun h₂ e hs₂ he=>?_)
  obtain⟨oe,hoe,hce⟩:=he
  have hz₂:IsZip h₂ z TI TO .ellipsis:=hs₂ _ _ D.i1z.symm hz₁
  have hez:e≠z:=fun x=>by subst x;rw[hz₂]at hoe;cases hoe;simp at hce
  exact wpAny_setField_rec hz₂ (by simp) fun h₃ _ hs₃=>done h₃ _ e (fun c o c1 _ c3 _ x=>hs₃.extBut _ _ c1 (hs₂ _ _ c3 (hs₁.extBut _ _ c1 x))) ⟨oe,hs₃.extBut _ _ hez hoe,hce⟩
end
def Src.iter(tk:Tok):Src→Obj
 | .l a=>{ cls:=.type "list_iterator",data:=.fields #[.ref a,.int 0 0] }
 | .t a=>{ cls:=.type "tuple_iterator",data:=.fields #[.ref a,.int 0 0] }
 | .s z=>{ cls:=.type (strIterType z),data:=.fields #[.str z tk,.int 0 0] }
def Src.value(tk:Tok):Src→Value
 | .l a=>.ref a
 | .t a=>.ref a
 | .s z=>.str z tk
theorem Src.iter_at{h:Heap}{i:Addr}{tk:Tok}:∀ {S:Src},h.get? i=some (S.iter tk)→S.at h i 0
 | .l _,e=>⟨_,e,rfl,rfl⟩
 | .t _,e=>⟨_,e,rfl,rfl⟩
 | .s _,e=>⟨tk,_,e,rfl,rfl⟩
theorem Src.pyIter{prog:Program}{w:World}{A:Around}{E:Value→Shared→Prop}{s:Shared}{tk:Tok}{us:List Value}{Q:Value→Shared→Prop}:∀ {S:Src},S.raw s.heap us →
  Q (.ref s.heap.objs.size) { s with heap:=s.heap.push (S.iter tk) }→wpAny (model prog w) A (pyIter (S.value tk)) Q E s
 | .l _,r,q=>wpAny_pyIter_list r q
 | .t _,r,q=>wpAny_pyIter_tuple r q
 | .s _,_,q=>wpAny_pyIter_strU q
theorem Src.raw_push{h:Heap}{ob:Obj}:∀ {S:Src} {us:List Value},S.raw h us→S.raw (h.push ob) us
 | .l _,_,⟨o,e,d⟩=>⟨o,Qc _ e,d⟩
 | .t _,_,⟨o,e,d⟩=>⟨o,Qc _ e,d⟩
 | .s _,_,_=>trivial
abbrev zH1(h:Heap)(S1:Src)(t1:Tok):Heap:=h.push (S1.iter t1)
abbrev zH2(h:Heap)(S1 S2:Src)(t1 t2:Tok):Heap:=(zH1 h S1 t1).push (S2.iter t2)
abbrev zH3(h:Heap)(S1 S2:Src)(t1 t2:Tok):Heap:=(zH2 h S1 S2 t1 t2).push { cls:=.type "tuple",data:=.seq #[.ref h.objs.size,.ref (zH1 h S1 t1).objs.size] }
abbrev zH4(h:Heap)(S1 S2:Src)(t1 t2:Tok):Heap:=(zH3 h S1 S2 t1 t2).push { cls:=.type "tuple",data:=.seq #[.none,.none] }
abbrev zH5(h:Heap)(S1 S2:Src)(t1 t2:Tok):Heap:=(zH4 h S1 S2 t1 t2).push { cls:=.type "zip",data:=.fields #[.none,.bool false,.bool false,.ref (zH2 h S1 S2 t1 t2).objs.size,.ref (zH3 h S1 S2 t1 t2).objs.size] }
theorem Znm(S1 S2:Src)(t1 t2:Tok)(us1 us2:List Value) :
  Meets (Builtin.«zip.__new__» ⟨[.type "zip",S1.value t1,S2.value t2],[]⟩) (fun _ R s=>S1.raw s.heap us1∧S2.raw s.heap us2 ∧
   R (.ok (.ret (.ref (zH4 s.heap S1 S2 t1 t2).objs.size))) { s with heap:=zH5 s.heap S1 S2 t1 t2 }) :=
 .of_wp fun prog w A R s h=>by
  obtain⟨hp,g,d,tk,os⟩:=s;obtain⟨r1,r2,h⟩:=h
  have hsub:=sub_zip
  have q1:∀ {A:Around} {E:Value→Shared→Prop} {Q:Value→Shared→Prop},Q (.ref hp.objs.size) ⟨zH1 hp S1 t1,g,d,tk,os⟩→wpAny (model prog w) A (pyIter (S1.value t1)) Q E ⟨hp,g,d,tk,os⟩:=
   fun {A E Q} q=>Src.pyIter (s:=⟨hp,g,d,tk,os⟩) (us:=us1) r1 q
  have q2:∀ {A:Around} {E:Value→Shared→Prop} {Q:Value→Shared→Prop},Q (.ref (zH1 hp S1 t1).objs.size) ⟨zH2 hp S1 S2 t1 t2,g,d,tk,os⟩→wpAny (model prog w) A (pyIter (S2.value t2)) Q E ⟨zH1 hp S1 t1,g,d,tk,os⟩:=
   fun {A E Q} q=>Src.pyIter (s:=⟨zH1 hp S1 t1,g,d,tk,os⟩) (us:=us2) (S2.raw_push r2) q
  generalize S1.value t1=v1 at q1 ⊢
  generalize S2.value t2=v2 at q2 ⊢
  wp_walk using q1,q2
  exact⟨_,rfl,h⟩
section
variable {prog:Program} {w:World} {A:Around} {E:Value→Shared→Prop} {s:Shared}
theorem Zk5{S1 S2:Src}{t1 t2:Tok}{us1 us2:List Value}{Q:Value→Shared→Prop}(r1:S1.raw s.heap us1)(r2:S2.raw s.heap us2)
  (h:∀h',IsZip h' (s.heap.objs.size+4) (s.heap.objs.size+2) (s.heap.objs.size+3) .none→IsPair h' (s.heap.objs.size+2) (.ref s.heap.objs.size) (.ref (s.heap.objs.size+1)) →
   IsPair h' (s.heap.objs.size+3) .none .none→S1.at h' s.heap.objs.size 0→S2.at h' (s.heap.objs.size+1) 0→h'.objs.size=s.heap.objs.size+5 →
   (∀c o,s.heap.get? c=some o→h'.get? c=some o)→Q (.ref (s.heap.objs.size+4)) { s with heap:=h' }) :
  wpAny (model prog w) A (call (.type "zip") [S1.value t1,S2.value t2]) Q E s:=by
 refine callType_new F.called_zip (by decide) (F.typeCall_zip_2 _ _) (F.newCall_zip_2 _ _) (fun obj=>F.args_object_init_3 obj _ _) F.entry_zip_new (Znm S1 S2 t1 t2 us1 us2) ⟨r1,r2,?_⟩
 have z1:(zH1 s.heap S1 t1).objs.size=s.heap.objs.size+1:=Qaa ..
 have z2:(zH2 s.heap S1 S2 t1 t2).objs.size=s.heap.objs.size+2:=by rw[Qaa,z1]
 have z3:(zH3 s.heap S1 S2 t1 t2).objs.size=s.heap.objs.size+3:=by rw[Qaa,z2]
 have z4:(zH4 s.heap S1 S2 t1 t2).objs.size=s.heap.objs.size+4:=by rw[Qaa,z3]
 have z5:(zH5 s.heap S1 S2 t1 t2).objs.size=s.heap.objs.size+5:=by rw[Qaa,z4]
 have fr:∀ (tk:Tok) (S:Src),(S.iter tk).isFreed=false:=fun tk S=>by cases S<;>rfl
 have g5:(zH5 s.heap S1 S2 t1 t2).get? (zH4 s.heap S1 S2 t1 t2).objs.size=some _:=Qz _ rfl
 have g4:(zH5 s.heap S1 S2 t1 t2).get? (zH3 s.heap S1 S2 t1 t2).objs.size=some _:=Qc _ (Qz _ rfl)
 have g3:(zH5 s.heap S1 S2 t1 t2).get? (zH2 s.heap S1 S2 t1 t2).objs.size=some _:=Qc _ (Qc _ (Qz _ rfl))
 have g2:(zH5 s.heap S1 S2 t1 t2).get? (zH1 s.heap S1 t1).objs.size=some (S2.iter t2):=Qc _ (Qc _ (Qc _ (Qz _ (fr _ _))))
 have g1:(zH5 s.heap S1 S2 t1 t2).get? s.heap.objs.size=some (S1.iter t1):=Qc _ (Qc _ (Qc _ (Qc _ (Qz _ (fr _ _)))))
 show _∧_
 rw[z2,z3,z4]at g5
 rw[z1,z2]at g3
 rw[z3]at g4
 rw[z1]at g2
 rw[z4]
 exact⟨⟨_,g5,rfl⟩,h _ g5 g3 g4 (Src.iter_at g1) (Src.iter_at g2) z5 fun c o x =>
  Qc _ (Qc _ (Qc _ (Qc _ (Qc _ x))))⟩
end
def Itz(K:PySem.W.Frag)(S1 S2:Src):It :=
 ⟨fun i H=>∃xs ys,S1.its K H xs∧S2.its K H ys∧i<xs.length∧i<ys.length,
  fun i H v H'=>∃p,H p=none∧v=.ref p∧∀xs ys,S1.its K H xs→S2.its K H ys→∀x y,xs[i]? = some x→ys[i]? = some y→H'=upd H p (.tup [x,y]),
  fun i H=>∃xs ys,S1.its K H xs∧S2.its K H ys∧(xs.length≤i∨ys.length≤i)⟩
section
variable {X:Cx} {pins:List (Addr×Obj)} {σ:St} {H:Hp} {s:Shared}
theorem Inv.src(I:Inv X pins σ H s):∀ {S:Src} {xs:List V},S.its X.K H xs→∃us,S.raw s.heap us∧S.many us=xs.length∧∀k u x,S.fit us k u→xs[k]? = some x→ZA x u
 | .l a,xs,h=>by
  obtain⟨its,rv,pl,_⟩:=I.list h
  refine⟨its,pl.isList,rv.length.symm,fun k u x e1 e2=>?_⟩
  obtain⟨u',e3,r⟩:=rv.get e2
  rw[show its[k]? = some u from e1]at e3;cases e3
  exact r
 | .t a,xs,h=>by
  obtain⟨its,rv,pl,_⟩:=I.tuple h
  refine⟨its,pl,rv.length.symm,fun k u x e1 e2=>?_⟩
  obtain⟨u',e3,r⟩:=rv.get e2
  rw[show its[k]? = some u from e1]at e3;cases e3
  exact r
 | .s z,xs,h=>by
  refine⟨[],trivial,?_,fun k u x e1 e2=>?_⟩
  ·rw[show xs=_ from h,Qa];simp[Src.many]
  ·obtain⟨c,tk,e3,e4⟩:=e1
   subst e4
   rw[show xs=_ from h,Qs]at e2
   have e5:z.cps.toList[k]? = some c:=by simpa using e3
   rw[e5]at e2
   cases e2
   exact⟨tk,rfl⟩
theorem Inv.src_off(I:Inv X pins σ H s){b:Addr}(hb:Zdv X pins H b):∀ {S:Src} {xs:List V},S.its X.K H xs→S.off b
 | .l a,xs,h=>by
  rcases h with(h|⟨ob,h⟩)|⟨o,its,n,hk,_⟩
  ·exact Zb h hb.1
  ·exact Zb h hb.1
  ·rintro rfl
   have e:=I.ok.mod.kin a o hk
   rcases hb.2.2.2.1 with z|z
   ·exact I.ok.noex a o e z
   ·exact absurd (QA (Qo e) (QP I.ok.bsz z)) (Qac _)
 | .t a,xs,h=>by
  rcases h with(h|⟨ob,h⟩)|⟨o,its,n,hk,_⟩
  ·exact Zb h hb.1
  ·exact Zb h hb.1
  ·rintro rfl
   have e:=I.ok.mod.kin a o hk
   rcases hb.2.2.2.1 with z|z
   ·exact I.ok.noex a o e z
   ·exact absurd (QA (Qo e) (QP I.ok.bsz z)) (Qac _)
 | .s z,xs,h=>trivial
theorem Inv.zipped{fp:List Addr}{h':Heap}{tk:Nat}{x y:V}{u v:Value}(I:Inv X pins σ H s)(hf:∀b∈fp,Zdv X pins H b)(rx:ZA x u)(ry:ZA y v)
  (hp:IsPair h' s.heap.objs.size u v) (hfh:∀b∈fp,∃o,h'.get? b=some o) (hk:∀c o,c ∉ fp→s.heap.get? c=some o→h'.get? c=some o) :
  Inv X pins σ (upd H s.heap.objs.size (.tup [x,y])) { s with heap:=h',toks:=tk }:=by
 have hn:H s.heap.objs.size=none:=I.fresh
 have ne:∀b ob,s.heap.get? b=some ob→b≠s.heap.objs.size:=fun b ob e=>QB (Qo e)
 have nt:∀b u,H b=some u→b≠s.heap.objs.size:=fun b u e=>Zb e hn
 have nfp:∀b u,H b=some u→b ∉ fp:=fun b u e hb=>by rw[(hf b hb).1]at e;cases e
 refine I.step (g':=s.gens) (d':=s.drawn) (ch:=fp) (fun b hb=>⟨(hf b hb).2.2.2.1,(hf b hb).2.1,(hf b hb).2.2.2.2.1,(hf b hb).2.2.2.2.2⟩)
  (fun b ob _ _ hc e _=>hk b ob hc e) (fun b ob _ _ hc e _=>⟨ob.slots,hk b ob hc e⟩) (fun b ob _ e n=>by rw[Zc (ne b ob e)];exact n) (fun b ob hc e=>⟨ob,hk b ob hc e⟩)
  (fun b xs e=>by rw[Zc (nt b _ e)];exact e) (fun b ob u e=>by rw[Zc (nt b _ e)];exact e) (fun b ps e=>⟨#[],by rw[Zc (nt b _ e),e];simp⟩) (fun m hm=>?_) (fun b ub e=>?_) I.bare
 ·obtain⟨ob,es,ep,ho,r⟩:=hm
  exact⟨ob,es,ep,hk _ ob (fun z=>(hf _ z).2.1 rfl) ho,r⟩
 ·by_cases hb:b=s.heap.objs.size
  ·subst hb
   rw[Zd]at e;cases e
   exact⟨by show 2≤sizeLine;decide,[u,v],.cons rx (.cons ry .nil),⟨_,hp,rfl,_,rfl⟩⟩
  ·rw[Zc hb]at e
   refine(I.hok b ub e).stay (fun c w' hc q=>hk c w' ?_ q) (fun c q=>by rw[Zc (nt c _ q)];exact q) fun c xs q=>by rw[Zc (nt c _ q)];exact q
   rcases hc with z|z
   ·rw[z];exact nfp b ub e
   ·exact nfp c _ z
end
theorem ZkK{P:Program}{w:World}{K:PySem.W.Frag}{elts:List Expr}{x1:Nat}{tpos:Pos}{S1 S2:Src}{z TI TO i1 i2:Addr}
  (d1:TI≠z) (d2:TO≠z) (d3:i1≠z) (d4:i2≠z) (d5:TI≠TO) (d6:TI≠i1) (d7:TI≠i2) (d8:TO≠i1) (d9:TO≠i2) (d10:i1≠i2) :
  Zkj P w K (.Tuple elts x1 tpos) (Itz K S1 S2) [z,TI,TO,i1,i2] z
   (fun i h=>IsZip h z TI TO .none∧IsPair h TI (.ref i1) (.ref i2)∧(∃a b,IsPair h TO a b)∧S1.at h i1 i∧S2.at h i2 i) where
 mem:=by simp
 obj:=fun i h st b hb=>by
  obtain⟨hz,hTI,⟨a,b',hTO⟩,h1,h2⟩:=st
  have nf:∀ {o:Obj} {vs:Array Value},o.data=.fields vs→∀v,o.data≠.cell v:=fun d v e=>by rw[d]at e;cases e
  simp only[List.mem_cons,List.not_mem_nil,or_false]at hb
  rcases hb with rfl|rfl|rfl|rfl|rfl
  ·exact⟨_,hz,nf rfl⟩
  ·exact⟨_,hTI,fun v e=>by cases e⟩
  ·exact⟨_,hTO,fun v e=>by cases e⟩
  ·obtain⟨o,vs,e,d⟩:=Src.at_obj h1;exact⟨o,e,nf d⟩
  ·obtain⟨o,vs,e,d⟩:=Src.at_obj h2;exact⟨o,e,nf d⟩
 keep:=fun i h h' st k=>by
  obtain⟨hz,hTI,⟨a,b',hTO⟩,h1,h2⟩:=st
  exact⟨k z (by simp) _ hz,k TI (by simp) _ hTI,⟨a,b',k TO (by simp) _ hTO⟩,Src.at_keep (fun o e=>k i1 (by simp) o e) h1,Src.at_keep (fun o e=>k i2 (by simp) o e) h2⟩
 item:=by
  intro X hP hw hK hc i pins s σ H E I hf st hg
  subst hP hw hK
  obtain⟨hz,hTI,⟨a,b',hTO⟩,h1,h2⟩:=st
  obtain⟨xs,ys,q1,q2,l1,l2⟩:=hg
  obtain⟨us1,r1,m1,f1⟩:=I.src q1
  obtain⟨us2,r2,m2,f2⟩:=I.src q2
  have hfz:=hf z (by simp)
  have D:ZgM z TI TO i1 i2 S1 S2:=⟨d1,d2,d3,d4,d5,d6,d7,d8,d9,d10,I.src_off hfz q1,I.src_off (hf TO (by simp)) q1,I.src_off (hf i1 (by simp)) q1,I.src_off (hf i2 (by simp)) q1,
   I.src_off hfz q2,I.src_off (hf TO (by simp)) q2,I.src_off (hf i1 (by simp)) q2,I.src_off (hf i2 (by simp)) q2⟩
  refine Zl1 D hz hTI hTO h1 h2 r1 r2 (by omega) (by omega) fun h' tk x y fx fy a1 a2 a3 a4 a5 a6 a7=>?_
  have rx:=f1 i x _ fx (Qb l1)
  have ry:=f2 i y _ fy (Qb l2)
  refine⟨_,rfl,wpAny_letOwnedTupleGo_zip a1 fun h'' hz'' hs''=>?_⟩
  have hs':Heap.SameBut z h' h'':=hs''
  have hTI':IsPair h' TI (.ref i1) (.ref i2):=a7 _ _ d1 d5 d6 d7 hTI
  have lt:∀ {b:Addr} {o:Obj},s.heap.get? b=some o→s.heap.objs.size≠b:=fun e=>Q4 (Qo e)
  have hzs:s.heap.objs.size≠z:=lt hz
  have I2:Inv X pins σ (upd H s.heap.objs.size (.tup [xs[i],ys[i]])) { s with heap:=h'',toks:=tk }:=by
   refine I.zipped (fp:=[z,TI,TO,i1,i2]) hf rx ry (hs'.extBut _ _ hzs a5) (fun b hb=>?_) fun c o hc e=>?_
   ·simp only[List.mem_cons,List.not_mem_nil,or_false]at hb
    rcases hb with rfl|rfl|rfl|rfl|rfl
    ·exact⟨_,hz''⟩
    ·exact⟨_,hs'.extBut _ _ d1 hTI'⟩
    ·exact⟨_,hs'.extBut _ _ d2 a2⟩
    ·obtain⟨o,vs,e,_⟩:=Src.at_obj a3;exact⟨o,hs'.extBut _ _ d3 e⟩
    ·obtain⟨o,vs,e,_⟩:=Src.at_obj a4;exact⟨o,hs'.extBut _ _ d4 e⟩
   ·simp only[List.mem_cons,List.not_mem_nil,or_false,not_or]at hc
    exact hs'.extBut _ _ hc.1 (a7 c o hc.1 hc.2.2.1 hc.2.2.2.1 hc.2.2.2.2 e)
  refine⟨.ref s.heap.objs.size,_,I2,rfl,⟨s.heap.objs.size,I.fresh,rfl,fun xs' ys' w1 w2 x' y' e1 e2=>?_⟩,⟨hz'',hs'.extBut _ _ d1 hTI',⟨_,_,hs'.extBut _ _ d2 a2⟩,Src.at_keep (fun o e=>hs'.extBut _ o d3 e) a3,Src.at_keep (fun o e=>hs'.extBut _ o d4 e) a4⟩,fun b hb=>?_⟩
  ·have same:∀ {S:Src} {us vs:List V},S.its X.K H us→S.its X.K H vs→us=vs:=fun {S us vs} p q=>by
    cases S with
    | l a=>exact I.list_inj p q
    | t a=>exact I.tuple_inj p q
    | s z=>rw[show us=_ from p,show vs=_ from q]
   have e3:=same w1 q1
   have e4:=same w2 q2
   subst e3;subst e4
   rw[Qb l1]at e1
   rw[Qb l2]at e2
   cases e1;cases e2
   rfl
  ·rw[Zc (fun e=>by
    obtain⟨o,e1,_⟩:∃o,s.heap.get? b=some o∧True:=by
     simp only[List.mem_cons,List.not_mem_nil,or_false]at hb
     rcases hb with rfl|rfl|rfl|rfl|rfl
     ·exact⟨_,hz,trivial⟩
     ·exact⟨_,hTI,trivial⟩
     ·exact⟨_,hTO,trivial⟩
     ·obtain⟨o,vs,e,_⟩:=Src.at_obj h1;exact⟨o,e,trivial⟩
     ·obtain⟨o,vs,e,_⟩:=Src.at_obj h2;exact⟨o,e,trivial⟩
    exact lt e1 e.symm)]
   exact(hf b hb).1
 done:=by
  intro X hP hw hK hc i pins s σ H E I hf st hg
  subst hP hw hK
  obtain⟨hz,hTI,⟨a,b',hTO⟩,h1,h2⟩:=st
  obtain⟨xs,ys,q1,q2,l⟩:=hg
  obtain⟨us1,r1,m1,f1⟩:=I.src q1
  obtain⟨us2,r2,m2,f2⟩:=I.src q2
  have hfz:=hf z (by simp)
  have D:ZgM z TI TO i1 i2 S1 S2:=⟨d1,d2,d3,d4,d5,d6,d7,d8,d9,d10,I.src_off hfz q1,I.src_off (hf TO (by simp)) q1,I.src_off (hf i1 (by simp)) q1,I.src_off (hf i2 (by simp)) q1,
   I.src_off hfz q2,I.src_off (hf TO (by simp)) q2,I.src_off (hf i1 (by simp)) q2,I.src_off (hf i2 (by simp)) q2⟩
  refine ZlV (I.ok.hd hc) D hz hTI hTO h1 h2 r1 r2 (by omega) fun h' tk hk=>⟨rfl,?_⟩
  have kf:∀c o,c ∉ [z,TI,TO,i1,i2]→s.heap.get? c=some o→h'.get? c=some o:=fun c o hc e=>by
   simp only[List.mem_cons,List.not_mem_nil,or_false,not_or]at hc
   exact hk c o hc.1 hc.2.2.1 hc.2.2.2.1 hc.2.2.2.2 e
  have nfp:∀b u,H b=some u→b ∉ [z,TI,TO,i1,i2]:=fun b u e hb=>by rw[(hf b hb).1]at e;cases e
  refine I.step (g':=s.gens) (d':=s.drawn) (ch:=[z,TI,TO,i1,i2]) (fun b hb=>⟨(hf b hb).2.2.2.1,(hf b hb).2.1,(hf b hb).2.2.2.2.1,(hf b hb).2.2.2.2.2⟩)
   (fun b ob _ _ hc e _=>kf b ob hc e) (fun b ob _ _ hc e _=>⟨ob.slots,kf b ob hc e⟩) (fun b ob _ e n=>n) (fun b ob hc e=>⟨ob,kf b ob hc e⟩)
   (fun b xs e=>e) (fun b ob u e=>e) (fun b ps e=>⟨#[],by rw[e];simp⟩) (fun m hm=>?_) (fun b ub e=>?_) I.bare
  ·obtain⟨ob,es,ep,ho,r⟩:=hm
   exact⟨ob,es,ep,kf _ ob (fun z=>(hf _ z).2.1 rfl) ho,r⟩
  ·refine(I.hok b ub e).stay (fun c w' hc q=>kf c w' ?_ q) (fun c q=>q) fun c xs q=>q
   rcases hc with z'|z'
   ·rw[z'];exact nfp b ub e
   ·exact nfp c _ z'
 self:=fun _ _ _ _ _ st h=>wpAny_pyIter_zip st.1 h
def Zpx(K:PySem.W.Frag)(ta:TA):TI:=fun σ H R=>ta σ H fun vs H1=>∃S1 S2 xs ys,vs=[Src.val S1,Src.val S2]∧S1.its K H1 xs∧S2.its K H1 ys∧R (Itz K S1 S2) H1
theorem ZnX{X:Cx}{a b:Expr}{ta:TA}{p pos:Pos}{elts:List Expr}{x1:Nat}{tpos:Pos}(hg:Gl X "zip")(hm:X.mg "zip" = none)(ha:PA X [a,b] ta)
  (hs:starEach [a,b] X.env=[(false,eval a X.env),(false,eval b X.env)]:=by rfl) (hs2:starEach [b] X.env=[(false,eval b X.env)]:=by rfl) :
  PI X (.Tuple elts x1 tpos) (.Call (.Name "zip" p) [a,b] [] pos) (Zpx X.K ta):=by
 intro pins s σ H R I h
 refine Call_ (Zdz I hg hm boot_zip (Q9 (thn (ha pos pins s σ H _ I h) ?_) (by rw[hs,hs2]) (by rw[hs2];rfl)))
 rintro us s1 ⟨vs,H1,I1,r1,q1⟩
 obtain⟨S1,S2,xs,ys,e,y1,y2,q⟩:=q1
 subst e
 obtain⟨u1,u2,rfl,w1,w2⟩:=r1.two
 have vo:∀ {S:Src} {u:Value},ZA S.val u→∃tk,u=S.value tk:=fun {S u} r=>by
  cases S with
  | l a=>exact⟨0,r⟩
  | t a=>exact⟨0,r⟩
  | s z=>obtain⟨tk,e⟩:=r;exact⟨tk,e⟩
 obtain⟨t1,rfl⟩:=vo w1
 obtain⟨t2,rfl⟩:=vo w2
 obtain⟨us1,r1,m1,f1⟩:=I1.src y1
 obtain⟨us2,r2,m2,f2⟩:=I1.src y2
 refine Zk5 r1 r2 fun h' hz hTI hTO a1 a2 a3 hk=>wpAny_pyIter_zip hz ?_
 have I2:Inv X pins σ H1 { s1 with heap:=h' }:=I1.kept (t':=s1.toks) hk
 have n:=s1.heap.objs.size
 refine⟨_,_,_,_,H1,rfl,I2,ZkK (S1:=S1) (S2:=S2) (z:=s1.heap.objs.size+4) (TI:=s1.heap.objs.size+2) (TO:=s1.heap.objs.size+3) (i1:=s1.heap.objs.size) (i2:=s1.heap.objs.size+1)
  (QB (Qah (by decide) _)) (QB (Qah (by decide) _)) (QB (Qaq (by decide))) (QB (Qah (by decide) _))
  (QB (Qah (by decide) _)) (Q4 (Qaq (by decide))) (Q4 (Qah (by decide) _)) (Q4 (Qaq (by decide)))
  (Q4 (Qah (by decide) _)) (QB (Qaq (by decide))),⟨hz,hTI,⟨_,_,hTO⟩,a1,a2⟩,fun b hb=>?_,q⟩
 have hb':s1.heap.objs.size≤b:=by
  simp only[List.mem_cons,List.not_mem_nil,or_false]at hb
  rcases hb with rfl|rfl|rfl|rfl|rfl
  ·exact QaK _ 4
  ·exact QaK _ 2
  ·exact QaK _ 3
  ·exact Qg _
  ·exact QaK _ 1
 exact I1.fpOk hb' (I1.hok.fresh hb')
section
variable {X:Cx} (K:PySem.W.Frag)
theorem ixL(h:X.K=K:=by rfl):IxR X (Zpn K):=by subst h;exact ZmD
theorem ixT(h:X.K=K:=by rfl):IxR X (ZoX K):=by subst h;exact ZnY
theorem slL(h:X.K=K:=by rfl):SlR X (Zpl K):=by subst h;exact ZmL
def ZpE:List V→Hp→VK→Prop:=fun xs H Q=>∃p ys,xs=[.ref p]∧(SqL K H p ys∨SqT K H p ys)∧Q (.int ys.length) H
theorem Zb5(h:X.K=K:=by rfl):Zaz X (.builtin "len") (ZpE K):=by subst h;exact ZgV
theorem Ze3(h:X.K=K:=by rfl):Zaz X (.builtin "isinstance") (ZoW K):=by subst h;exact ZkB
theorem Zpv(h:X.K=K:=by rfl):Zaz X (.builtin "isinstance") (ZnO K):=by subst h;exact Zkg
def Zo5:List V→Hp→VK→Prop:=fun xs H Q=>∃ (p:Addr) (bs:List Bool),xs=[.ref p]∧SqL K H p (bs.map V.bl)∧Q (.bl (bs.all id)) H
theorem ZpY(hc:X.calm=true:=by rfl)(h:X.K=K:=by rfl):Zaz X (.builtin "all") (Zo5 K):=by subst h;exact Zlq hc
def Zpw:List V→Hp→VK→Prop:=fun xs H Q=>∃ (p:Addr) (ss:List Str),xs=[.ref p]∧SqL K H p (ss.map V.str)∧ss.length<64 ∧
  ∀ (l:Addr) (ss':List Str),H l=none→ss'.Perm ss→sortedS ss'=true→Q (.ref l) (upd H l (.lst (ss'.map V.str)))
theorem Zp1(h:X.K=K:=by rfl):Zaz X (.builtin "sorted") (Zpw K):=by subst h;exact Zhb
def ZpI:V→List V→Hp→VK→Prop:=fun x vs H Q=>∃ (sep:Str) (p:Addr) (ys:List Str),x=.str sep∧vs=[.ref p]∧SqL K H p (ys.map V.str)∧(ys.map (·.length)).sum+ys.length*sep.length≤16777216∧Q (.str (Txt.join sep ys)) H
theorem Zpe(h:X.K=K:=by rfl):MtR X "str.join" (ZpI K):=by subst h;exact Zm5
theorem iL{tg l:Expr}{tl:TE}(hl:PE X l tl)(h:X.K=K:=by rfl):PI X tg l (ZnB K tl):=by subst h;exact ZmF hl
theorem gT{es:List Expr}{k:Nat}{t:TGs}{n:Nat}{pos:Pos}(h:PGs X es t)(hK:X.K=K:=by rfl)(hc:X.calm=true:=by rfl)
  (hn:(assignEach es X.env).length=n:=by rfl) (hst:(assignEach es X.env).findIdx? (·.1)=none:=by rfl):PG X (.Tuple es k pos) (Zpb K n t):=by subst hK;exact ZnQ hc h hn hst
theorem iZ{a b:Expr}{ta:TA}{p pos:Pos}{elts:List Expr}{x1:Nat}{tpos:Pos}(hm:X.mg "zip" = none)(ha:PA X [a,b] ta)(hg:Gl X "zip":=by rfl)(hK:X.K=K:=by rfl)
  (hs:starEach [a,b] X.env=[(false,eval a X.env),(false,eval b X.env)]:=by rfl) (hs2:starEach [b] X.env=[(false,eval b X.env)]:=by rfl) :
  PI X (.Tuple elts x1 tpos) (.Call (.Name "zip" p) [a,b] [] pos) (Zpx K ta):=by subst hK;exact ZnX hg hm ha hs hs2
end
structure Df (P:Program) (w:World) (K:PySem.W.Frag) (mg:Str→Option Value) (base:Heap) (k:Nat) (x:Str) (ps:List Str) (sp:Sp):Prop where
 ex:∃f fd,Zdi P w K mg base CX0 k f fd ps sp∧mg x=some (.ref f)∧PySem.W.keepIn K (.ref f)=true∧ZbK K fd ps []
section
variable {P:Program} {w:World} {K:PySem.W.Frag} {mg:Str→Option Value} {base:Heap}
structure Top (K:PySem.W.Frag) (mg:Str→Option Value) (x:Str) (st:Stmt) (ps:List Str):Prop where
 ex:∃f fd,Fun K x x st f fd∧mg x=some (.ref f)∧ZbK K fd ps []
theorem Top.df{x:Str}{st:Stmt}{N ps:List Str}{k:Nat}{sp:Sp}(T:Top K mg x st ps)(S:Zp N ps (Zf st))(len:∀vs H Q E,sp vs H Q E→vs.length=ps.length)
  (hbody:∀ (cdv:Value) (f:Addr) (A:Around) (outer:List Env) (s:Shared) (H:Hp) (vs:List V) (Q:VK) (E:XK),ZaI k (A.deeper (envOfC x (Zf st) s.heap.objs.size f cdv))→sp vs H Q E →
   ∃t,PSs (ZgY CX0 P w K mg base N x (Zf st) f cdv A outer s H E).nox (Zn st) t∧t { nx:=fun _ H'=>Q .non H',rt:=Q } (ZcP N vs) H):Df P w K mg base (k+1) x ps sp:=by
 obtain⟨f,fd,F,m,b⟩:=T.ex
 exact⟨f,fd,F.ok S len (fun cdv A outer s H vs Q E hr h=>hbody cdv f A outer s H vs Q E hr h),m,F.kp,b⟩
end
section
variable {X:Cx} {k j:Nat} {x:Str} {ps:List Str} {sp:Sp} {e:Expr} {es:List Expr} {t:TA} {p pos:Pos}
theorem ZB(F:Df X.prog X.w X.K X.mg X.base k x ps sp)(hr:ZaI j X.A)(ha:PA X (e::es) t)(hjk:k≤j:=by decide)(hg:Gl X x:=by rfl)(hdb:(x == ("__debug__" : Str))=false:=by decide)
  (he:starEach (e::es) X.env=(false,eval e X.env)::starEach es X.env:=by rfl) (hpl:(backTo pos (starEach es X.env)).any (·.1)=false:=by rfl) :
  PE X (.Call (.Name x p) (e::es) [] pos) (ZnC sp [] E0 t):=by
 obtain⟨f,fd,F,m,kp,b⟩:=F.ex
 exact Zmw F (hr.mono hjk) hg m kp b .nil Zjt ha hdb he hpl
theorem Zcc{T:String}(hm:X.mg x=none)(hv:bootBuiltins x=some (.type T))(hg:Gl X x:=by rfl)(hn:x ≠ "__name__":=by decide)(hd:(x == ("__debug__" : Str))=false:=by decide):PE X (.Name x pos) (tC (.ty T)) :=
 Znu hg hm hv rfl hn hd
end
theorem ZcA{lo:Int}{n k:Nat}{D:Addr}{σ:St}{H1:Hp}{g:TG}{te:TE}{Q:VK}(Pv:Nat→List V→St→Hp→Prop)(h0:Pv 0 [] (σ++List.replicate k none) (upd H1 D (.lst [])))
  (hs:∀i ys σ H,i<n→Pv i ys σ H→g (.int (lo+i)) σ H fun σ4 H4=>te σ4 H4 fun y H6=>H6 D=some (.lst ys)∧ys.length<sizeLine∧Pv (i+1) (ys++[y]) σ4 (upd H6 D (.lst (ys++[y]))))
  (hd:∀ys σ H,Pv n ys σ H→Q (.ref D) H):ZdG (Itr lo n) D k σ H1 g ZiA te Q:=by
 refine⟨fun i m ys σ H=>m=n-i∧i≤n∧Pv i ys σ H,⟨n,by simp,Qp _,h0⟩,?_⟩
 rintro i m ys σ H ⟨rfl,hi,p⟩
 by_cases hlt:i<n
 ·refine .inr ⟨hlt,Pv (i+1),fun ys' σ' H' p'=>⟨n-(i+1),by omega,rfl,hlt,p'⟩,fun x H' y=>?_⟩
  obtain⟨e,y⟩:=y
  subst e y
  simp only[ZiA,↓reduceIte]
  exact hs i ys σ _ hlt p
 ·have e:i=n:=by omega
  subst e
  exact .inl ⟨Qg _,hd ys σ H p⟩
theorem Zhl{K:PySem.W.Frag}{S1 S2:Src}{xs ys:List V}{k:Nat}{D:Addr}{σ:St}{H1:Hp}{g:TG}{te:TE}{Q:VK}(Pv:Nat→List V→St→Hp→Prop)(h0:Pv 0 [] (σ++List.replicate k none) (upd H1 D (.lst [])))
  (hl:∀i zs σ H,Pv i zs σ H→S1.its K H xs∧S2.its K H ys)
  (hs:∀i zs σ H x y p,xs[i]? = some x→ys[i]? = some y→Pv i zs σ H→H p=none→g (.ref p) σ (upd H p (.tup [x,y])) fun σ4 H4=>te σ4 H4 fun z H6=>H6 D=some (.lst zs)∧zs.length<sizeLine∧Pv (i+1) (zs++[z]) σ4 (upd H6 D (.lst (zs++[z]))))
  (hd:∀zs σ H,Pv (min xs.length ys.length) zs σ H→Q (.ref D) H):ZdG (Itz K S1 S2) D k σ H1 g ZiA te Q:=by
 refine⟨fun i m zs σ H=>m=min xs.length ys.length-i∧i≤min xs.length ys.length∧Pv i zs σ H,⟨min xs.length ys.length,by simp,Qp _,h0⟩,?_⟩
 rintro i m zs σ H ⟨rfl,hi,p⟩
 obtain⟨q1,q2⟩:=hl i zs σ H p
 by_cases hlt:i<min xs.length ys.length
 ·have l1:i<xs.length:=by omega
  have l2:i<ys.length:=by omega
  refine .inr ⟨⟨xs,ys,q1,q2,l1,l2⟩,Pv (i+1),fun ys' σ' H' p'=>⟨min xs.length ys.length-(i+1),by omega,rfl,hlt,p'⟩,fun x H' y=>?_⟩
  obtain⟨r,hr,rfl,e⟩:=y
  have e':=e xs ys q1 q2 _ _ (Qb l1) (Qb l2)
  subst e'
  simp only[ZiA,↓reduceIte]
  exact hs i zs σ H _ _ r (Qb l1) (Qb l2) p hr
 ·have e:i=min xs.length ys.length:=by omega
  refine .inl ⟨⟨xs,ys,q1,q2,by omega⟩,hd zs σ H (e ▸ p)⟩
section
variable {X:Cx} {N N':List Str} {o c:Scope} {x:Str} {pos:Pos} {C:Addr} {s:Shared} {H:Hp} {fp:List Addr}
theorem Zdw(S:ZX N N' o c)(ho:X.env.scope=o)(hl:c.names.lookup x=some .local):(ZU X c N' C s H fp).env.scope.names.lookup x=some .local:=by
 have e:=Zcm (X:=X) S ho (Zak X.env.cells c.names []) C x
 rw[hl]at e
 exact e
theorem ZaR(S:ZX N N' o c)(ho:X.env.scope=o)(hl:c.names.lookup x=some .globalImplicit):Gl (ZU X c N' C s H fp) x:=by
 have e:=Zcm (X:=X) S ho (Zak X.env.cells c.names []) C x
 rw[hl]at e
 exact e
theorem ZkH(S:ZX N N' o c)(ho:X.env.scope=o)(hl:c.names.lookup x=some .free):Vis (ZU X c N' C s H fp).env.scope x:=by
 have e:=Zcm (X:=X) S ho (Zak X.env.cells c.names []) C x
 rw[hl]at e
 have e':(ZU X c N' C s H fp).env.scope.names.lookup x=if X.env.kindOf x=some .cell then some NameKind.cell else some NameKind.free:=e
 by_cases z:X.env.kindOf x=some .cell
 ·rw[if_pos z]at e';exact .inr (.inl e')
 ·rw[if_neg z]at e';exact .inr (.inr e')
theorem cv(i:Nat)(S:ZX N N' o c)(ho:X.env.scope=o)(hl:c.names.lookup x=some .free)(hN:N'[i]? = some x:=by rfl)(hd:(x == ("__debug__" : Str))=false:=by decide)(hcd:(x == ("__classdict__" : Str))=false:=by decide) :
  PE (ZU X c N' C s H fp) (.Name x pos) (ZmR i):=Zih hN (ZkH S ho hl) hd hcd
theorem cw(i:Nat)(S:ZX N N' o c)(ho:X.env.scope=o)(hl:c.names.lookup x=some .local)(hN:N'[i]? = some x:=by rfl)(hd:(x == ("__debug__" : Str))=false:=by decide)(hcd:(x == ("__classdict__" : Str))=false:=by decide) :
  PE (ZU X c N' C s H fp) (.Name x pos) (ZmR i):=Zih hN (.inl (Zdw S ho hl)) hd hcd
theorem cg(i:Nat)(S:ZX N N' o c)(ho:X.env.scope=o)(hl:c.names.lookup x=some .local)(hi:N'[i]? = some x:=by rfl):PG (ZU X c N' C s H fp) (.Name x pos) (Zju i) :=
 ZP S.nd hi (.inl (Zdw S ho hl)) (.inr (Zdw S ho hl))
end
mutual
inductive DV (K:PySem.W.Frag) (H:Hp):V→PyData→Prop where
 | non:DV K H .non .none
 | bl (b:Bool):DV K H (.bl b) (.bool b)
 | int (i:Int):DV K H (.int i) (.int i)
 | str (s:Str):DV K H (.str s) (.str s)
 | lst {a:Addr} {xs:List V} {ds:List PyData}:SqL K H a xs→DVs K H xs ds→DV K H (.ref a) (.list ds)
 | tup {a:Addr} {xs:List V} {ds:List PyData}:SqT K H a xs→DVs K H xs ds→DV K H (.ref a) (.tuple ds)
inductive DVs (K:PySem.W.Frag) (H:Hp):List V→List PyData→Prop where
 | nil:DVs K H [] []
 | cons {x:V} {d:PyData} {xs:List V} {ds:List PyData}:DV K H x d→DVs K H xs ds→DVs K H (x::xs) (d::ds)
end
section
variable {X:Cx} {pins:List (Addr×Obj)} {σ:St} {H:Hp} {s:Shared}
mutual
theorem Inv.reads(I:Inv X pins σ H s):∀ {x:V} {d:PyData} {u:Value},DV X.K H x d→ZA x u→∃as,Reads s.heap u d as
 | _,_,_,.non,r=>by cases r;exact⟨_,.none⟩
 | _,_,_,.bl b,r=>by cases r;exact⟨_,.bool b⟩
 | _,_,_,.int i,r=>by obtain⟨t,rfl⟩:=r;exact⟨_,.int i t⟩
 | _,_,_,.str z,r=>by obtain⟨t,rfl⟩:=r;exact⟨_,.str z t⟩
 | _,_,_,.lst h hs,r=>by
  cases r
  obtain⟨its,rv,⟨o,n,e,hc,_,hd⟩,_⟩:=I.list h
  obtain⟨as,q⟩:=Inv.readsAll I hs rv
  exact⟨_,reads_list_at e hc hd (by simpa using q)⟩
 | _,_,_,.tup h hs,r=>by
  cases r
  obtain⟨its,rv,⟨o,e,hc,n,hd⟩,_⟩:=I.tuple h
  obtain⟨as,q⟩:=Inv.readsAll I hs rv
  exact⟨_,reads_tuple_at e hc hd (by simpa using q)⟩
theorem Inv.readsAll(I:Inv X pins σ H s):∀ {xs:List V} {ds:List PyData} {us:List Value},DVs X.K H xs ds→Zy xs us→∃as,ReadsAll s.heap us ds as
 | _,_,_,.nil,r=>by cases r;exact⟨_,.nil⟩
 | _,_,_,.cons h hs,r=>by
  cases r with
  | cons r1 r2 =>
   obtain⟨as,q1⟩:=Inv.reads I h r1
   obtain⟨bs,q2⟩:=Inv.readsAll I hs r2
   exact⟨_,.cons q1 q2⟩
end
def Zo9(K:PySem.W.Frag)(neg:Bool):R2:=fun x y H Q=>∃d e,DV K H x d∧DV K H y e∧SeqAt.shaped d=true∧SeqAt.shaped e=true∧Q (.bl (if neg then !PyData.eqv d e else PyData.eqv d e)) H
theorem ZnP(hu:X.A.units+64<cLine):OpR X (compareOp .NotEq) (Zo9 X.K true):=by
 intro pins s σ H x y v u Q I rx ry h
 obtain⟨d,e,h1,h2,s1,s2,q⟩:=h
 obtain⟨as,r1⟩:=I.reads h1 rx
 obtain⟨bs,r2⟩:=I.reads h2 ry
 exact ne_dataH r1 r2 s1 s2 hu ⟨.bl _,H,I,rfl,q⟩
end
theorem neD{X:Cx}(K:PySem.W.Frag){k:Nat}(hr:ZaI k X.A)(h:X.K=K:=by rfl):OpR X (compareOp .NotEq) (Zo9 K true):=by subst h;exact ZnP hr.units
mutual
theorem DV.mono{K:PySem.W.Frag}{H H':Hp}(s:ZH H H'):∀ {x:V} {d:PyData},DV K H x d→DV K H' x d
 | _,_,.non=>.non
 | _,_,.bl b=>.bl b
 | _,_,.int i=>.int i
 | _,_,.str z=>.str z
 | _,_,.lst h hs=>.lst (s.seq h) (DVs.mono s hs)
 | _,_,.tup h hs=>.tup (by
   rcases h with(h|⟨ob,h⟩)|h
   ·exact .inl (.inl (s _ _ h))
   ·exact .inl (.inr ⟨ob,s _ _ h⟩)
   ·exact .inr h) (DVs.mono s hs)
theorem DVs.mono{K:PySem.W.Frag}{H H':Hp}(s:ZH H H'):∀ {xs:List V} {ds:List PyData},DVs K H xs ds→DVs K H' xs ds
 | _,_,.nil=>.nil
 | _,_,.cons h hs=>.cons (DV.mono s h) (DVs.mono s hs)
end
def Ite(K:PySem.W.Frag)(a:Addr):It :=
 ⟨fun i H=>∃xs,SqL K H a xs∧i<xs.length,
  fun i H v H'=>∃p,H p=none∧v=.ref p∧∀xs,SqL K H a xs→∀x,xs[i]? = some x→H'=upd H p (.tup [.int i,x]),
  fun i H=>∃xs,SqL K H a xs∧xs.length≤i⟩
theorem ZjE{P:Program}{w:World}{K:PySem.W.Frag}{elts:List Expr}{x1:Nat}{tpos:Pos}{a e it:Addr}(hne:e≠it) :
  Zkj P w K (.Tuple elts x1 tpos) (Ite K a) [e,it] e (fun i h=>(∃old,IsEnum h e it i old)∧h.IsListIter it a i) where
 mem:=by simp
 obj:=fun i h st b hb=>by
  obtain⟨⟨old,he⟩,o,hit,hc,hd⟩:=st
  simp only[List.mem_cons,List.not_mem_nil,or_false]at hb
  rcases hb with rfl|rfl
  ·exact⟨_,he,fun v z=>by cases z⟩
  ·exact⟨o,hit,fun v z=>by rw[hd]at z;cases z⟩
 keep:=fun i h h' st k=>by
  obtain⟨⟨old,he⟩,hit⟩:=st
  exact⟨⟨old,k e (by simp) _ he⟩,hit.at fun o q=>k it (by simp) o q⟩
 item:=by
  intro X hP hw hK hc i pins s σ H E I hf st hg
  subst hP hw hK
  obtain⟨⟨old,he⟩,hit⟩:=st
  obtain⟨xs,q1,l1⟩:=hg
  obtain⟨its,rv,pl,_⟩:=I.list q1
  obtain⟨u,hu,ru⟩:=rv.get (Qb l1)
  refine wpAny_pyNext_enum_item he hit pl.isList (x:=u) (by simpa using hu) hne fun h' a1 a2 a3 a4 a5=>?_
  have lt:∀ {b:Addr} {o:Obj},s.heap.get? b=some o→s.heap.objs.size≠b:=fun q=>Q4 (Qo q)
  have hes:s.heap.objs.size≠e:=lt he
  refine⟨_,rfl,wpAny_letOwnedTupleGo_enum a1 fun h'' he'' hs''=>?_⟩
  have hs':Heap.SameBut e h' h'':=hs''
  have hit'':h''.IsListIter it a (i+1):=a2.extBut hs'.extBut hne.symm
  have I2:Inv X pins σ (upd H s.heap.objs.size (.tup [.int i,xs[i]])) { s with heap:=h'',toks:=s.toks+1 }:=by
   refine I.zipped (fp:=[e,it]) (u:=.int i s.toks) (v:=u) hf ⟨_,rfl⟩ ru (hs'.extBut _ _ hes a3) (fun b hb=>?_) fun c o hc q=>?_
   ·simp only[List.mem_cons,List.not_mem_nil,or_false]at hb
    rcases hb with rfl|rfl
    ·exact⟨_,he''⟩
    ·obtain⟨o,q,_⟩:=hit'';exact⟨o,q⟩
   ·simp only[List.mem_cons,List.not_mem_nil,or_false,not_or]at hc
    exact hs'.extBut _ _ hc.1 (a5 c o hc.1 hc.2 q)
  refine⟨.ref s.heap.objs.size,_,I2,rfl,⟨s.heap.objs.size,I.fresh,rfl,fun xs' w1 x' e1=>?_⟩,⟨⟨_,he''⟩,hit''⟩,fun b hb=>?_⟩
  ·have e3:=I.list_inj w1 q1
   subst e3
   rw[Qb l1]at e1
   cases e1
   rfl
  ·rw[Zc (fun z=>by
    obtain⟨o,q⟩:∃o,s.heap.get? b=some o:=by
     simp only[List.mem_cons,List.not_mem_nil,or_false]at hb
     rcases hb with rfl|rfl
     ·exact⟨_,he⟩
     ·obtain⟨o,q,_⟩:=hit;exact⟨o,q⟩
    exact lt q z.symm)]
   exact(hf b hb).1
 done:=by
  intro X hP hw hK hc i pins s σ H E I hf st hg
  subst hP hw hK
  obtain⟨⟨old,he⟩,hit⟩:=st
  obtain⟨xs,q1,l1⟩:=hg
  obtain⟨its,rv,pl,_⟩:=I.list q1
  obtain⟨f0,f1,f2,f3,f4,f5⟩:=hf it (by simp)
  have hl:=rv.length
  exact wpAny_pyNext_enum_end (I.ok.hd hc) he hit pl.isList (by rw[Qal];exact Qab (by omega)) fun h' eb=>⟨rfl,I.turned (t':=s.toks) (fun b o hb q=>eb b o hb q) f0 f1 f3 f4 f5⟩
 self:=fun _ _ _ _ _ st h=>by obtain⟨⟨old,he⟩,_⟩:=st;exact wpAny_pyIter_enum he h
def ZnN(K:PySem.W.Frag)(ta:TA):TI:=fun σ H R=>ta σ H fun vs H1=>∃a xs,vs=[V.ref a]∧SqL K H1 a xs∧R (Ite K a) H1
theorem Znr{X:Cx}{l:Expr}{ta:TA}{p pos:Pos}{elts:List Expr}{x1:Nat}{tpos:Pos}(hg:Gl X "enumerate")(hm:X.mg "enumerate" = none)(ha:PA X [l] ta)
  (hs:starEach [l] X.env=[(false,eval l X.env)]:=by rfl):PI X (.Tuple elts x1 tpos) (.Call (.Name "enumerate" p) [l] [] pos) (ZnN X.K ta):=by
 intro pins s σ H R I h
 refine Call_ (Zdz I hg hm boot_enumerate (Q9 (thn (ha pos pins s σ H _ I h) ?_) hs rfl))
 rintro us s1 ⟨vs,H1,I1,r1,q1⟩
 obtain⟨a,xs,e,y1,q⟩:=q1
 subst e
 obtain⟨u,rfl,ru⟩:=r1.one
 cases ru
 obtain⟨its,rv,pl,_⟩:=I1.list y1
 refine call_enumerate_list pl.isList fun h' he hit hsz hk=>wpAny_pyIter_enum he ?_
 have I2:Inv X pins σ H1 { s1 with heap:=h' }:=I1.kept (t':=s1.toks) hk
 refine⟨_,_,_,_,H1,rfl,I2,ZjE (a:=a) (e:=s1.heap.objs.size+1) (it:=s1.heap.objs.size) (Q4 (Qa3 _)),⟨⟨_,he⟩,hit⟩,fun b hb=>?_,q⟩
 have hb':s1.heap.objs.size≤b:=by
  simp only[List.mem_cons,List.not_mem_nil,or_false]at hb
  rcases hb with rfl|rfl
  ·exact QaK _ 1
  ·exact Qg _
 exact I1.fpOk hb' (I1.hok.fresh hb')
theorem iE{X:Cx}(K:PySem.W.Frag){l:Expr}{ta:TA}{p pos:Pos}{elts:List Expr}{x1:Nat}{tpos:Pos}(hm:X.mg "enumerate" = none)(ha:PA X [l] ta)(hg:Gl X "enumerate":=by rfl)(hK:X.K=K:=by rfl)
  (hs:starEach [l] X.env=[(false,eval l X.env)]:=by rfl):PI X (.Tuple elts x1 tpos) (.Call (.Name "enumerate" p) [l] [] pos) (ZnN K ta):=by subst hK;exact Znr hg hm ha hs
theorem Zfc{K:PySem.W.Frag}{a:Addr}{xs:List V}{g:TG}{tb:TS}{D:ZbG}{σ:St}{H:Hp}(Pv:Nat→St→Hp→Prop)(h0:Pv 0 σ H)(hl:∀i σ H,Pv i σ H→SqL K H a xs)
  (hs:∀i x σ H p,xs[i]? = some x→Pv i σ H→H p=none→g (.ref p) σ (upd H p (.tup [.int i,x])) fun σ2 H2=>tb { D with nx:=Pv (i+1),ct:=Pv (i+1),bk:=D.nx } σ2 H2) (hd:∀σ H,Pv xs.length σ H→D.nx σ H) :
  ∃W:Nat→Nat→St→Hp→Prop,(∃m,W 0 m σ H)∧∀i m σ H,W i m σ H →
   ((Ite K a).stop i H∧D.nx σ H)∨((Ite K a).go i H∧∃N:St→Hp→Prop,(∀σ' H',N σ' H'→∃m',m'<m∧W (i+1) m' σ' H')∧∀x H',(Ite K a).yld i H x H'→g x σ H' fun σ2 H2=>tb { D with nx:=N,ct:=N,bk:=D.nx } σ2 H2):=by
 refine⟨fun i m σ H=>m=xs.length-i∧i≤xs.length∧Pv i σ H,⟨xs.length,by simp,Qp _,h0⟩,?_⟩
 rintro i m σ H ⟨rfl,hi,p⟩
 have q1:=hl i σ H p
 by_cases hlt:i<xs.length
 ·refine .inr ⟨⟨xs,q1,hlt⟩,Pv (i+1),fun σ' H' p'=>⟨xs.length-(i+1),by omega,rfl,hlt,p'⟩,fun x H' y=>?_⟩
  obtain⟨r,hr,rfl,e⟩:=y
  have e':=e xs q1 _ (Qb hlt)
  subst e'
  exact hs i _ σ H r (Qb hlt) p hr
 ·have e:i=xs.length:=by omega
  exact .inl ⟨⟨xs,q1,by omega⟩,hd σ H (e ▸ p)⟩
def Zow(K:PySem.W.Frag):List V→Hp→VK→Prop:=fun xs H Q=>∃p ys,xs=[.ref p]∧(SqL K H p ys∨SqT K H p ys)∧∀l,H l=none→Q (.ref l) (upd H l (.lst ys))
theorem ZnI{X:Cx}(K:PySem.W.Frag)(h:X.K=K:=by rfl):Zaz X (.type "list") (Zow K):=by subst h;exact ZgL
section
variable {prog:Program} {w:World} {A:Around} {E:Value→Shared→Prop} {s:Shared}
end
section
variable {X:Cx} {e st:Expr} {te:TE} {lo hi:Option Expr} {tl th ts:TO} {pos p2:Pos}
end
section
variable {X:Cx}
def Zpd:V→List V→Hp→VK→Prop:=fun x vs H Q=>∃i,x=.int i∧vs=[]∧Q (.int (Builtin.Int.intBits i:Nat)) H
theorem Zna:MtM X "int.bit_length" Zpd:=by
 intro pins s σ H x vs v us Q I rx rv h
 obtain⟨i,rfl,rfl,q⟩:=h
 obtain⟨t,rfl⟩:=rx
 have hus:=rv.zero
 subst hus
 exact call_int_bit_length ⟨.int _,H,I.tok _,⟨_,rfl⟩,q⟩
theorem inQ(K:PySem.W.Frag)(h:X.K=K:=by rfl):OpR X (compareOp .In) (rIn K false):=by subst h;exact ZjK
end
section
variable {X:Cx} {tg:Expr}
end
end L2
namespace L2
open PySem PySem.Spec PyProof.Rows
section
variable {X:Cx} {pins:List (Addr×Obj)} {σ:St} {H:Hp} {s:Shared}
def Zo0:TE:=fun _ H Q=>∀p,H p=none→Q (.ref p) (upd H p (.dT []))
theorem ZiZ{pos:Pos}:PE X (.Dict [] [] pos) Zo0:=by
 intro pins s σ H Q I h
 have hb:sysModules<s.heap.objs.size:=Nat.lt_trans (by decide) (show mainGlobals<s.heap.objs.size from(I.mod.glob.keeps I.bk).lt)
 refine wpAny_Dict_empty ⟨.ref s.heap.objs.size,upd H s.heap.objs.size (.dT []),?_,rfl,h _ (I.hok.fresh (Qg _))⟩
 refine I.laid (t':=s.toks) (fun _ _ q=>Qc _ q) (Qg _) ?_
 refine⟨Qp _,?_,[],.nil,_,#[],0,Qz _ rfl,⟨rfl,rfl,rfl⟩,rfl,rfl,List.nodup_nil⟩
 exact beq_eq_false_iff_ne.mpr fun z=>Qac _ (z ▸ hb)
end
def ZbM(lo:Int)(n:Nat):List Int:=(List.range n).map fun (k:Nat)=>lo+k
theorem ZfH(lo:Int)(n:Nat):(ZbM lo n).length=n:=by simp[ZbM]
section
variable {prog:Program} {w:World} {A:Around} {E:Value→Shared→Prop} {s:Shared}
end
section
variable {X:Cx}
theorem Zba{prog:Program}{w:World}{A:Around}{E:Value→Shared→Prop}{s:Shared}{a:Addr}{o:Obj}{xs:Array Value}{n:Nat}{Q:Array Value→Shared→Prop}(ho:s.heap.get? a=some o)(hd:o.data=.seq xs n)(h:Q xs s):wpAny (model prog w) A (Builtin.List.listItems (.ref a)) Q E s:=by
 unfold Builtin.List.listItems
 exact wpAny_bind (wpAny_seqItems ho hd (wpAny_pure h))
theorem ZdT(ns:List Int):∀n,n≤ns.length→preSum (fun j=>ns.getD j 0) n=(ns.take n).sum
 | 0,_=>rfl
 | n+1,h=>by
  have ih:=ZdT ns n (by omega)
  have e:ns.take (n+1)=ns.take n++[ns.getD n 0]:=by
   rw[QM,Qb (by omega),QF,Qb (by omega)]
   rfl
  rw[e,Qaw,← ih]
  simp[preSum]
end
section
variable {prog:Program} {w:World} {A:Around} {E:Value→Shared→Prop} {s:Shared} {κ:PyProof.Rows.KeyKind} {k0:SortKind} {a₀:Array Keyed} {st:SortSt}
def ZdY(prog:Program)(w:World)(A:Around)(s:Shared)(k0:SortKind)(κ:PyProof.Rows.KeyKind):Prop :=
 ∀ (E:Value→Shared→Prop) (x y:Value) (a b:κ.α) (Q:Bool→Shared→Prop),κ.keyOf x=some a→κ.keyOf y=some b→Q (κ.blt a b) s→wpAny (model prog w) A (keyLt' k0 x y) Q E s
structure SB (k0:SortKind) (a₀:Array Keyed) (st:SortSt):Prop where
 perm:(arrOf st).Perm a₀
 kind:kindOf st=k0
 failed:failedOf st=none
 pend:pendingOf st = #[]
theorem SB.size(B:SB k0 a₀ st):(arrOf st).size=a₀.size:=B.perm.size_eq
theorem w_elem{arr:Array Keyed}{i:Nat}{p:Keyed}{Q:Keyed→SortSt→Prop}(h:arr[i]? = some p)(q:Q p st):wpS (model prog w) A E s (elem' arr i) Q st:=by
 rw[elem'_eq,h]
 exact wpS_pure q
theorem w_rev{i j:Nat}{Q:Unit→SortSt→Prop}(q:Q () (setArr st (mirror (arrOf st) i j ((j-i) / 2)))):wpS (model prog w) A E s (reverseSlice' i j) Q st:=wpS_reverse q
end
section
variable {prog:Program} {w:World} {A:Around} {E:Value→Shared→Prop} {s:Shared} {κ:PyProof.Rows.KeyKind}
end
def kLt:Key→Key→Bool
 | .inl i,.inl j=>decide (i<j)
 | .inr x,.inr y=>decide (x.cps.toList<y.cps.toList)
 | .inl _,.inr _=>true
 | .inr _,.inl _=>false
theorem ZiH:∀a:Key,kLt a a=false
 | .inl i=>decide_eq_false (by omega)
 | .inr x=>decide_eq_false (List.lt_irrefl _)
theorem ZjM:∀a b c:Key,kLt a b=true→kLt b c=true→kLt a c=true
 | .inl i,.inl j,.inl k,h1,h2=>by have:=of_decide_eq_true h1;have:=of_decide_eq_true h2;exact decide_eq_true (by omega)
 | .inr x,.inr y,.inr z,h1,h2=>decide_eq_true (List.lt_trans (of_decide_eq_true h1) (of_decide_eq_true h2))
 | .inl _,.inl _,.inr _,_,_=>rfl
 | .inl _,.inr _,.inr _,_,_=>rfl
 | .inl _,.inr _,.inl _,_,h=>by cases h
 | .inr _,.inl _,_,h,_=>by cases h
 | .inr _,.inr _,.inl _,_,h=>by cases h
theorem Zki:∀a b:Key,kLt a b=false→kLt b a=false→a=b
 | .inl i,.inl j,h1,h2=>by have:=of_decide_eq_false h1;have:=of_decide_eq_false h2;congr 1;omega
 | .inr x,.inr y,h1,h2=>by
  have a1:¬ x.cps.toList<y.cps.toList:=of_decide_eq_false h1
  have a2:¬ y.cps.toList<x.cps.toList:=of_decide_eq_false h2
  have e:x.cps.toList=y.cps.toList:=List.le_antisymm a2 a1
  obtain⟨xs⟩:=x
  obtain⟨ys⟩:=y
  congr 2
  exact Array.toList_inj.mp e
 | .inl _,.inr _,h,_=>by cases h
 | .inr _,.inl _,_,h=>by cases h
def Zbv:List Key→List Key→Bool
 | [],[]=>false
 | [],_::_=>true
 | _::_,[]=>false
 | x::xs,y::ys=>if x=y then Zbv xs ys else kLt x y
theorem ZjV(x y:Key)(xs ys:List Key):Zbv (x::xs) (y::ys)=if x=y then Zbv xs ys else kLt x y:=rfl
theorem ZeC:∀a:List Key,Zbv a a=false
 | []=>rfl
 | x::r=>by unfold Zbv;rw[if_pos rfl];exact ZeC r
theorem Zdy:∀a b c:List Key,Zbv a b=true→Zbv b c=true→Zbv a c=true
 | [],[],_,h,_=>by cases h
 | [],_::_,[],_,h=>by cases h
 | [],_::_,_::_,_,_=>rfl
 | _::_,[],_,h,_=>by cases h
 | _::_,_::_,[],_,h=>by cases h
 | x::r,y::s,z::t,h1,h2=>by
  have ih:=Zdy r s t
  unfold Zbv at h1 h2 ⊢
  by_cases e1:x=y
  ·rw[if_pos e1]at h1
   by_cases e2:y=z
   ·rw[if_pos e2]at h2
    rw[if_pos (e1.trans e2)]
    exact ih h1 h2
   ·rw[if_neg e2]at h2
    rw[if_neg (fun e=>e2 (e1.symm.trans e)),e1]
    exact h2
  ·rw[if_neg e1]at h1
   by_cases e2:y=z
   ·rw[if_neg (fun e=>e1 (e.trans e2.symm)),← e2]
    exact h1
   ·rw[if_neg e2]at h2
    have h3:=ZjM _ _ _ h1 h2
    rw[if_neg (fun e=>by rw[e,ZiH]at h3;cases h3)]
    exact h3
theorem Zdt:∀a b:List Key,Zbv a b=false→Zbv b a=false→a=b
 | [],[],_,_=>rfl
 | [],_::_,h,_=>by cases h
 | _::_,[],_,h=>by cases h
 | x::r,y::s,h1,h2=>by
  unfold Zbv at h1 h2
  by_cases e:x=y
  ·rw[if_pos e]at h1
   rw[if_pos e.symm]at h2
   rw[e,Zdt r s h1 h2]
  ·rw[if_neg e]at h1
   rw[if_neg fun z=>e z.symm]at h2
   exact absurd (Zki _ _ h1 h2) e
theorem Zk3(a b c:List Key)(h:Zbv a c=true):Zbv a b=true∨Zbv b c=true:=by
 by_cases h1:Zbv a b=true
 ·exact .inl h1
 ·by_cases h2:Zbv b a=true
  ·exact .inr (Zdy _ _ _ h2 h)
  ·have e:=Zdt a b (by simpa using h1) (by simpa using h2)
   rw[← e];exact .inr h
def unV:V→Option Key
 | .int i=>some (.inl i)
 | .str x=>some (.inr x)
 | _=>none
def ZeB:List V→Option (List Key)
 | []=>some []
 | x::r=>(unV x).bind fun k=>(ZeB r).map (k::·)
theorem Zn8(k:Key):unV (kV k)=some k:=by cases k<;>rfl
theorem Zhp:∀ks:List Key,ZeB (ks.map kV)=some ks
 | []=>rfl
 | k::r=>by show (unV (kV k)).bind _=_;rw[Zn8,Zhp r];rfl
theorem ZoI:∀ {x:V} {k:Key},unV x=some k→x=kV k
 | .int i,k,h=>by cases h;rfl
 | .str z,k,h=>by cases h;rfl
 | .non,_,h=>by cases h
 | .bl _,_,h=>by cases h
 | .byt _,_,h=>by cases h
 | .flt _,_,h=>by cases h
 | .ref _,_,h=>by cases h
 | .ty _,_,h=>by cases h
theorem Zhv:∀ {xs:List V} {ks:List Key},ZeB xs=some ks→xs=ks.map kV
 | [],ks,h=>by cases h;rfl
 | x::r,ks,h=>by
  unfold ZeB at h
  cases hu:unV x with
  | none=>rw[hu]at h;cases h
  | some k =>
   rw[hu]at h
   cases hr:ZeB r with
   | none=>rw[hr]at h;cases h
   | some ms=>rw[hr]at h;cases h;rw[ZoI hu,Zhv hr];rfl
def ZbQ(ks:List Key):List Bool:=ks.map fun k=>k.isLeft
def Zf1(H:Hp)(sh:List Bool):Value→Option (List Key)
 | .ref a=>match H a with
  | some (.tup xs)=>(ZeB xs).bind fun ks=>if ZbQ ks=sh then some ks else none
  | _=>none
 | _=>none
theorem Zhq{H:Hp}{a:Addr}{ks:List Key}(h:H a=some (.tup (ks.map kV))):Zf1 H (ZbQ ks) (.ref a)=some ks:=by
 unfold Zf1
 dsimp only
 rw[h]
 show (ZeB (ks.map kV)).bind _=_
 rw[Zhp]
 show (if ZbQ ks=ZbQ ks then some ks else none)=_
 rw[if_pos rfl]
theorem ZhJ{H:Hp}{sh:List Bool}{v:Value}{ks:List Key}(h:Zf1 H sh v=some ks):∃a,v=.ref a∧H a=some (.tup (ks.map kV))∧ZbQ ks=sh:=by
 unfold Zf1 at h
 split at h
 ·rename_i a
  split at h
  ·rename_i xs hx
   cases hk:ZeB xs with
   | none=>rw[hk]at h;cases h
   | some ms =>
    rw[hk]at h
    have h':(if ZbQ ms=sh then some ms else none)=some ks:=h
    by_cases e:ZbQ ms=sh
    ·rw[if_pos e]at h'
     cases h'
     exact⟨a,rfl,by rw[hx,Zhv hk],e⟩
    ·rw[if_neg e]at h';cases h'
  ·cases h
 ·cases h
def Zg6(H:Hp)(sh:List Bool):PyProof.Rows.KeyKind:=⟨⟨List Key,Zbv,ZeC,Zdy,fun a b c h=>Zk3 a b c h,Zdt⟩,Zf1 H sh,[]⟩
section
variable {prog:Program} {w:World} {A:Around} {E:Value→Shared→Prop} {s:Shared}
theorem Zog{k m:Key}{p q:Value}(hp:ZA (kV k) p)(hq:ZA (kV m) q)(hs:k.isLeft=m.isLeft){Q:Bool→Shared→Prop}(h:Q (decide (k=m)) s):wpAny (model prog w) A (eqBool p q) Q E s:=by
 cases k with
 | inl i =>
  cases m with
  | inl j =>
   obtain⟨t,rfl⟩:=hp
   obtain⟨u,rfl⟩:=hq
   refine wpAny_eqBool_int ?_
   have e:(i == j)=decide ((Sum.inl i:Key)=Sum.inl j):=by
    by_cases z:i=j
    ·rw[z];simp
    ·rw[decide_eq_false (fun e=>z (Sum.inl.inj e))];simpa using z
   rw[e];exact h
  | inr y=>cases hs
 | inr x =>
  cases m with
  | inl j=>cases hs
  | inr y =>
   obtain⟨t,rfl⟩:=hp
   obtain⟨u,rfl⟩:=hq
   refine wpAny_eqBool_str ?_
   have e:decide (x=y)=decide ((Sum.inr x:Key)=Sum.inr y):=decide_eq_decide.mpr ⟨fun z=>by rw[z],fun z=>Sum.inr.inj z⟩
   rw[e];exact h
theorem Zn2{c:Bool}{k m:Key}{p q:Value}(hp:ZA (kV k) p)(hq:ZA (kV m) q)(hs:k.isLeft=m.isLeft){Q:Bool→Shared→Prop}(h:Q (kLt k m) s):wpAny (model prog w) A (oneLt' c p q) Q E s:=by
 cases k with
 | inl i =>
  cases m with
  | inl j =>
   obtain⟨t,rfl⟩:=hp
   obtain⟨u,rfl⟩:=hq
   cases c with
   | true=>exact oneLt_int h
   | false =>
    rw[oneLt'_eq]
    show wpAny _ _ (richCompare .Lt (.int i t) (.int j u) >>= _) _ _ _
    refine wpAny_bind (show wpAny (model prog w) A (compareOp .Lt (.int i t) (.int j u)) _ _ _ from PyProof.Rows.lt_int ?_)
    exact wpAny_pure h
  | inr y=>cases hs
 | inr x =>
  cases m with
  | inl j=>cases hs
  | inr y =>
   obtain⟨t,rfl⟩:=hp
   obtain⟨u,rfl⟩:=hq
   cases c with
   | true=>exact oneLt_str h
   | false =>
    rw[oneLt'_eq]
    show wpAny _ _ (richCompare .Lt (.str x t) (.str y u) >>= _) _ _ _
    refine wpAny_bind (show wpAny (model prog w) A (compareOp .Lt (.str x t) (.str y u)) _ _ _ from PyProof.Rows.lt_str ?_)
    exact wpAny_pure h
theorem Zoi{b:Bool}{x y:Addr}{ks ms:List Key}{its its2:List Value}(hx:IsTup s.heap x its.toArray)(hy:IsTup s.heap y its2.toArray)(rx:Zy (ks.map kV) its)(ry:Zy (ms.map kV) its2)(hs:ZbQ ks=ZbQ ms){Q:Bool→Shared→Prop}
  (h:Q (Zbv ks ms) s):wpAny (model prog w) A (keyLt' (tuples' b) (.ref x) (.ref y)) Q E s:=by
 obtain⟨o1,ho1,_,n1,hd1⟩:=hx
 obtain⟨o2,ho2,_,n2,hd2⟩:=hy
 show wpAny _ _ (Builtin.List.listItems (.ref x) >>= _) _ _ _
 refine wpAny_bind (Zba ho1 hd1 (wpAny_bind (Zba ho2 hd2 (wpAny_bind ?_))))
 have hl1:=rx.length
 have hl2:=ry.length
 have hl3:ks.length=ms.length:=by have:=congrArg List.length hs;simpa [ZbQ] using this
 rw[Qa]at hl1 hl2
 refine wpAny_forIn_list _ (fun rest c s'=>c=(none,())∧s'=s∧∃ (vs ws:List Value) (k:Nat) (ks' ms':List Key),rest=(vs.zip ws).zipIdx k∧Zy (ks'.map kV) vs∧Zy (ms'.map kV) ws∧ZbQ ks'=ZbQ ms'∧Zbv ks ms=Zbv ks' ms') _ ?_ ?_ _ _ ⟨rfl,rfl,its,its2,0,ks,ms,by simp,rx,ry,hs,rfl⟩
 ·rintro⟨⟨p,q⟩,i⟩ rest c s' ⟨rfl,rfl,vs,ws,k,ks',ms',hz,rv,rw',hs',he⟩
  cases ks' with
  | nil=>cases rv;cases hz
  | cons k1 kr =>
   cases ms' with
   | nil=>cases hs'
   | cons m1 mr =>
    cases rv with
    | cons r1 rr =>
     cases rw' with
     | cons r1' rr' =>
      rw[Qak,List.zipIdx_cons]at hz
      injection hz with h1 h2
      injection h1 with h3 h4
      injection h3 with h5 h6
      subst h4 h5 h6
      unfold ZbQ at hs'
      rw[Qi,Qi]at hs'
      injection hs' with s1 s2
      refine wpAny_bind (Zog r1 r1' s1 ?_)
      rw[ZjV]at he
      by_cases e:k1=m1
      ·rw[if_pos e]at he
       rw[decide_eq_true e]
       exact wpAny_pure ⟨rfl,rfl,_,_,_,kr,mr,h2,rr,rr',s2,he⟩
      ·rw[if_neg e]at he
       rw[decide_eq_false e]
       refine wpAny_bind (Zn2 r1 r1' s1 (wpAny_pure ?_))
       refine wpAny_pure ?_
       rw[← he];exact h
 ·rintro c s' ⟨rfl,rfl,vs,ws,k,ks',ms',hz,rv,rw',hs',he⟩
  refine wpAny_pure ?_
  have e:Zbv ks' ms'=false:=by
   cases ks' with
   | nil =>
    cases ms' with
    | nil=>rfl
    | cons _ _=>cases hs'
   | cons k1 kr =>
    cases ms' with
    | nil=>cases hs'
    | cons m1 mr =>
     cases rv with
     | cons r1 rr =>
      cases rw' with
      | cons r1' rr'=>rw[Qak,List.zipIdx_cons]at hz;cases hz
  rw[e]at he
  rw[he]at h
  have e2:decide (its.toArray.size<its2.toArray.size)=false:=decide_eq_false (by rw[Qx,Qx];omega)
  rw[e2];exact h
end
section
variable {prog:Program} {w:World} {A:Around} {E:Value→Shared→Prop} {s:Shared}
theorem w_mapM{M:Model}{α β:Type}{f:α→Sem β}(R:α→β→Prop):∀ (l:List α) {Q:List β→Shared→Prop},(∀v∈l,∃r,R v r∧∀ (Q':β→Shared→Prop),Q' r s→wpAny M A (f v) Q' E s)→(∀rs,rs.length=l.length→(∀r∈rs,∃v∈l,R v r)→Q rs s)→wpAny M A (List.mapM f l) Q E s
 | [],Q,_,q=>by rw[List.mapM_nil];exact wpAny_pure (q [] rfl (fun r h=>by cases h))
 | a::l,Q,h,q=>by
  rw[List.mapM_cons]
  obtain⟨r,hr,hw⟩:=h a (by simp)
  refine wpAny_bind (hw _ (wpAny_bind (w_mapM R l (fun v hv=>h v (Ql _ hv)) fun rs hl hrs=>wpAny_pure (q (r::rs) (by simp[hl]) fun z hz=>?_))))
  rcases QH.mp hz with rfl|hz
  ·exact⟨a,by simp,hr⟩
  ·obtain⟨v,hv,hR⟩:=hrs z hz
   exact⟨v,Ql _ hv,hR⟩
theorem w_mapA{M:Model}{α β:Type}{f:α→Sem β}(R:α→β→Prop)(l:Array α){Q:Array β→Shared→Prop}(h:∀v∈l.toList,∃r,R v r∧∀ (Q':β→Shared→Prop),Q' r s→wpAny M A (f v) Q' E s)(q:∀rs:Array β,(∀r∈rs.toList,∃v∈l.toList,R v r)→Q rs s):wpAny M A (Array.mapM f l) Q E s:=by
 rw[Array.mapM_eq_mapM_toList,map_eq_pure_bind]
 exact wpAny_bind (w_mapM R l.toList h fun rs _ hr=>wpAny_pure (q rs.toArray (by simpa using hr)))
theorem Zj6{a:Addr}{its:List Value}(ht:IsTup s.heap a its.toArray){Q:Option Value→Shared→Prop}(q:Q its[0]? s):wpAny (model prog w) A (firstOfTuple' (.ref a)) Q E s:=by
 obtain⟨o,ho,hc,n,hd⟩:=id ht
 show wpAny _ _ (typeOf (.ref a) >>= _) _ _ _
 refine wpAny_bind (wpAny_typeOf ht.typeIs ?_)
 rw[if_neg (by decide)]
 refine wpAny_bind (Zba ho hd (wpAny_pure ?_))
 simpa using q
theorem ZlQ{k:Key}{v:Value}(h:ZA (kV k) v){Q:Value→Shared→Prop}(q:Q (.type (if k.isLeft then "int" else "str")) s):wpAny (model prog w) A (typeOf v) Q E s:=by
 cases k with
 | inl i=>obtain⟨t,rfl⟩:=h;exact wpAny_typeOf (T := "int") rfl q
 | inr x=>obtain⟨t,rfl⟩:=h;exact wpAny_typeOf (T := "str") rfl q
theorem Zmi{vs:List Value}(h:∀v∈vs,∃ (a:Addr) (its:List Value) (k:Key) (v0:Value),v=.ref a∧IsTup s.heap a its.toArray∧its[0]? = some v0∧ZA (kV k) v0){Q:SortKind→Shared→Prop}(q:∀b,Q (tuples' b) s):wpAny (model prog w) A (keyKind' vs.toArray) Q E s:=by
 rw[keyKind'_eq]
 refine wpAny_bind (w_mapA (fun _ r=>∃ (k:Key) (v0:Value),r=some v0∧ZA (kV k) v0) _ (fun v hv=>?_) fun firsts hf=>?_)
 ·obtain⟨a,its,k,v0,rfl,ht,h0,hr⟩:=h v (by simpa using hv)
  exact⟨its[0]?,⟨k,v0,h0,hr⟩,fun Q' q'=>Zj6 ht q'⟩
 ·have hall:(firsts.all fun x=>x.isSome)=true:=by
   rw[Array.all_eq_true]
   intro i hi
   obtain⟨v,_,k,v0,e,_⟩:=hf firsts[i] (by simp)
   rw[e];rfl
  rw[if_pos hall]
  refine wpAny_bind (wpAny_rule (wpAny_bind ?_))
  rw[oneTypeOnly'_eq]
  refine wpAny_bind (w_mapA (fun _ _=>True) _ (fun v hv=>?_) fun ts _=>?_)
  ·have hv':v∈(Array.filterMap id firsts).toList:=hv
   rw[Array.toList_filterMap]at hv'
   obtain⟨o,ho,eo⟩:=List.mem_filterMap.mp hv'
   obtain⟨_,_,k,v0,e,hr⟩:=hf o ho
   have e2:v0=v:=by
    have:o=some v:=eo
    rw[e]at this;exact Qj this
   subst e2
   exact⟨_,trivial,fun Q' q'=>ZlQ hr q'⟩
  ·split
   ·exact wpAny_pure (wpAny_pure (q _))
   ·exact wpAny_pure (wpAny_pure (q _))
theorem w_sort0{a:Addr}{vs:List Value}{n:Nat}{P:PySem.Fin→Shared→Prop}(ha:s.heap.get? a=some (seqObj "list" vs.toArray n))(h2:vs.length<2)
  (q:P (Fin.done (Flow.ret Value.none)) { s with heap:=sortedHeap s.heap a vs ((pairsOf vs).map fun x=>x.snd) }) :
  wpAny (model prog w) A (Builtin.«list.sort» { pos:=[.ref a] }) P E s:=by
 have hz:vs.toArray.size≤sizeLine:=by rw[Qx,sizeLine_eq];omega
 rw[list_sort_plain]
 refine wpAny_bind (Zba ha rfl ?_)
 show wpAny _ _ (updateSeq a (fun x=>#[]) >>= _) _ _ _
 refine wpAny_bind (wpAny_updateSeq ha rfl ?_ hz (by show 0≤_;omega))
 have e1:=get?_update_seq ha (fun _=>#[])
 refine wpAny_bind (seqEpoch_at e1 rfl ?_)
 refine wpAny_bind (wpAny_newTuple ?_ (by simpa using hz))
 refine wpAny_bind (wpAny_newList ?_ (by show 0≤_;omega))
 refine wpAny_holding ?_
 have hn2:vs.toArray.size<2:=by rw[Qx];omega
 have hps:(pairsOf vs).size=vs.length:=by unfold pairsOf;simp
 rw[if_pos hn2,if_pos hn2]
 have e2:(((s.heap.update a (Obj.mapSeq fun _=>#[])).push { cls:=.type "tuple",data:=.seq vs.toArray.toList.toArray }).push { cls:=.type "list",data:=.seq ([]:List Value).toArray }).get? a=some (seqObj "list" #[] _):=Qc _ (Qc _ e1)
 refine wpAny_bind (wpAny_pure ?_)
 show wpAny _ _ (pure ((),SortSt.mk' general' (vs.toArray.zip vs.toArray) #[] 7 none) >>= _) _ _ _
 refine wpAny_bind (wpAny_pure ?_)
 refine wpAny_bind (seqEpoch_at e2 rfl ?_)
 have hsz:((pairsOf vs).map fun x=>x.snd).size=vs.length:=by rw[Array.size_map,hps]
 show wpAny _ _ (updateSeq a (fun x=>(pairsOf vs).map fun x=>x.snd) >>= _) _ _ _
 refine wpAny_bind (wpAny_updateSeq e2 rfl ?_ (by show 0≤_;omega) (by show ((pairsOf vs).map fun x=>x.snd).size≤_;rw[hsz];rw[Qx]at hz;omega))
 show wpAny _ _ (if _ then _ else _) _ _ _
 rw[if_neg (by simp)]
 exact wpAny_pure q
theorem w_sorted0{l:Addr}{vs:List Value}{Q:Value→Shared→Prop}(hl:s.heap.IsList l vs.toArray)(h2:vs.length<2)
  (q:Q (.ref (s.heap.objs.size+1)) { s with heap:=sortedAll s.heap vs ((pairsOf vs).map fun x=>x.snd) }) :
  wpAny (model prog w) A (call (.builtin "sorted") [.ref l]) Q E s:=by
 refine Calls.call_function_entry kind_sorted plain_sorted entry_sorted (args_sorted1 (.ref l)) ?_
 have hz:vs.length≤sizeLine:=by rw[sizeLine_eq];omega
 refine wpAny_bind (wpAny_pure (wpAny_bind (collect_list hl (wpAny_bind (wpAny_newList ?_ hz)) hz)))
 have hsz:((s.heap.push (seqObj "list" #[] 0)).update s.heap.objs.size (Obj.mapSeq fun x=>x++vs.toArray)).objs.size=s.heap.objs.size+1:=by rw[Heap.size_update,size_push']
 have hoL:((((s.heap.push (seqObj "list" #[] 0)).update s.heap.objs.size (Obj.mapSeq fun x=>x++vs.toArray)).push (seqObj "list" vs.toArray 0)).get? (s.heap.objs.size+1))=some (seqObj "list" vs.toArray 0):=by
  rw[← hsz];exact Qz _ rfl
 show wpAny _ _ (holding [.ref ((s.heap.push (seqObj "list" #[] 0)).update s.heap.objs.size (Obj.mapSeq fun x=>x++vs.toArray)).objs.size] (call (.builtin "list.sort") [.ref ((s.heap.push (seqObj "list" #[] 0)).update s.heap.objs.size (Obj.mapSeq fun x=>x++vs.toArray)).objs.size]) >>= fun _=>ret (.ref ((s.heap.push (seqObj "list" #[] 0)).update s.heap.objs.size (Obj.mapSeq fun x=>x++vs.toArray)).objs.size)) _ _ _
 rw[hsz]
 refine wpAny_bind (wpAny_holding (wpAny_call_entry slot_list_sort ⟨_,hoL,rfl⟩ entry_list_sort ?_ (args_list_sort _)))
 exact w_sort0 hoL h2 ⟨_,rfl,wpAny_pure ⟨_,rfl,q⟩⟩
end
theorem ZhD{α β:Type}(f:α→β){l m:List β}(h:l.Perm m):∀ts:List α,m=ts.map f→∃ts':List α,ts'.Perm ts∧l=ts'.map f:=by
 induction h with
 | nil =>
  intro ts e
  have:ts=[]:=by cases ts with
   | nil=>rfl
   | cons _ _=>cases e
  subst this
  exact⟨[],.nil,rfl⟩
 | cons x _ ih =>
  intro ts e
  cases ts with
  | nil=>cases e
  | cons a r =>
   rw[Qi]at e
   injection e with e1 e2
   obtain⟨ts',p,e3⟩:=ih r e2
   exact⟨a::ts',p.cons a,by rw[Qi,e1,e3]⟩
 | swap x y l =>
  intro ts e
  cases ts with
  | nil=>cases e
  | cons a r =>
   cases r with
   | nil=>cases e
   | cons b r =>
    rw[Qi,Qi]at e
    injection e with e1 e2
    injection e2 with e2 e3
    exact⟨b::a::r,.swap a b r,by rw[Qi,Qi,e1,e2,e3]⟩
 | trans _ _ ih1 ih2 =>
  intro ts e
  obtain⟨ts2,p2,e2⟩:=ih2 ts e
  obtain⟨ts1,p1,e1⟩:=ih1 ts2 e2
  exact⟨ts1,p1.trans p2,e1⟩
theorem Zic{α:Type}:∀l:List α,l.zip l=l.map fun v=>(v,v)
 | []=>rfl
 | a::r=>by rw[Qak,Zic r];rfl
abbrev Zh2:=List (Addr×List Key)
def Zfm(ts:Zh2):List V:=ts.map fun t=>V.ref t.1
def AtT(H:Hp)(ts:Zh2):Prop:=∀t∈ts,H t.1=some (.tup (t.2.map kV))
theorem Zgp:∀ {ts:Zh2} {us:List Value},Zy (Zfm ts) us→us=ts.map fun t=>Value.ref t.1
 | [],_,h=>by cases h;rfl
 | t::r,_,h=>by
  cases h with
  | cons a b=>rw[Zgp b];cases a;rfl
theorem Zgd:∀ts:Zh2,Zy (Zfm ts) (ts.map fun t=>Value.ref t.1)
 | []=>.nil
 | t::r=>.cons rfl (Zgd r)
section
open PySem.SeqAt
open PySem.AutoSeq1 (wpAny_loadPart')
open PySem.MeetsSeq PySem.MeetsSeq2 PySem.MeetsSeq3
end
section
variable {prog:Program} {w:World} {A:Around} {E:Value→Shared→Prop} {s:Shared}
end
section
variable {prog:Program} {w:World}
end
section
variable {X:Cx}
end
section
variable {X:Cx}
end
section
open PySem.SeqAt
open PySem.AutoSeq1 (wpAny_loadPart')
open PySem.MeetsSeq PySem.MeetsSeq2 PySem.MeetsSeq3
end
section
variable {prog:Program} {w:World} {A:Around} {E:Value→Shared→Prop} {s:Shared}
end
section
variable {X:Cx}
end
section
variable {X:Cx}
end
section
variable {X:Cx} {T name id:String} {r:V→List V→Hp→VK→Prop} {o e:Expr} {es:List Expr} {to:TE} {t:TA} {apos cpos:Pos}
end
section
variable {X:Cx}
def ZnK(K:PySem.W.Frag):List V→Hp→VK→Prop:=fun vs H Q=>∃ (p:Addr) (ns:List Int),vs=[.ref p]∧SqL K H p (ns.map V.int)∧ns.length≤1000∧(∀n∈ns,0≤n∧n≤10000000000000)∧Q (.int ns.sum) H
theorem Zj0(hc:X.calm=true):Zaz X (.builtin "sum") (ZnK X.K):=by
 intro pins s σ H vs us Q I r h
 obtain⟨p,ns,rfl,hq,hn,hb,q⟩:=h
 obtain⟨u,rfl,rx⟩:=ZcB r
 cases rx
 obtain⟨its,rv,pl,_⟩:=I.list hq
 have hi:=ZiB rv
 obtain⟨xs,e⟩:=hi.allInts.items
 have hns:ns=xs.toList.map (·.1):=by rw[← hi.numsOf,← nums_intItems,← e]
 have hsz:xs.size=ns.length:=by rw[hns,Qa,QE]
 have hnum:numAt xs=fun j=>ns.getD j 0:=by funext j;rw[numAt_eq,hns]
 have hl:=pl.isList
 rw[e]at hl
 have bound:∀n,n≤ns.length→0≤(ns.take n).sum∧(ns.take n).sum≤10000000000000*n:=by
  intro n
  induction n with
  | zero=>intro _;exact⟨by simp,by simp⟩
  | succ n ih =>
   intro h
   have ih:=ih (by omega)
   have hm:=hb ns[n] (QV (by omega))
   have e2:ns.take (n+1)=ns.take n++[ns[n]]:=by rw[QM,Qb (by omega)];rfl
   rw[e2,Qaw]
   have e3:([ns[n]]:List Int).sum=ns[n]:=by simp
   rw[e3]
   omega
 refine sum_intList (I.ok.hd hc) hl (fun j hj=>?_) fun h' tk t' hk=>⟨.int _,H,I.kept hk,⟨t',rfl⟩,?_⟩
 ·rw[hnum]
  have hm:=hb ns[j] (QV (by omega))
  have hg:ns.getD j 0=ns[j]:=by rw[QF,Qb (by omega)];rfl
  have hp:=bound (j+1) (by omega)
  refine⟨⟨?_,?_⟩,⟨?_,?_⟩⟩
  ·show -(2 ^ 63)≤ns.getD j 0
   rw[hg];omega
  ·show ns.getD j 0<2 ^ 63
   rw[hg];omega
  ·rw[ZdT ns (j+1) (by omega)];omega
  ·rw[ZdT ns (j+1) (by omega)];omega
 ·rw[hnum,hsz,ZdT ns ns.length (Qg _),Qu (Qg _)]
  exact q
theorem ZmJ(K:PySem.W.Frag)(hc:X.calm=true:=by rfl)(h:X.K=K:=by rfl):Zaz X (.builtin "sum") (ZnK K):=by subst h;exact Zj0 hc
end
section
variable {X:Cx}
end
section
variable {prog:Program} {w:World} {A:Around} {E:Value→Shared→Prop} {s:Shared}
end
theorem ZfR(elt t1 i1 t2 i2:Expr)(scope:Scope)(pos:Pos)(it acc:Value)(env:Env) :
  compTurn (.ListComp elt [⟨t1,i1,[],0⟩,⟨t2,i2,[],0⟩] scope pos) 0 it acc env=(do
   standAt i1.pos
   match ← pyNext it with
   | none=>pure (.done .next)
   | some v =>
    letOwnedTupleGo t1 it v
    assign t1 env v
    let x ← eval i2 env
    standAt i2.pos
    let x ← foldedSetIterable i2 env x
    let _ ← runOwn (.compStart (.ListComp elt [⟨t1,i1,[],0⟩,⟨t2,i2,[],0⟩] scope pos) 1 (← holding [x] (pyIter x)) acc env) env
    again (.compLoop (.ListComp elt [⟨t1,i1,[],0⟩,⟨t2,i2,[],0⟩] scope pos) 0 it acc env)):=by rfl
theorem ZfT(elt t1 i1 t2 i2:Expr)(scope:Scope)(pos:Pos)(it acc:Value)(env:Env) :
  compTurn (.ListComp elt [⟨t1,i1,[],0⟩,⟨t2,i2,[],0⟩] scope pos) 1 it acc env=(do
   standAt i2.pos
   match ← pyNext it with
   | none=>pure (.done .next)
   | some v =>
    letOwnedTupleGo t2 it v
    assign t2 env v
    (do let _ ← call (.builtin "list.append") [acc,← eval elt env])
    again (.compLoop (.ListComp elt [⟨t1,i1,[],0⟩,⟨t2,i2,[],0⟩] scope pos) 1 it acc env)):=by rfl
section
variable {prog:Program} {w:World} {A:Around} {R:Result→Shared→Prop} {s:Shared}
theorem Zht{elt t1 i1 t2 i2:Expr}{scope:Scope}{pos:Pos}{it acc:Value}{env:Env}{E:Value→Shared→Prop}(I:Nat→Shared→Prop)
  (hE:∀e s',E e s'→False)
  (turn:∀n s,I n s→wpAny (model prog w) A (pyNext it) (fun r s₁=>match r with
   | none=>R (.ok .next) s₁
   | some v=>wpAny (model prog w) A (letOwnedTupleGo t2 it v) (fun _ s₀=>wpAny (model prog w) A (assign t2 env v) (fun _ s₂ =>
     wpAny (model prog w) A (eval elt env) (fun x s₄ =>
       wpAny (model prog w) A (call (.builtin "list.append") [acc,x]) (fun _ s₅=>∃m,m<n∧I m s₅) E s₄) E s₂) E s₀) E s₁) E s)
  (n:Nat) (h:I n s):codeAny (model prog w) A (.compLoop (.ListComp elt [⟨t1,i1,[],0⟩,⟨t2,i2,[],0⟩] scope pos) 1 it acc env) R s:=by
 have go:∀ {α:Type} {t:Sem α} {Q:α→Shared→Prop} {s:Shared},wpAny (model prog w) A t Q E s→wpAny (model prog w) A t Q (notedBy (model prog w) A env fun e s'=>R (.error e) s') s :=
  fun {α t Q s} q=>wpAny_mono q (fun _ _ z=>z) fun e s' z=>(hE e s' z).elim
 refine codeAny_loop rfl I (fun n s hI=>?_) n h
 show wpAny _ A ((compTurn (.ListComp elt [⟨t1,i1,[],0⟩,⟨t2,i2,[],0⟩] scope pos) 1 it acc env).onRaise (fun x=>do noteFrame x env;theTreesLotGoes x)) _ _ s
 refine wpAny_noted ?_
 rw[ZfT]
 refine wpAny_bind (wpAny_standAt (wpAny_bind (thn (go (turn n s hI)) fun r s₁ h₁=>?_)))
 cases r with
 | none=>exact wpAny_pure h₁
 | some v =>
  refine wpAny_bind (thn (go h₁) fun _ s₀ h₀=>wpAny_bind (thn (go h₀) fun _ s₂ h₂=>?_))
  exact wpAny_bind (wpAny_bind (thn (go h₂) fun x s₄ h₄=>wpAny_bind (thn (go h₄) fun _ s₅ h₅=>wpAny_pure (wpAny_pure ⟨rfl,h₅⟩))))
theorem ZgS{elt t1 i1 t2 i2:Expr}{scope:Scope}{pos:Pos}{it acc:Value}{env:Env}{E:Value→Shared→Prop}(I:Nat→Shared→Prop)
  (hE:∀e s',E e s'→False) (hs:∀x,foldedSetIterable i2 env x=pure x)
  (turn:∀n s,I n s→wpAny (model prog w) A (pyNext it) (fun r s₁=>match r with
   | none=>R (.ok .next) s₁
   | some v=>wpAny (model prog w) A (letOwnedTupleGo t1 it v) (fun _ s₀=>wpAny (model prog w) A (assign t1 env v) (fun _ s₂ =>
     wpAny (model prog w) A (eval i2 env) (fun x s₃=>wpAny (model prog w) A (pyIter x) (fun it2 s₄ =>
       ∀R2:Result→Shared→Prop,(∀s₅,(∃m,m<n∧I m s₅)→R2 (.ok .next) s₅)→codeAny (model prog w) A (.compStart (.ListComp elt [⟨t1,i1,[],0⟩,⟨t2,i2,[],0⟩] scope pos) 1 it2 acc env) R2 s₄) E s₃) E s₂) E s₀) E s₁) E s)
  (n:Nat) (h:I n s):codeAny (model prog w) A (.compLoop (.ListComp elt [⟨t1,i1,[],0⟩,⟨t2,i2,[],0⟩] scope pos) 0 it acc env) R s:=by
 have go:∀ {α:Type} {t:Sem α} {Q:α→Shared→Prop} {s:Shared},wpAny (model prog w) A t Q E s→wpAny (model prog w) A t Q (notedBy (model prog w) A env fun e s'=>R (.error e) s') s :=
  fun {α t Q s} q=>wpAny_mono q (fun _ _ z=>z) fun e s' z=>(hE e s' z).elim
 refine codeAny_loop rfl I (fun n s hI=>?_) n h
 show wpAny _ A ((compTurn (.ListComp elt [⟨t1,i1,[],0⟩,⟨t2,i2,[],0⟩] scope pos) 0 it acc env).onRaise (fun x=>do noteFrame x env;theTreesLotGoes x)) _ _ s
 refine wpAny_noted ?_
 rw[ZfR]
 refine wpAny_bind (wpAny_standAt (wpAny_bind (thn (go (turn n s hI)) fun r s₁ h₁=>?_)))
 cases r with
 | none=>exact wpAny_pure h₁
 | some v =>
  refine wpAny_bind (thn (go h₁) fun _ s₀ h₀=>wpAny_bind (thn (go h₀) fun _ s₂ h₂=>wpAny_bind (thn (go h₂) fun x s₃ h₃=>?_)))
  refine wpAny_bind (wpAny_standAt (wpAny_bind (wpAny_of_eq (hs x) (wpAny_bind (wpAny_holding (thn (go h₃) fun it2 s₄ h₄=>?_))))))
  refine wpAny_bind (wpAny_runOwn (h:=none) ?_)
  exact h₄ _ fun s₅ h₅=>wpAny_pure ⟨rfl,h₅⟩
theorem Zg8{elt t1 i1 t2 i2:Expr}{scope:Scope}{pos:Pos}{it acc:Value}{env:Env}
  (h0:codeAny (model prog w) A (.compLoop (.ListComp elt [⟨t1,i1,[],0⟩,⟨t2,i2,[],0⟩] scope pos) 1 it acc env) R s)
  (h:wpAny (model prog w) A (pyIter it) (fun it' s'=>codeAny (model prog w) A (.compLoop (.ListComp elt [⟨t1,i1,[],0⟩,⟨t2,i2,[],0⟩] scope pos) 1 it' acc env) R s')
   (notedBy (model prog w) A env fun x s'=>R (.error x) s') s) :
  codeAny (model prog w) A (.compStart (.ListComp elt [⟨t1,i1,[],0⟩,⟨t2,i2,[],0⟩] scope pos) 1 it acc env) R s:=by
 refine codeAny_of_tree ?_
 show wpAny _ _ ((compStart (.ListComp elt [⟨t1,i1,[],0⟩,⟨t2,i2,[],0⟩] scope pos) 1 it acc env).onRaise (fun x=>do noteFrame x env;standAt theWindowsPlace)) _ _ s
 refine wpAny_notedAt ?_
 unfold compStart
 show wpAny _ _ (ask >>= _) _ _ s
 refine wpAny_bind (wpAny_askSetting (wpAny_ite ?_))
 split
 ·first
   | exact wpAny_bind (wpAny_pure (wpAny_pure (And.intro rfl h0)))
   | exact wpAny_pure (And.intro rfl h0)
 ·first
   | exact wpAny_bind (wpAny_rule (wpAny_bind (wpAny_standAt (wpAny_bind (wpAny_mono h (fun it' s' h'=>wpAny_pure (And.intro rfl h')) fun _ _ x=>x)))))
   | (refine wpAny_bind (wpAny_rule ?_);show wpAny _ _ (standAt i2.pos >>= _) _ _ s;exact wpAny_bind (wpAny_standAt (wpAny_bind (wpAny_mono h (fun it' s' h'=>wpAny_pure (And.intro rfl h')) fun _ _ x=>x))))
end
def ZgU(J:It)(D:Addr)(ys:List V)(σ:St)(H:Hp)(g:TG)(te:TE)(N:List V→St→Hp→Prop):Prop :=
 ∃W:Nat→Nat→List V→St→Hp→Prop,(∃m,W 0 m ys σ H) ∧
  ∀i m ys σ2 H2,W i m ys σ2 H2→(J.stop i H2∧N ys σ2 H2) ∨
   (J.go i H2∧∃N2:List V→St→Hp→Prop,(∀ys' σ' H',N2 ys' σ' H'→∃m',m'<m∧W (i+1) m' ys' σ' H')∧∀x H3,J.yld i H2 x H3→g x σ2 H3 fun σ4 H4 =>
    te σ4 H4 fun y H6=>H6 D=some (.lst ys)∧ys.length<sizeLine∧N2 (ys++[y]) σ4 (upd H6 D (.lst (ys++[y]))))
def Zjb(J:It)(D:Addr)(k:Nat)(σ:St)(H1:Hp)(g:TG)(wi2:TI)(g2:TG)(te:TE)(Q:VK):Prop :=
 ∃W:Nat→Nat→List V→St→Hp→Prop,(∃m,W 0 m [] (σ++List.replicate k none) (upd H1 D (.lst []))) ∧
  ∀i m ys σ2 H2,W i m ys σ2 H2→(J.stop i H2∧Q (.ref D) H2) ∨
   (J.go i H2∧∃N:List V→St→Hp→Prop,(∀ys' σ' H',N ys' σ' H'→∃m',m'<m∧W (i+1) m' ys' σ' H')∧∀x H3,J.yld i H2 x H3→g x σ2 H3 fun σ4 H4=>wi2 σ4 H4 fun J2 H5=>ZgU J2 D ys σ4 H5 g2 te N)
def Zl4(n:Nat)(wi:TI)(g:TG)(wi2:TI)(g2:TG)(te:TE):TE:=fun σ H Q=>wi σ H fun J H1=>∀D,H1 D=none→Zjb J D n σ H1 g wi2 g2 te Q
section
variable {X:Cx} {N N':List Str} {o c:Scope}
theorem Zj8{elt tg iter tg2 iter2:Expr}{pos pos':Pos}{wi wi2:TI}{g g2:TG}{te:TE}{use:Option (Value→Sem Unit)}{QQ:Value→Shared→Prop}(S:ZX N N' o c)(hN:X.N=N)(ho:X.env.scope=o)(hc:X.calm=true)
  (hi:PI X tg iter wi) (hg:∀C s H fp,PG (ZU X c N' C s H fp) tg g) (hi2:∀C s H fp,PI (ZU X c N' C s H fp) tg2 iter2 wi2) (hg2:∀C s H fp,PG (ZU X c N' C s H fp) tg2 g2) (he:∀C s H fp,PE (ZU X c N' C s H fp) elt te)
  (hs:∀x,foldedSetIterable iter X.env x=pure x) (hs2:∀C s H fp x,foldedSetIterable iter2 (ZU X c N' C s H fp).env x=pure x) {pins:List (Addr×Obj)} {s:Shared} {σ:St} {H:Hp} {Q:VK} (I:Inv X pins σ H s) (h:Zl4 (N'.length-N.length) wi g wi2 g2 te σ H Q)
  (post:∀ (D C:Addr) (s5:Shared) (H5:Hp) (m:Str→Option Value),Inv X pins σ H5 s5→H5 C=none→s5.heap.Ns C m→C≠X.env.locals→X.s₀.heap.objs.size≤C→(∀x a,X.env.cells.lookup x=some a→a≠C)→(∀p∈X.pn++pins,p.1≠C) →
   Q (.ref D) H5→compPost (model X.prog X.w) X.A X.xe use QQ (.ref D) C (.ok .next) s5) :
  wpAny (model X.prog X.w) X.A (comprehension (.ListComp elt [⟨tg,iter,[],0⟩,⟨tg2,iter2,[],0⟩] c pos) c X.env pos' (newList []) false (eval iter X.env) use) QQ X.xe s:=by
 have hclos:closureFor c X.env=pure (Zak X.env.cells c.names []):=Zdr fun y hy hf=>by
  refine I.ok.has y.1 ?_
  show X.env.scope.names.lookup y.1=_∨X.env.scope.names.lookup y.1=_
  rw[ho];exact(S.free y hy hf).2
 refine wpAny_comprehension_free (use:=use) rfl hs hclos S.kind S.loc (thn (hi pins s σ H _ I h) fun v s1 h1=>thn h1 fun itv s2 h2=>?_)
 obtain⟨it,fp,tn,J,H2,e,I2,T,st2,f2,hR⟩:=h2
 subst e
 have hD:H2 s2.heap.objs.size=none:=I2.fresh
 have I3:Inv X pins σ (upd H2 s2.heap.objs.size (.lst [])) { s2 with heap:=s2.heap.push { cls:=.type "list",data:=.seq ([]:List Value).toArray } } :=
  I2.lnew (ys:=[]) (its:=[]) (t':=s2.toks) .nil (Qp _)
 have fpl:∀b∈fp,b<s2.heap.objs.size:=fun b hb=>by
  obtain⟨ob,e,_⟩:=T.obj 0 _ st2 b hb
  exact Qo e
 refine wpAny_newObj_type (wpAny_newFunctionEnv S.nocell (by intro y hy;simp at hy) (fun h₁ hns₁ hsb₁=>?_) S.kind)
 have e3:∃s3:Shared,s3={ s2 with heap:=s2.heap.push { cls:=.type "list",data:=.seq ([]:List Value).toArray } }:=⟨_,rfl⟩
 obtain⟨s3,hs3⟩:=e3
 have e3:s3.heap=s2.heap.push { cls:=.type "list",data:=.seq ([]:List Value).toArray }:=by rw[hs3]
 have sz3:s3.heap.objs.size=s2.heap.objs.size+1:=by rw[e3,Qaa]
 have fpl3:∀b∈fp,b<s3.heap.objs.size:=fun b hb=>QA (fpl b hb) (by rw[sz3];exact Qaj _)
 have f3:∀b∈fp,Zdv X pins (upd H2 s2.heap.objs.size (.lst [])) b:=fun b hb=>⟨by rw[Zc (QB (fpl b hb))];exact(f2 b hb).1,(f2 b hb).2⟩
 have st3:tn 0 s3.heap:=T.keep 0 _ _ st2 fun b _ ob e=>by rw[e3];exact Qc _ e
 rw[← hs3]at I3
 show codeAny (model X.prog X.w) X.A (.compStart _ 0 (.ref it) (.ref s2.heap.objs.size) (compEnvC c (Zak X.env.cells c.names []) (s2.heap.push { cls:=.type "list",data:=.seq ([]:List Value).toArray }).objs.size X.env))
  (compPost (model X.prog X.w) X.A X.xe use QQ (.ref s2.heap.objs.size) (s2.heap.push { cls:=.type "list",data:=.seq ([]:List Value).toArray }).objs.size)
  { s2 with heap:=h₁,toks:=s2.toks+([]:List (Str×Value)).length }
 have hns:h₁.Ns s3.heap.objs.size (fun x=>([]:List (Str×Value)).reverse.lookup x):=by rw[e3];exact hns₁
 have hk1:∀b ob,s3.heap.get? b=some ob→h₁.get? b=some ob:=fun b ob e=>by
  rw[e3]at e
  exact hsb₁.extBut b ob (QB (Qo e)) (Qc _ e)
 rw[← e3]
 have es4:({ s2 with heap:=h₁,toks:=s2.toks+([]:List (Str×Value)).length }:Shared)={ s3 with heap:=h₁,toks:=s2.toks }:=by rw[hs3];rfl
 rw[es4]
 obtain⟨W,⟨m0,w0⟩,turn⟩:=hR s2.heap.objs.size hD
 have I4:=Zh0 (tk:=s2.toks) S hN ho I3 f3 fpl3 hns hk1
 have st4:tn 0 h₁:=T.keep 0 _ _ st3 fun b _ ob e=>hk1 b ob e
 generalize hX:ZU X c N' s3.heap.objs.size s3 (upd H2 s2.heap.objs.size (.lst [])) fp=Y at I4
 have Yp:Y.prog=X.prog:=by rw[← hX];rfl
 have Yw:Y.w=X.w:=by rw[← hX];rfl
 have YK:Y.K=X.K:=by rw[← hX];rfl
 have Yc:Y.calm=true:=by rw[← hX];exact hc
 have YA:Y.A=X.A:=by rw[← hX];rfl
 have Yenv:Y.env=compEnvC c (Zak X.env.cells c.names []) s3.heap.objs.size X.env:=by rw[← hX];rfl
 have Yl:Y.env.locals=s3.heap.objs.size:=by rw[Yenv];rfl
 have Yxe:Y.xe=fun _ _=>False:=by rw[← hX];rfl
 have hg':=hg s3.heap.objs.size s3 (upd H2 s2.heap.objs.size (.lst [])) fp
 have hi2':=hi2 s3.heap.objs.size s3 (upd H2 s2.heap.objs.size (.lst [])) fp
 have hg2':=hg2 s3.heap.objs.size s3 (upd H2 s2.heap.objs.size (.lst [])) fp
 have hs2':=hs2 s3.heap.objs.size s3 (upd H2 s2.heap.objs.size (.lst [])) fp
 have he':=he s3.heap.objs.size s3 (upd H2 s2.heap.objs.size (.lst [])) fp
 rw[hX]at hg' hi2' hg2' hs2' he'
 have stat:∀ {H':Hp},(∀b∈fp,H' b=none)→∀b∈fp,Zdv Y [] H' b:=fun {H'} hn b hb=>by
  obtain⟨_,q1,q2,q3,q4,_⟩:=f3 b hb
  have z1:=I4.ok.exf b (by rw[← hX];exact hb)
  refine⟨hn b hb,z1.1,I4.ok.exfs b (by rw[← hX];exact hb),.inl (by rw[← hX];exact hb),z1.2,fun p hp=>?_⟩
  have hp':p∈([]:List (Addr×Obj)):=by
   have:Y.pn=[]:=by rw[← hX];rfl
   rw[this]at hp;exact hp
  cases hp'
 have fin:∀ (s5:Shared) (σ5:St) (H5:Hp),Inv Y [] σ5 H5 s5→Q (.ref s2.heap.objs.size) H5→compPost (model X.prog X.w) X.A X.xe use QQ (.ref s2.heap.objs.size) s3.heap.objs.size (.ok .next) s5:=fun s5 σ5 H5 I5 q=>by
  obtain⟨m,hn,_⟩:=id I5.loc
  rw[Yl]at hn
  have hCn:H5 s3.heap.objs.size=none:=by have:=I5.free;rw[Yl]at this;exact this
  have un:Un (frs X.stack) fp (upd H2 s2.heap.objs.size (.lst [])) H5 s3.heap s5.heap:=by
   have:=I5.base
   rw[← hX]at this
   exact this
  have os5:s5.os=s3.os:=by have:=I5.os;rw[← hX]at this;exact this
  have hok5:HOk X.prog X.w H5 s5.heap:=by
   have:=I5.hok
   rw[Yp,Yw]at this
   exact this
  refine post _ _ s5 H5 m (I3.call' (s':=s5) (ch:=fp) os5 un hok5 I5.bare fun b hb=>?_) hCn hn (Q4 I3.lt) I3.sz (fun x a e=>?_) (fun p hp=>?_) q
  ·obtain⟨_,q1,_,q3,q4,q5⟩:=f3 b hb
   exact⟨q3,q1,q4,q5⟩
  ·obtain⟨v,ob,e',_⟩:=I3.cell x a e
   exact QB (Qo e')
  ·exact QB (Qo (I3.pin p hp).1)
 have loop:codeAny (model X.prog X.w) X.A (.compLoop (.ListComp elt [⟨tg,iter,[],0⟩,⟨tg2,iter2,[],0⟩] c pos) 0 (.ref it) (.ref s2.heap.objs.size) (compEnvC c (Zak X.env.cells c.names []) s3.heap.objs.size X.env))
   (compPost (model X.prog X.w) X.A X.xe use QQ (.ref s2.heap.objs.size) s3.heap.objs.size) { s3 with heap:=h₁,toks:=s2.toks }:=by
  rw[← Yenv,← YA]
  refine ZgS (E:=fun _ _=>False) (fun n s'=>∃i ys σ' H',Inv Y [] σ' H' s'∧tn i s'.heap∧(∀b∈fp,H' b=none)∧W i n ys σ' H') (fun _ _ z=>z) hs2' ?_ m0
   ⟨0,[],_,_,I4,st4,fun b hb=>(f3 b hb).1,?_⟩
  ·rintro n s5 ⟨i,ys,σ5,H5,I5,st5,fr5,w5⟩
   rcases turn i n ys σ5 H5 w5 with⟨stop,qn⟩|⟨go,Nn,hNn,step⟩
   ·refine thn (T.done Y Yp Yw YK Yc i [] s5 σ5 H5 _ I5 (stat fr5) st5 stop) ?_
    rintro r s6 ⟨hr,I6⟩
    subst hr
    have fq:=fin s6 σ5 H5 I6 qn
    rw[← YA]at fq
    exact fq
   ·refine thn (T.item Y Yp Yw YK Yc i [] s5 σ5 H5 _ I5 (stat fr5) st5 go) ?_
    rintro r s6 ⟨u,hr,h6⟩
    subst hr
    refine thn h6 ?_
    rintro _ s7 ⟨x,H7,I7,r7,y7,st7,fr7⟩
    have I7':=I7.pinned (stat fr7) (T.obj _ _ st7)
    have back:∀ {σ9:St} {H9:Hp} {s9:Shared},Inv Y ([]++ZbI fp s7.heap) σ9 H9 s9→Inv Y [] σ9 H9 s9∧tn (i+1) s9.heap∧∀b∈fp,H9 b=none:=fun {σ9 H9 s9} I9=>by
     refine⟨I9.unpinned,T.keep _ _ _ st7 fun b hb ob e=>(I9.pin (b,ob) (Qf _ (Qf _ (ZaO hb e)))).1,fun b hb=>?_⟩
     obtain⟨ob,e,d⟩:=T.obj _ _ st7 b hb
     exact(I9.pin (b,ob) (Qf _ (Qf _ (ZaO hb e)))).2.1
    have P1:=hg' _ s7 σ5 H7 x u _ I7' r7 (step x H7 y7)
    rw[Yp,Yw,Yxe]at P1
    refine thn P1 ?_
    rintro _ s8 ⟨σ8,H8,I8,q8⟩
    have P2:=hi2' _ s8 σ8 H8 _ I8 q8
    rw[Yp,Yw,Yxe]at P2
    refine thn P2 fun v2 s9 h9=>thn h9 fun itv2 s10 h10=>?_
    obtain⟨it2,fp2,tn2,J2,H10,e10,I10,T2,st10,f10,W2,⟨m2,w2⟩,turn2⟩:=h10
    subst e10
    intro R2 hR2
    rw[Yp,Yw,YK]at T2
    have stat2:∀ {H':Hp},(∀b∈fp2,H' b=none)→∀b∈fp2,Zdv Y ([]++ZbI fp s7.heap) H' b:=fun hn b hb=>⟨hn b hb,(f10 b hb).2⟩
    have loop2:codeAny (model X.prog X.w) Y.A (.compLoop (.ListComp elt [⟨tg,iter,[],0⟩,⟨tg2,iter2,[],0⟩] c pos) 1 (.ref it2) (.ref s2.heap.objs.size) Y.env) R2 s10:=by
     refine Zht (E:=fun _ _=>False) (fun n' s'=>∃i' ys' σ' H',Inv Y ([]++ZbI fp s7.heap) σ' H' s'∧tn2 i' s'.heap∧(∀b∈fp2,H' b=none)∧W2 i' n' ys' σ' H') (fun _ _ z=>z) ?_ m2
      ⟨0,ys,σ8,H10,I10,st10,fun b hb=>(f10 b hb).1,w2⟩
     rintro n' s11 ⟨i',ys',σ11,H11,I11,st11,fr11,w11⟩
     rcases turn2 i' n' ys' σ11 H11 w11 with⟨stop2,qn2⟩|⟨go2,Nn2,hNn2,step2⟩
     ·refine thn (T2.done Y Yp Yw YK Yc i' _ s11 σ11 H11 _ I11 (stat2 fr11) st11 stop2) ?_
      rintro r s12 ⟨hr,I12⟩
      subst hr
      obtain⟨b1,b2,b3⟩:=back I12
      obtain⟨m',hm',w12⟩:=hNn _ _ _ qn2
      exact hR2 s12 ⟨m',hm',i+1,ys',σ11,H11,b1,b2,b3,w12⟩
     ·refine thn (T2.item Y Yp Yw YK Yc i' _ s11 σ11 H11 _ I11 (stat2 fr11) st11 go2) ?_
      rintro r s12 ⟨u2,hr,h12⟩
      subst hr
      refine thn h12 ?_
      rintro _ s13 ⟨x2,H13,I13,r13,y13,st13,fr13⟩
      have I13':=I13.pinned (stat2 fr13) (T2.obj _ _ st13)
      have back2:∀ {σ9:St} {H9:Hp} {s9:Shared},Inv Y (([]++ZbI fp s7.heap)++ZbI fp2 s13.heap) σ9 H9 s9→Inv Y ([]++ZbI fp s7.heap) σ9 H9 s9∧tn2 (i'+1) s9.heap∧∀b∈fp2,H9 b=none:=fun {σ9 H9 s9} I9=>by
       refine⟨I9.unpinned,T2.keep _ _ _ st13 fun b hb ob e=>(I9.pin (b,ob) (Qf _ (Qf _ (ZaO hb e)))).1,fun b hb=>?_⟩
       obtain⟨ob,e,d⟩:=T2.obj _ _ st13 b hb
       exact(I9.pin (b,ob) (Qf _ (Qf _ (ZaO hb e)))).2.1
      have P5:=hg2' _ s13 σ11 H13 x2 u2 _ I13' r13 (step2 x2 H13 y13)
      rw[Yp,Yw,Yxe]at P5
      refine thn P5 ?_
      rintro _ s14 ⟨σ14,H14,I14,q14⟩
      have P3:=he' _ s14 σ14 H14 _ I14 q14
      rw[Yp,Yw,Yxe]at P3
      refine thn P3 ?_
      rintro y s15 ⟨vy,H15,I15,r15,hDl,hsz,q15⟩
      have P4:=Za4 (X:=Y) _ s15 σ14 H15 (.ref s2.heap.objs.size) [vy] (.ref s2.heap.objs.size) [y] (fun _ H'=>Nn2 (ys'++[vy]) σ14 H') I15 rfl (.cons r15 .nil) ⟨_,ys',vy,rfl,rfl,hDl,hsz,q15⟩
      rw[Yp,Yw,Yxe]at P4
      refine thn P4 ?_
      rintro _ s16 ⟨_,H16,I16,_,q16⟩
      obtain⟨b1,b2,b3⟩:=back2 I16
      obtain⟨m',hm',w16⟩:=hNn2 _ _ _ q16
      exact⟨m',hm',i'+1,ys'++[vy],σ14,H16,b1,b2,b3,w16⟩
    have lp2:=T2.self Y.A 0 s10 (fun it' s'=>codeAny (model X.prog X.w) Y.A (.compLoop (.ListComp elt [⟨tg,iter,[],0⟩,⟨tg2,iter2,[],0⟩] c pos) 1 it' (.ref s2.heap.objs.size) Y.env) R2 s') (fun _ _=>False) st10 loop2
    exact Zg8 loop2 (wpAny_mono lp2 (fun _ _ z=>z) fun _ _ z=>z.elim)
  ·exact w0
 have lp:=T.self X.A 0 { s3 with heap:=h₁,toks:=s2.toks } (fun it' s'=>codeAny (model X.prog X.w) X.A (.compLoop (.ListComp elt [⟨tg,iter,[],0⟩,⟨tg2,iter2,[],0⟩] c pos) 0 it' (.ref s2.heap.objs.size) (compEnvC c (Zak X.env.cells c.names []) s3.heap.objs.size X.env))
   (compPost (model X.prog X.w) X.A X.xe use QQ (.ref s2.heap.objs.size) s3.heap.objs.size) s') (fun _ _=>False) st4 loop
 exact codeAny_compStart_list loop (wpAny_mono lp (fun _ _ z=>z) fun _ _ z=>z.elim)
theorem Zl8{elt tg iter tg2 iter2:Expr}{pos:Pos}{wi wi2:TI}{g g2:TG}{te:TE}(S:ZX N N' o c)(hN:X.N=N)(ho:X.env.scope=o)(hc:X.calm=true)
  (hi:PI X tg iter wi) (hg:∀C s H fp,PG (ZU X c N' C s H fp) tg g) (hi2:∀C s H fp,PI (ZU X c N' C s H fp) tg2 iter2 wi2) (hg2:∀C s H fp,PG (ZU X c N' C s H fp) tg2 g2) (he:∀C s H fp,PE (ZU X c N' C s H fp) elt te)
  (hs:∀x,foldedSetIterable iter X.env x=pure x:=by intro _;rfl) (hs2:∀C s H fp x,foldedSetIterable iter2 (ZU X c N' C s H fp).env x=pure x:=by intro _ _ _ _ _;rfl) :
  PE X (.ListComp elt [⟨tg,iter,[],0⟩,⟨tg2,iter2,[],0⟩] c pos) (Zl4 (N'.length-N.length) wi g wi2 g2 te):=by
 intro pins s σ H Q I h
 rw[eval_ListComp]
 refine Zj8 (use:=none) S hN ho hc hi hg hi2 hg2 he hs hs2 I h fun D C s5 H5 m I5 hCn hn n1 n2 n3 n4 q=>⟨m,hn,fun h' hsb=>?_⟩
 exact⟨.ref D,H5,I5.let hCn n1 n2 n3 n4 hsb,rfl,q⟩
end
end L2
namespace Hf
open L2
abbrev PW:=List (Int×Nat)
def val(P:PW):Int:=(P.map fun p=>p.1*(p.2:Int)).sum
def ws(P:PW):List Int:=P.map (·.1)
def ds(P:PW):List Nat:=P.map (·.2)
def zs(z:Nat):List Int:=List.replicate z 0
def kr(w E:Nat)(D:List Nat):Nat:=(D.map fun d=>w ^ (E-d)).sum
inductive Hu (w:Nat):List Int→Nat→Int→Prop
 | stop {e:Int} {m:Nat}:Hu w [e] m 0
 | step {E L:List Int} {m:Nat} {C:Int}:1<L.length→E.Perm L→L.Pairwise (·≤·)→Hu w (L.drop m++[(L.take m).sum]) w C→Hu w E m (C+(L.take m).sum)
def Fit(w n m:Nat):Prop:=n=1∨∃t,n=m+t*(w-1)
structure Fits (w n m:Nat):Prop where
 w2:2≤w
 m2:2≤m
 mw:m≤w
 ok:Fit w n m
end Hf
namespace L2
open PySem PySem.Spec PyProof.Rows
section
variable {prog:Program} {w:World} {A:Around} {R:Result→Shared→Prop} {s:Shared}
end
section
variable {X:Cx} {N N':List Str} {o c:Scope}
end
section
variable {κ:Type} [DecidableEq κ]
def ZbX(kvs:List (κ×V))(k:κ):Option V:=(kvs.find? fun kv=>decide (kv.1=k)).map (·.2)
def Zdh(kvs:List (κ×V))(k:κ)(v:V):List (κ×V) :=
 if (kvs.any fun kv=>decide (kv.1=k))=true then kvs.map (fun kv=>if kv.1=k then (kv.1,v) else kv) else kvs++[(k,v)]
theorem ZcS{p:κ×V}{r:List (κ×V)}{k:κ}(e:p.1=k):ZbX (p::r) k=some p.2:=by simp[ZbX,List.find?_cons,e]
theorem Zc2{p:κ×V}{r:List (κ×V)}{k:κ}(e:¬ p.1=k):ZbX (p::r) k=ZbX r k:=by simp[ZbX,List.find?_cons,e]
theorem Zfh(k:κ):∀kvs:List (κ×V),(kvs.any fun kv=>decide (kv.1=k))=(ZbX kvs k).isSome
 | []=>rfl
 | p::r=>by
  rw[QaR]
  by_cases e:p.1=k
  ·simp only[ZcS e,decide_eq_true e,Bool.true_or,Option.isSome_some]
  ·rw[Zc2 e,decide_eq_false e,Bool.false_or];exact Zfh k r
theorem Zey(kvs:List (κ×V))(k:κ)(v:V):(Zdh kvs k v).length≤kvs.length+1:=by
 unfold Zdh
 split
 ·rw[Qa];omega
 ·rw[Qd,QC,List.length_nil];omega
theorem Zlp{kvs:List (κ×V)}{k:κ}(v:V)(h:ZbX kvs k=none):Zdh kvs k v=kvs++[(k,v)]:=by
 unfold Zdh
 rw[Zfh,h]
 exact if_neg (by decide)
theorem ZcI.isSome_eq{o:Option V}{u:Option Value}(r:ZcI o u):o.isSome=u.isSome:=by
 cases o with
 | none=>cases u with
  | none=>rfl
  | some _=>exact(show False from r).elim
 | some _=>cases u with
  | none=>exact(show False from r).elim
  | some _=>rfl
theorem ZcI.getD{o:Option V}{u:Option Value}{d:V}{d':Value}(r:ZcI o u)(rd:ZA d d'):ZA (o.getD d) (u.getD d'):=by
 cases o with
 | none=>cases u with
  | none=>exact rd
  | some _=>exact(show False from r).elim
 | some _=>cases u with
  | none=>exact(show False from r).elim
  | some _=>exact r
theorem KV.val{kvs:List (κ×V)}{vs:List (κ×Value)}(r:KV kvs vs)(k:κ):ZcI (ZbX kvs k) (valueAt vs k):=by
 unfold KV at r
 induction r with
 | nil=>exact True.intro
 | @cons p q ps qs h t ih =>
  obtain⟨h1,h2⟩:=h
  by_cases e:p.1=k
  ·have e':q.1=k:=h1.symm.trans e
   have b:valueAt (q::qs) k=some q.2:=by simp[valueAt,List.find?_cons,e']
   rw[ZcS e,b];exact h2
  ·have e':¬ q.1=k:=fun z=>e (h1.trans z)
   have b:valueAt (q::qs) k=valueAt qs k:=by simp[valueAt,List.find?_cons,e']
   rw[Zc2 e,b];exact ih
theorem KV.any{kvs:List (κ×V)}{vs:List (κ×Value)}(r:KV kvs vs)(k:κ):(kvs.any fun kv=>decide (kv.1=k))=vs.any fun kv=>decide (kv.1=k):=by
 unfold KV at r
 induction r with
 | nil=>rfl
 | cons h t ih=>rw[QaR,QaR,ih,h.1]
theorem KV.repl{kvs:List (κ×V)}{vs:List (κ×Value)}(r:KV kvs vs)(k:κ){y:V}{u:Value}(ry:ZA y u) :
  KV (kvs.map fun kv=>if kv.1=k then (kv.1,y) else kv) (vs.map fun kv=>if kv.1=k then (kv.1,u) else kv):=by
 unfold KV at r ⊢
 induction r with
 | nil=>exact .nil
 | @cons p q ps qs h t ih =>
  rw[Qi,Qi]
  refine .cons ?_ ih
  obtain⟨h1,h2⟩:=h
  by_cases e:p.1=k
  ·rw[if_pos e,if_pos (h1.symm.trans e)];exact⟨h1,ry⟩
  ·rw[if_neg e,if_neg (fun z=>e (h1.trans z))];exact⟨h1,h2⟩
theorem KV.put{kvs:List (κ×V)}{vs:List (κ×Value)}(r:KV kvs vs)(k:κ){y:V}{u:Value}(ry:ZA y u):KV (Zdh kvs k y) (stored vs k u):=by
 unfold Zdh stored
 rw[r.any k]
 by_cases e:(vs.any fun kv=>decide (kv.1=k))=true
 ·rw[if_pos e,if_pos e];exact r.repl k ry
 ·rw[if_neg e,if_neg e];exact Paired.snoc r ⟨rfl,ry⟩
theorem KV.length{kvs:List (κ×V)}{vs:List (κ×Value)}(r:KV kvs vs):kvs.length=vs.length:=Paired.length r
end
theorem ZiW{P:Program}{w:World}{k:Key}{u:Value}(r:ZA (kV k) u):(Z5 P w).is k u=true:=by
 cases k with
 | inl i=>obtain⟨t,e⟩:=(show ∃t,u=Value.int i t from r);subst e;exact Zia P w i t
 | inr x=>obtain⟨t,e⟩:=(show ∃t,u=Value.str x t from r);subst e;exact Zhr P w x t
theorem Zf3{P:Program}{w:World}:∀ {ks:List Key} {us:List Value},Zy (ks.map kV) us→ItemsAre (Z5 P w) ks us
 | [],_,r=>by rw[List.map_nil]at r;cases r;exact .nil
 | k::ks,_,r=>by
  rw[Qi]at r
  cases r with
  | cons h t=>exact .cons (ZiW h) (Zf3 t)
abbrev KT(H:Hp):List (List Key×V)→List (List Key×Addr×Value)→Prop:=Paired fun p q=>p.1=q.1∧H q.2.1=some (.tup (p.1.map kV))∧ZA p.2 q.2.2
theorem KT.val{H:Hp}{kvs:List (List Key×V)}{xs:List (List Key×Addr×Value)}(r:KT H kvs xs)(k:List Key):ZcI (ZbX kvs k) ((atKey xs k).map (·.2)):=by
 induction r with
 | nil=>exact True.intro
 | @cons p q ps qs h t ih =>
  obtain⟨h1,_,h2⟩:=h
  by_cases e:p.1=k
  ·have e':q.1=k:=h1.symm.trans e
   have b:atKey (q::qs) k=some q.2:=by simp[atKey,List.find?_cons,e']
   rw[ZcS e,b];exact h2
  ·have e':¬ q.1=k:=fun z=>e (h1.trans z)
   have b:atKey (q::qs) k=atKey qs k:=by simp[atKey,List.find?_cons,e']
   rw[Zc2 e,b];exact ih
theorem KT.repl{H:Hp}{kvs:List (List Key×V)}{xs:List (List Key×Addr×Value)}(r:KT H kvs xs)(k:List Key){y:V}{u:Value}(ry:ZA y u) :
  KT H (kvs.map fun kv=>if kv.1=k then (kv.1,y) else kv) (xs.map (putAt k u)):=by
 induction r with
 | nil=>exact .nil
 | @cons p q ps qs h t ih =>
  rw[Qi,Qi]
  refine .cons ?_ ih
  obtain⟨h1,h2,h3⟩:=h
  unfold putAt
  by_cases e:p.1=k
  ·rw[if_pos e,if_pos (h1.symm.trans e)];exact⟨h1,h2,ry⟩
  ·rw[if_neg e,if_neg (fun z=>e (h1.trans z))];exact⟨h1,h2,h3⟩
theorem KT.put{H:Hp}{kvs:List (List Key×V)}{xs:List (List Key×Addr×Value)}(r:KT H kvs xs)(k:List Key){b:Addr}{y:V}{u:Value}(hb:H b=some (.tup (k.map kV)))(ry:ZA y u) :
  KT H (Zdh kvs k y) (storedH xs k b u):=by
 have e:(kvs.any fun kv=>decide (kv.1=k))=(atKey xs k).isSome:=by
  rw[Zfh,(r.val k).isSome_eq,Option.isSome_map]
 unfold Zdh storedH
 rw[e]
 by_cases q:(atKey xs k).isSome=true
 ·rw[if_pos q,if_pos q];exact r.repl k ry
 ·rw[if_neg q,if_neg q];exact Paired.snoc r ⟨rfl,hb,ry⟩
theorem KT.keeps{H H':Hp}{kvs:List (List Key×V)}{xs:List (List Key×Addr×Value)}(r:KT H kvs xs)(ht:∀b ys,H b=some (.tup ys)→H' b=some (.tup ys)):KT H' kvs xs :=
 Paired.mapP r fun _ _ z=>⟨z.1,ht _ _ z.2.1,z.2.2⟩
section
variable {P:Program} {w:World} {H:Hp} {h:Heap} {a:Addr}
theorem ZnM{u:HO}(ok:HOk P w H h)(e:Rd H a u):Zaa P w H h a u:=e.ok ok
theorem Zgi{kvs:List (Key×V)}(ok:HOk P w H h)(e:Rd H a (.dK kvs)):kvs.length≤sizeLine∧(a == sysModules)=false∧∃vs,KV kvs vs∧h.DictOf (Z5 P w) a vs :=
 show Zaa P w H h a (.dK kvs) from ZnM ok e
theorem ZoV{kvs:List (Key×V)}(ok:HOk P w H h)(e:H a=some (.dK kvs)):kvs.length≤sizeLine∧(a == sysModules)=false∧∃vs,KV kvs vs∧h.DictOf (Z5 P w) a vs:=Zgi ok (.inl e)
theorem ZgX{ks:List Key}(ok:HOk P w H h)(e:H a=some (.tup (ks.map kV))):(tupleKind (Z5 P w)).is h ks a:=by
 obtain⟨_,its,r,o,h1,h2,n,h3⟩:=(show Zaa P w H h a (.tup (ks.map kV)) from ok a _ e)
 exact⟨o,its.toArray,n,h1,h2,h3,by simpa using Zf3 r⟩
theorem ZhM{kvs:List (List Key×V)}(ok:HOk P w H h)(e:Rd H a (.dT kvs)):kvs.length≤sizeLine∧(a == sysModules)=false ∧
  ∃xs,KT H kvs xs∧h.DictOfH (tupleKind (Z5 P w)) a xs:=by
 obtain⟨z,y,xs,r,o,es,ep,h1,h2,h3,h4,h5⟩:=(show Zaa P w H h a (.dT kvs) from ZnM ok e)
 refine⟨z,y,xs,r,o,es,ep,h1,h2,h3,h4,fun x hx=>?_,h5⟩
 have all:∀ {l:List (List Key×V)} {m:List (List Key×Addr×Value)},KT H l m→∀x∈m,(tupleKind (Z5 P w)).is h x.1 x.2.1:=by
  intro l m q
  induction q with
  | nil=>intro x hx;exact nomatch hx
  | @cons p q ps qs hq t ih =>
   intro x hx
   rcases QH.mp hx with e|hx
   ·subst e
    exact ZgX ok (by rw[← hq.1];exact hq.2.1)
   ·exact ih x hx
 exact all r x hx
theorem Zo7{kvs:List (List Key×V)}(ok:HOk P w H h)(e:H a=some (.dT kvs)):kvs.length≤sizeLine∧(a == sysModules)=false ∧
  ∃xs,KT H kvs xs∧h.DictOfH (tupleKind (Z5 P w)) a xs:=ZhM ok (.inl e)
end
def ZcJ(H:Hp)(a:Addr)(y:V)(r:Option V):Prop :=
 (∃kvs k,Rd H a (.dK kvs)∧y=kV k∧r=ZbX kvs k)∨∃kvs k b,Rd H a (.dT kvs)∧y=.ref b∧H b=some (.tup (k.map kV))∧r=ZbX kvs k
def ZeX(H:Hp)(a:Addr)(y v:V)(H':Hp):Prop :=
 (∃kvs k,H a=some (.dK kvs)∧y=kV k∧kvs.length<sizeLine∧H'=upd H a (.dK (Zdh kvs k v))) ∨
 ∃kvs k b,H a=some (.dT kvs)∧y=.ref b∧H b=some (.tup (k.map kV))∧kvs.length<sizeLine∧H'=upd H a (.dT (Zdh kvs k v))
theorem ZcJ.k{H:Hp}{a:Addr}{kvs:List (Key×V)}{k:Key}(e:H a=some (.dK kvs)):ZcJ H a (kV k) (ZbX kvs k):=.inl ⟨kvs,k,.inl e,rfl,rfl⟩
theorem ZcJ.t{H:Hp}{a b:Addr}{kvs:List (List Key×V)}{k:List Key}(e:H a=some (.dT kvs))(eb:H b=some (.tup (k.map kV))):ZcJ H a (.ref b) (ZbX kvs k):=.inr ⟨kvs,k,b,.inl e,rfl,eb,rfl⟩
theorem ZeX.k{H:Hp}{a:Addr}{kvs:List (Key×V)}{k:Key}{v:V}(e:H a=some (.dK kvs))(hl:kvs.length<sizeLine):ZeX H a (kV k) v (upd H a (.dK (Zdh kvs k v))):=.inl ⟨kvs,k,e,rfl,hl,rfl⟩
theorem ZeX.t{H:Hp}{a b:Addr}{kvs:List (List Key×V)}{k:List Key}{v:V}(e:H a=some (.dT kvs))(eb:H b=some (.tup (k.map kV)))(hl:kvs.length<sizeLine) :
  ZeX H a (.ref b) v (upd H a (.dT (Zdh kvs k v))):=.inr ⟨kvs,k,b,e,rfl,eb,hl,rfl⟩
section
variable {X:Cx} {pins:List (Addr×Obj)} {σ:St} {H:Hp} {s:Shared} {a:Addr} {y v:V} {u r:Value} {o:Option V} {A:Around} {E:Value→Shared→Prop}
theorem Inv.big(I:Inv X pins σ H s):sysModules<s.heap.objs.size:=by
 have h:mainGlobals<s.heap.objs.size:=(I.mod.glob.keeps I.bk).lt
 exact Nat.lt_trans (by decide) h
theorem ZjL{Q:Value→Shared→Prop}(hu:A.units+1<cLine)(I:Inv X pins σ H s)(g:ZcJ H a y (some v))(ry:ZA y u)(h:∀w' s',Inv X pins σ H s'→ZA v w'→Q w' s') :
  wpAny (model X.prog X.w) A (getItem (.ref a) u) Q E s:=by
 rcases g with⟨kvs,k,e,ey,l⟩|⟨kvs,k,b,e,ey,eb,l⟩
 ·subst ey
  obtain⟨z,hd,vs,rel,dd⟩:=Zgi I.hok e
  obtain⟨w',hw,rw'⟩:=ZcI.some_of (v:=v) (o:=valueAt vs k) (by rw[l];exact rel.val k)
  exact wpAny_getItem_of (ZiW ry) dd.mapOf hw (h w' _ (I.tok _) rw')
 ·subst ey
  cases (show u=Value.ref b from ry)
  obtain⟨z,hd,xs,rel,dd⟩:=ZhM I.hok e
  obtain⟨w',hw,rw'⟩:=ZcI.some_of (v:=v) (o:=(atKey xs k).map (·.2)) (by rw[l];exact rel.val k)
  obtain⟨p,hp,hp2⟩:=QaZ.mp hw
  refine wpAny_getItem_heap (tupleKind_room_in1 hu) (ZgX I.hok eb) dd hp ?_
  rw[hp2]
  exact h w' _ (I.tok _) rw'
theorem Zi1{h':Heap}{t':Nat}{ob:HO}(I:Inv X pins σ H s)(mu:Mut (H a))(hs:Heap.SameBut a s.heap h')(he:∃q,h'.get? a=some q)(new:Zaa X.prog X.w (upd H a ob) h' a ob) :
  Inv X pins σ (upd H a ob) { s with heap:=h',toks:=t' } :=
 I.write (x:=a) (e:=a) mu (.inl rfl) (fun b q hb z=>(hs.2 b hb).trans z) he new
theorem ZoF{P:Program}{w:World}{H':Hp}{h':Heap}{kvs:List (Key×V)}{vs:List (Key×Value)}(z:kvs.length≤sizeLine)(hd:(a == sysModules)=false)(rel:KV kvs vs)(dd:h'.DictOf (Z5 P w) a vs) :
  Zaa P w H' h' a (.dK kvs):=⟨z,hd,vs,rel,dd⟩
theorem ZjR{H':Hp}{Q:Unit→Shared→Prop}(hu:A.units+1<cLine)(I:Inv X pins σ H s)(g:ZeX H a y v H')(ry:ZA y u)(rv:ZA v r)(h:∀s',Inv X pins σ H' s'→Q () s') :
  wpAny (model X.prog X.w) A (setItem (.ref a) u r) Q E s:=by
 rcases g with⟨kvs,k,e,ey,l,eH⟩|⟨kvs,k,b,e,ey,eb,l,eH⟩
 ·subst ey eH
  obtain⟨z,hd,vs,rel,dd⟩:=ZoV I.hok e
  have hz:vs.length≤sizeLine:=by rw[← rel.length];exact z
  have hl:(Zdh kvs k v).length≤sizeLine:=by have:=Zey kvs k v;omega
  refine wpAny_setItem_pairs (hsz:=hz) (ZiW ry) dd fun h' dd' hs=>h _ ?_
  have he:∃q,h'.get? a=some q:=let ⟨q,_,_,hq,_⟩:=dd';⟨q,hq⟩
  exact Zi1 I (by rw[e];exact True.intro) hs he (ZoF hl hd (rel.put k rv) dd')
 ·subst ey eH
  cases (show u=Value.ref b from ry)
  obtain⟨z,hd,xs,rel,dd⟩:=Zo7 I.hok e
  have hz:xs.length≤sizeLine:=by rw[← Paired.length rel];exact z
  have hl:(Zdh kvs k v).length≤sizeLine:=by have:=Zey kvs k v;omega
  refine wpAny_setItem_heap (hsz:=hz) (tupleKind_room_in1 hu) (ZgX I.hok eb) dd fun h' dd' hs=>h _ ?_
  obtain⟨q,es,ep,hq,h2,h3,h4,_,h5⟩:=dd'
  refine Zi1 I (by rw[e];exact True.intro) hs ⟨q,hq⟩ ⟨hl,hd,_,(rel.put k eb rv).keeps fun c ys ec=>?_,q,es,ep,hq,h2,h3,h4,h5⟩
  rw[Zc (Zk2 ec e (fun z=>nomatch z))]
  exact ec
end
section
variable {X:Cx} {pins:List (Addr×Obj)} {σ:St} {H:Hp} {s:Shared} {a:Addr} {kvs:List (Key×V)} {k:Key} {u:Value} {A:Around} {E:Value→Shared→Prop}
theorem Zps{Q:Value→Shared→Prop}(I:Inv X pins σ H s)(e:Rd H a (.dK kvs))(h:∀t s',Inv X pins σ H s'→Q (.int kvs.length t) s'):wpAny (model X.prog X.w) A (call (.builtin "len") [.ref a]) Q E s:=by
 obtain⟨z,hd,vs,rel,dd⟩:=Zgi I.hok e
 refine call_len_dict hd dd (by rw[← rel.length];rw[sizeLine_eq]at z;omega) ?_
 rw[← rel.length]
 exact h _ _ (I.tok _)
end
theorem ZhW{X:Cx}{pins:List (Addr×Obj)}{σ:St}{H:Hp}{s:Shared}{a:Addr}{y:V}{o:Option V}(I:Inv X pins σ H s)(g:ZcJ H a y o):s.TypeIs (.ref a) "dict":=by
 rcases g with⟨kvs,k,e,_,_⟩|⟨kvs,k,b,e,_,_,_⟩
 ·obtain⟨_,_,vs,_,dd⟩:=Zgi I.hok e
  exact dd.typeIs
 ·obtain⟨_,_,xs,_,dd⟩:=ZhM I.hok e
  exact dd.typeIs
section
variable {X:Cx} {o i e value:Expr} {pos pos' tpos:Pos} {td ty tv:TE}
end
theorem Zle{P:Program}{w:World}{H:Hp}(h:Heap)(hb:sysModules<h.objs.size):Zaa P w H (h.push { cls:=.type "dict",data:=.dict #[] }) h.objs.size (.dK []) :=
 ⟨Qp _,beq_eq_false_iff_ne.mpr (Ne.symm (QB hb)),[],.nil,Heap.DictOf.new h⟩
def ZoM:TE:=fun _ H Q=>∀p,H p=none→Q (.ref p) (upd H p (.dK []))
section
variable {X:Cx} {pos:Pos}
theorem Zln:PE X (.Dict [] [] pos) ZoM:=fun pins s σ H Q I h =>
 wpAny_Dict_empty ⟨.ref s.heap.objs.size,_,I.laid (a:=s.heap.objs.size) (o:=.dK []) (t':=s.toks) (fun _ _ q=>Qc _ q) (Qg _) (Zle s.heap I.big),rfl,h _ (I.hok.fresh (Qg _))⟩
end
structure M1 (X:Cx) (o:Expr) (m:Str) (apos:Pos) (e:Expr) (cpos:Pos):Prop where
 base:attributeBase o m X.env (eval o X.env)=eval o X.env
 few:((backTo cpos (starEach [e] X.env)).all (fun x=>!x.1)&&(backToKw cpos (keywordEach [] X.env)).all (fun x=>x.1.isSome)
  && decide (([e]:List Expr).length+([]:List Keyword).length+(if ([]:List Keyword).isEmpty then 0 else 1)<30))=true
 line:(apos.endLine == cpos.line)=true
 trees:backTo cpos (starEach [e] X.env)=[(false,eval e X.env)]
structure M2 (X:Cx) (o:Expr) (m:Str) (apos:Pos) (e f:Expr) (cpos:Pos):Prop where
 base:attributeBase o m X.env (eval o X.env)=eval o X.env
 few:((backTo cpos (starEach [e,f] X.env)).all (fun x=>!x.1)&&(backToKw cpos (keywordEach [] X.env)).all (fun x=>x.1.isSome)
  && decide (([e,f]:List Expr).length+([]:List Keyword).length+(if ([]:List Keyword).isEmpty then 0 else 1)<30))=true
 line:(apos.endLine == cpos.line)=true
 trees:backTo cpos (starEach [e,f] X.env)=[(false,eval e X.env),(false,eval f X.env)]
def IsD(H:Hp)(a:Addr):Prop:=(∃kvs,Rd H a (.dK kvs))∨∃kvs,Rd H a (.dT kvs)
theorem ZoL{X:Cx}{pins:List (Addr×Obj)}{σ:St}{H:Hp}{s:Shared}{a:Addr}(I:Inv X pins σ H s)(d:IsD H a) :
  s.TypeIs (.ref a) "dict"∧(∀b,Value.ref a=.ref b→∃ob,s.heap.get? b=some ob∧ob.dict=none)∧(a == sysModules)=false:=by
 rcases d with⟨kvs,e⟩|⟨kvs,e⟩
 ·obtain⟨_,hd,vs,_,dd⟩:=Zgi I.hok e
  refine⟨dd.typeIs,fun b q=>?_,hd⟩
  cases q
  obtain⟨ob,_,_,h1,h2,_⟩:=dd
  exact⟨ob,h1,h2.2.1⟩
 ·obtain⟨_,hd,xs,_,dd⟩:=ZhM I.hok e
  refine⟨dd.typeIs,fun b q=>?_,hd⟩
  cases q
  obtain⟨ob,_,_,h1,h2,_⟩:=dd
  exact⟨ob,h1,h2.2.1⟩
section
variable {X:Cx} {pins:List (Addr×Obj)} {σ:St} {H:Hp} {s:Shared} {a:Addr} {y d:V} {u r:Value} {o:Option V} {A:Around} {E:Value→Shared→Prop}
theorem Zos{Q:Value→Shared→Prop}(hu:A.units+1<cLine)(I:Inv X pins σ H s)(g:ZcJ H a y o)(ry:ZA y u)(h:∀w' s',Inv X pins σ H s'→ZA (o.getD .non) w'→Q w' s') :
  wpAny (model X.prog X.w) A (call (.builtin "dict.get") [.ref a,u]) Q E s:=by
 rcases g with⟨kvs,k,e,ey,l⟩|⟨kvs,k,b,e,ey,eb,l⟩
 ·subst ey
  obtain⟨z,hd,vs,rel,dd⟩:=Zgi I.hok e
  refine call_meetsIn PySem.F.slot_dict_get dd.typeIs PySem.F.entry_dict_get (PySem.F.args_dict_get_2 _ _) (meets_dict_get (Z5 X.prog X.w) a (ZiW ry) hd) ⟨_,dd.mapOf,h _ _ (I.tok _) ?_⟩
  rw[l]
  exact(rel.val k).getD rfl
 ·subst ey
  cases (show u=Value.ref b from ry)
  obtain⟨z,hd,xs,rel,dd⟩:=ZhM I.hok e
  refine call_meetsIn PySem.F.slot_dict_get dd.typeIs PySem.F.entry_dict_get (PySem.F.args_dict_get_2 _ _) (meetsH_dict_get (tupleKind (Z5 X.prog X.w)) a b hd) ⟨tupleKind_room_in1 hu,k,xs,ZgX I.hok eb,dd,h _ _ (I.tok _) ?_⟩
  rw[l]
  exact(rel.val k).getD rfl
end
def Zlm(td ty:TE):TE:=fun σ H Q=>td σ H fun x H1=>∃a,x=.ref a∧IsD H1 a∧ty σ H1 fun y H2=>∃o,ZcJ H2 a y o∧Q (o.getD .non) H2
section
variable {X:Cx} {o e f:Expr} {apos cpos:Pos} {td ty tx:TE}
theorem Zl7(hu:X.A.units+1<cLine)(ho:PE X o td)(he:PE X e ty)(m:M1 X o "get" apos e cpos):PE X (.Call (.Attribute o "get" apos) [e] [] cpos) (Zlm td ty):=by
 intro pins s σ H Q I h
 refine wpAny_Call_method m.base m.few m.line PySem.F.plainAttrs_dict PySem.F.slot_dict_get PySem.F.type_dict_get (thn (ho pins s σ H _ I h) ?_)
 rintro u s1 ⟨x,H1,I1,rx,a,ex,d,q1⟩
 subst ex
 obtain rfl:u=Value.ref a:=rx
 obtain⟨t1,t2,_⟩:=ZoL I1 d
 refine⟨t1,t2,?_⟩
 rw[m.trees]
 refine Calls.callWith_builtin rfl (Calls.evalArgs_plain (Calls.spliced_cons (thn (he pins s1 σ H1 _ I1 q1) fun iv s2 ⟨y,H2,I2,ry,ov,g,q2⟩=>Calls.spliced_nil ?_)))
 exact Zos hu I2 g ry fun w' s3 I3 rw'=>⟨_,H2,I3,rw',q2⟩
end
section
variable {X:Cx} {pins:List (Addr×Obj)} {σ:St} {H:Hp} {s:Shared} {a:Addr} {kvs:List (Key×V)} {A:Around} {E:Value→Shared→Prop}
end
section
variable {X:Cx} {pins:List (Addr×Obj)} {σ:St} {H:Hp} {s:Shared} {a:Addr} {y:V} {u:Value} {A:Around} {E:Value→Shared→Prop}
end
section
variable {X:Cx}
theorem Zkl:Zaz X (.builtin "len") (fun xs H Q=>∃a kvs,xs=[V.ref a]∧H a=some (.dK kvs)∧Q (.int kvs.length) H):=by
 intro pins s σ H xs us Q I r h
 obtain⟨a,kvs,rfl,ha,q⟩:=h
 obtain⟨u,rfl,ru⟩:=ZcB r
 cases ru
 exact Zps I (.inl ha) fun t s' I'=>⟨.int kvs.length,H,I',⟨t,rfl⟩,q⟩
end
section
variable {κ:Type} [DecidableEq κ]
end
structure Mf (P:Program) (w:World) (K:PySem.W.Frag) (mg:Str→Option Value) (base:Heap) (k:Nat) (C:Addr) (m:Str) (ps:List Str) (sp:Sp):Prop where
 ex:∃f fd,Zdi P w K mg base CX0 k f fd ps sp∧ZlC K C m f∧ZbK K fd ps []
structure Cf (P:Program) (w:World) (K:PySem.W.Frag) (mg:Str→Option Value) (base:Heap) (k:Nat) (C:Addr) (x:Str) (ps:List Str) (sp:Sp):Prop where
 ex:∃f fd,Zdi P w K mg base CX0 k f fd ps sp∧Mk K C f∧ZbK K fd ps []∧mg x=some (.ref C)
structure Zdu (K:PySem.W.Frag) (C:Addr) (m qual:Str) (st:Stmt) (ps:List Str):Prop where
 ex:∃f fd,Fun K m qual st f fd∧ZlC K C m f∧ZbK K fd ps []
structure Zni (K:PySem.W.Frag) (mg:Str→Option Value) (C:Addr) (x qual:Str) (st:Stmt) (ps:List Str):Prop where
 ex:∃f fd,Fun K "__init__" qual st f fd∧Mk K C f∧ZbK K fd ps []∧mg x=some (.ref C)
section
variable {P:Program} {w:World} {K:PySem.W.Frag} {mg:Str→Option Value} {base:Heap}
theorem Zdu.mf{C:Addr}{m qual:Str}{st:Stmt}{N ps:List Str}{k:Nat}{sp:Sp}(T:Zdu K C m qual st ps)(S:Zp N ps (Zf st))(len:∀vs H Q E,sp vs H Q E→vs.length=ps.length)
  (hbody:∀ (cdv:Value) (f:Addr) (A:Around) (outer:List Env) (s:Shared) (H:Hp) (vs:List V) (Q:VK) (E:XK),ZaI k (A.deeper (envOfC qual (Zf st) s.heap.objs.size f cdv))→sp vs H Q E →
   ∃t,PSs (ZgY CX0 P w K mg base N qual (Zf st) f cdv A outer s H E).nox (Zn st) t∧t { nx:=fun _ H'=>Q .non H',rt:=Q } (ZcP N vs) H):Mf P w K mg base (k+1) C m ps sp:=by
 obtain⟨f,fd,F,m,b⟩:=T.ex
 exact⟨f,fd,F.ok S len (fun cdv A outer s H vs Q E hr h=>hbody cdv f A outer s H vs Q E hr h),m,b⟩
theorem Zni.cf{C:Addr}{x qual:Str}{st:Stmt}{N ps:List Str}{k:Nat}{sp:Sp}(T:Zni K mg C x qual st ps)(S:Zp N ps (Zf st))(len:∀vs H Q E,sp vs H Q E→vs.length=ps.length)
  (hbody:∀ (cdv:Value) (f:Addr) (A:Around) (outer:List Env) (s:Shared) (H:Hp) (vs:List V) (Q:VK) (E:XK),ZaI k (A.deeper (envOfC qual (Zf st) s.heap.objs.size f cdv))→sp vs H Q E →
   ∃t,PSs (ZgY CX0 P w K mg base N qual (Zf st) f cdv A outer s H E).nox (Zn st) t∧t { nx:=fun _ H'=>Q .non H',rt:=Q } (ZcP N vs) H):Cf P w K mg base (k+1) C x ps sp:=by
 obtain⟨f,fd,F,m,b,g⟩:=T.ex
 exact⟨f,fd,F.ok S len (fun cdv A outer s H vs Q E hr h=>hbody cdv f A outer s H vs Q E hr h),m,b,g⟩
end
section
variable {X:Cx} {k j:Nat} {C:Addr} {m x:Str} {ps:List Str} {sp:Sp} {o e:Expr} {es:List Expr} {ta:TE} {t:TA} {p apos pos:Pos} {pl:Sem Bool}
theorem ZeA(F:Mf X.prog X.w X.K X.mg X.base k C m ps sp)(c:Cls X.K C)(hr:ZaI j X.A)(he:PE X o ta)(ha:PA X (e::es) t)(hjk:k≤j:=by decide)
  (hst:starEach (e::es) X.env=(false,eval e X.env)::starEach es X.env:=by rfl) (hpl:(backTo pos (starEach es X.env)).any (·.1)=false:=by rfl)
  (ht:eval (.Call (.Attribute o m apos) (e::es) [] pos) X.env=(do
   let ov ← eval o X.env
   standAt apos.atName
   let (f,first) ← holding [ov] (getMethod ov m pl)
   callWith pos f first (backTo pos (starEach (e::es) X.env)) (backToKw pos (keywordEach [] X.env))):=by rfl) :
  PE X (.Call (.Attribute o m apos) (e::es) [] pos) (Zjv C m sp [] E0 ta t):=by
 obtain⟨f,fd,F,g,b⟩:=F.ex
 exact ZmC he c g F (hr.mono hjk) b .nil Zjt ha hst hpl ht
theorem ZaU(F:Mf X.prog X.w X.K X.mg X.base k C m ps sp)(c:Cls X.K C)(hr:ZaI j X.A)(he:PE X o ta)(hjk:k≤j:=by decide)
  (ht:eval (.Call (.Attribute o m apos) [] [] pos) X.env=(do
   let ov ← eval o X.env
   standAt apos.atName
   let (f,first) ← holding [ov] (getMethod ov m pl)
   callWith pos f first (backTo pos (starEach [] X.env)) (backToKw pos (keywordEach [] X.env))):=by rfl) :
  PE X (.Call (.Attribute o m apos) [] [] pos) (Zjv C m sp [] E0 ta Zn9):=by
 obtain⟨f,fd,F,g,b⟩:=F.ex
 exact ZlA he c g F (hr.mono hjk) b .nil Zjt ht
theorem ZkD(F:Cf X.prog X.w X.K X.mg X.base k C x ps sp)(hr:ZaI j X.A)(ha:PA X (e::es) t)(hjk:k+1≤j:=by decide)(hg:Gl X x:=by rfl)(hdb:(x == ("__debug__" : Str))=false:=by decide)
  (he:starEach (e::es) X.env=(false,eval e X.env)::starEach es X.env:=by rfl) (hpl:(backTo pos (starEach es X.env)).any (·.1)=false:=by rfl) :
  PE X (.Call (.Name x p) (e::es) [] pos) (ZnH C sp [] E0 t):=by
 obtain⟨f,fd,F,g,b,gm⟩:=F.ex
 exact Znk g F (hr.mono hjk) hg gm b .nil Zjt ha hdb he hpl
end
section
variable {X:Cx} {pins:List (Addr×Obj)} {σ:St} {H:Hp} {s:Shared} {d:Addr} {o:Obj} {u:HO}
theorem Inv.freeze(I:Inv X pins σ H s)(e:H d=some u)(mu:Mut (some u))(ho:s.heap.get? d=some o):Inv X pins σ (upd H d (.frz o u)) s:=by
 have h:=I.write (x:=d) (e:=d) (o:=.frz o u) (t':=s.toks) (h':=s.heap) (by rw[e];exact mu) (.inl rfl) (fun b v _ q=>q) ⟨o,ho⟩ ?_
 ·exact h
 ·refine⟨ho,(I.hok d u e).stay (fun b v _ q=>q) (fun b q=>?_) (fun b xs q=>?_)⟩
  ·rw[Zc (fun z=>by rw[z,e]at q;cases q;exact mu)];exact q
  ·rw[Zc (fun z=>by rw[z,e]at q;cases q;exact mu)];exact q
theorem Inv.nofrz(I:Inv X pins σ H s)(e:H d=some u)(mu:Mut (some u)):∀o' u',X.H₀ d≠some (.frz o' u'):=fun o' u' z=>by
 have:=I.base.frzs d o' u' z
 rw[e]at this
 cases this
 exact mu
theorem Inv.thaw(I:Inv X pins σ H s)(e:H d=some (.frz o u))(mu:Mut (some u))(n:∀o' u',X.H₀ d≠some (.frz o' u')):Inv X pins σ (upd H d u) s:=by
 have hne:∀b,H b=none→b≠d:=fun b z=>Zb (H:=H) e z |>.symm
 refine⟨I.ok,I.os,I.bare,⟨I.base.keep,I.base.slot,fun b v a1 a2 a3=>?_,I.base.there,fun b xs q=>?_,fun b o' u' q=>?_,fun b ps q=>?_⟩,I.loc,I.cell,?_,fun x c q=>?_,fun p hp=>?_,?_,I.len⟩
 ·have:=I.base.free b v a1 a2 a3
  rw[Zc (hne b this)];exact this
 ·have:=I.base.tups b xs q
  rw[Zc (fun z=>by rw[z,e]at this;cases this)];exact this
 ·have:=I.base.frzs b o' u' q
  rw[Zc (fun z=>by rw[z]at q;exact n o' u' q)];exact this
 ·obtain⟨more,this⟩:=I.base.tbls b ps q
  refine⟨more,?_⟩
  rw[Zc (fun z=>by rw[z,e]at this;cases this)];exact this
 ·rw[Zc (hne _ I.free)];exact I.free
 ·rw[Zc (hne _ (I.freeC x c q))];exact I.freeC x c q
 ·obtain⟨a1,a2,a3⟩:=I.pin p hp
  exact⟨a1,by rw[Zc (hne _ a2)];exact a2,a3⟩
 ·intro b v q
  have own:∀c a,H c=some (.own a)→(upd H d u) c=some (.own a):=fun c a q=>by rw[Zc (fun z=>by rw[z,e]at q;cases q)];exact q
  have tup:∀c xs,H c=some (.tup xs)→(upd H d u) c=some (.tup xs):=fun c xs q=>by rw[Zc (fun z=>by rw[z,e]at q;cases q)];exact q
  by_cases hb:b=d
  ·subst hb
   rw[Zd]at q
   cases q
   obtain⟨_,h2⟩:=(show Zaa X.prog X.w H s.heap b (.frz o u) from I.hok b _ e)
   exact h2.stay (fun c v _ q=>q) (fun c q=>own c b q) tup
  ·rw[Zc hb]at q
   exact(I.hok b v q).stay (fun c v _ q=>q) (fun c q=>own c b q) tup
end
def ZpB(t:TE):TE:=fun σ H Q=>∃d u,H d=some u∧Mut (some u)∧t σ H fun v H'=>∃o,H' d=some (.frz o u)∧Q v (upd H' d u)
theorem Znz{X:Cx}{e:Expr}{t:TE}(h:PE X e t):PE X e (ZpB t):=by
 intro pins s σ H Q I q
 obtain⟨d,u,e1,mu,q⟩:=q
 have n:=I.nofrz e1 mu
 refine thn (h pins s σ H _ I q) ?_
 rintro v s1 ⟨x,H1,I1,r1,o,e2,q1⟩
 exact⟨x,_,I1.thaw e2 mu n,r1,q1⟩
theorem Zi3{P:Program}{w:World}{k:Key}{v:Value}(h:(Z5 P w).is k v=true):ZA (kV k) v:=by
 rw[Zir]at h
 rcases Zah h with⟨i,t,rfl,rfl⟩|⟨x,t,rfl,rfl⟩
 ·exact⟨t,rfl⟩
 ·exact⟨t,rfl⟩
def Zl5:List V→Hp→VK→Prop:=fun xs H Q=>∃d kvs,xs=[.ref d]∧H d=some (.dK kvs)∧∀l,H l=none→Q (.ref l) (upd H l (.lst (kvs.map fun kv=>kV kv.1)))
theorem Zkd{P:Program}{w:World}:∀ (kvs:List (Key×V)) (vs:List (Key×Value)) (us:List Value),KV kvs vs→us.length=vs.length→(∀ (j:Nat) (v:Value),us[j]? = some v→∃k x,vs[j]? = some (k,x)∧(Z5 P w).is k v=true)→Zy (kvs.map fun kv=>kV kv.1) us:=by
 intro kvs vs us r
 unfold KV at r
 induction r generalizing us with
 | nil =>
  intro hl _
  cases us with
  | nil=>exact .nil
  | cons a b=>simp at hl
 | @cons p q ps qs h t ih =>
  intro hl hp
  cases us with
  | nil=>simp at hl
  | cons a b =>
   obtain⟨k,x,e,hk⟩:=hp 0 a rfl
   have e':q=(k,x):=by simpa using e
   rw[Qi]
   refine .cons ?_ (ih b (by simpa using hl) fun j v hv=>?_)
   ·rw[h.1,e'];exact Zi3 hk
   ·simpa using hp (j+1) v (by simpa using hv)
theorem ZiC{X:Cx}(hc:X.calm=true):Zaz X (.type "list") Zl5:=by
 intro pins s σ H xs us Q I r h
 obtain⟨d,kvs,rfl,hd,q⟩:=h
 obtain⟨u,rfl,ru⟩:=ZcB r
 cases ru
 obtain⟨z,lo,vs,rel,dd⟩:=(show Zaa X.prog X.w H s.heap d (.dK kvs) from I.hok d _ hd)
 obtain⟨ep,da⟩:=dd.dictAt
 have hl:kvs.length=vs.length:=rel.length
 refine PySem.W.kdl_call (PySem.W.kdl_dict lo) (I.ok.hd hc) da (by omega) fun h' tk acc c hk hD hacc=>?_
 have hv:Zy (kvs.map fun kv=>kV kv.1) acc.toList:=Zkd (P:=X.prog) (w:=X.w) kvs vs acc.toList rel (by rw[QE];exact hacc.1) fun j v e=>hacc.2 j v (by rw[← QT];exact e)
 refine⟨.ref s.heap.objs.size,_,I.laid (a:=s.heap.objs.size) (o:=.lst (kvs.map fun kv=>kV kv.1)) (t':=tk) hk (Qg _) ?_,rfl,q _ (I.hok.fresh (Qg _))⟩
 exact⟨by rw[Qa];exact z,acc.toList,c,hv,by simpa using hD⟩
theorem Inv.dictF{X:Cx}{pins:List (Addr×Obj)}{σ:St}{H:Hp}{s:Shared}{d:Addr}{o:Obj}{kvs:List (Key×V)}{es:Array DictEntry}{ep:Nat}(I:Inv X pins σ H s)(e:H d=some (.frz o (.dK kvs)))(hd:o.data=.dict es ep) :
  ∃vs,KV kvs vs∧s.heap.DictAt (Z5 X.prog X.w) d vs ep:=by
 obtain⟨ho,_,_,vs,rel,o',es',ep',h1,h2,h3,h4⟩:=(show Zaa X.prog X.w H s.heap d (.frz o (.dK kvs)) from I.hok d _ e)
 rw[ho]at h1
 cases h1
 rw[hd]at h3
 cases h3
 exact⟨vs,rel,o,es,ho,h2,hd,h4⟩
theorem Zov{kvs:List (Key×V)}{vs:List (Key×Value)}(r:KV kvs vs):∀ (i:Nat) (k:Key) (x:V),kvs[i]? = some (k,x)→∃u,vs[i]? = some (k,u)∧ZA x u:=by
 unfold KV at r
 induction r with
 | nil=>intro i k x h;simp at h
 | @cons p q ps qs h t ih =>
  intro i k x hx
  cases i with
  | zero =>
   have e:p=(k,x):=by simpa using hx
   refine⟨q.2,?_,?_⟩
   ·have:q=(k,q.2):=by rw[show k=q.1 by rw[← h.1,e]]
    simpa using this
   ·have:=h.2;rw[e]at this;exact this
  | succ i=>simpa using ih i k x (by simpa using hx)
end L2
namespace L2
open PySem PySem.Spec PyProof.Rows
def Iti(d:Addr)(o:Obj)(kvs:List (Key×V)):It :=
 ⟨fun i H=>H d=some (.frz o (.dK kvs))∧i<kvs.length,
  fun i H v H'=>∃p k x,H p=none∧v=.ref p∧kvs[i]? = some (k,x)∧H'=upd H p (.tup [kV k,x]),
  fun i H=>H d=some (.frz o (.dK kvs))∧kvs.length≤i⟩
theorem ZiJ{P:Program}{w:World}{K:PySem.W.Frag}{elts:List Expr}{x1:Nat}{tpos:Pos}{d it:Addr}{o:Obj}{kvs:List (Key×V)}{es:Array DictEntry}{ep:Nat}(hd:o.data=.dict es ep) :
  Zkj P w K (.Tuple elts x1 tpos) (Iti d o kvs) [it] it (fun i h=>∃ok ov,IsItemIter h it d i kvs.length ep ok ov) where
 mem:=by simp
 obj:=fun i h st b hb=>by
  have e:b=it:=by simpa using hb
  subst e
  obtain⟨ok,ov,he⟩:=st
  exact⟨_,he,fun v z=>by cases z⟩
 keep:=fun i h h' st k=>by
  obtain⟨ok,ov,he⟩:=st
  exact⟨ok,ov,k it (by simp) _ he⟩
 item:=by
  intro X hP hw hK hc i pins s σ H E I hf st hg
  subst hP hw hK
  obtain⟨ok,ov,he⟩:=st
  obtain⟨hfz,hi⟩:=hg
  obtain⟨vs,rel,da⟩:=I.dictF hfz hd
  have hl:kvs.length=vs.length:=rel.length
  obtain⟨u,hu,ru⟩:=Zov rel i kvs[i].1 kvs[i].2 (Qb hi)
  refine wpAny_pyNext_items_item (by rw[← hl];exact he) da hu fun key h' hkey a1 a2 a3 a4=>?_
  rw[← hl]at a1
  have lt:∀ {b:Addr} {o:Obj},s.heap.get? b=some o→s.heap.objs.size≠b:=fun q=>Q4 (Qo q)
  have hes:s.heap.objs.size≠it:=lt he
  refine⟨_,rfl,wpAny_letOwnedTupleGo_items a1 fun h'' he'' hs''=>?_⟩
  have hs':Heap.SameBut it h' h'':=hs''
  have I2:Inv X pins σ (upd H s.heap.objs.size (.tup [kV kvs[i].1,kvs[i].2])) { s with heap:=h'',toks:=s.toks }:=by
   refine I.zipped (fp:=[it]) (u:=key) (v:=u) hf (Zi3 hkey) ru (hs'.extBut _ _ hes a2) (fun b hb=>?_) fun c o hc q=>?_
   ·have e:=Qk.mp hb
    subst e
    exact⟨_,he''⟩
   ·have hc':c≠it:=fun z=>hc (by rw[z];simp)
    exact hs'.extBut _ _ hc' (a4 c o hc' q)
  refine⟨.ref s.heap.objs.size,_,I2,rfl,⟨s.heap.objs.size,kvs[i].1,kvs[i].2,I.fresh,rfl,Qb hi,rfl⟩,⟨_,_,he''⟩,fun b hb=>?_⟩
  have e:=Qk.mp hb
  subst e
  rw[Zc hes.symm]
  exact(hf _ hb).1
 done:=by
  intro X hP hw hK hc i pins s σ H E I hf st hg
  subst hP hw hK
  obtain⟨ok,ov,he⟩:=st
  obtain⟨f0,f1,f2,f3,f4,f5⟩:=hf it (by simp)
  obtain⟨hfz,hi⟩:=hg
  obtain⟨vs,rel,da⟩:=I.dictF hfz hd
  have hl:kvs.length=vs.length:=rel.length
  exact wpAny_pyNext_items_end (I.ok.hd hc) (by rw[← hl];exact he) da (Qab (by omega)) fun h' eb=>⟨rfl,I.turned (t':=s.toks) (fun b o hb e=>eb b o hb e) f0 f1 f3 f4 f5⟩
 self:=fun _ _ _ _ _ st h=>by obtain⟨ok,ov,he⟩:=st;exact PySem.W.kcp_self he h
def ZoN(tl:TE):TI:=fun σ H R=>tl σ H fun x H1=>∃d kvs,x=.ref d∧H1 d=some (.dK kvs)∧∀o,R (Iti d o kvs) (upd H1 d (.frz o (.dK kvs)))
theorem Zlu{X:Cx}{elts:List Expr}{x1:Nat}{tpos:Pos}{o:Expr}{to:TE}{apos cpos:Pos}(ho:PE X o to)(hbase:attributeBase o "items" X.env (eval o X.env)=eval o X.env:=by rfl)(hline:(apos.endLine == cpos.line)=true:=by rfl) :
  PI X (.Tuple elts x1 tpos) (.Call (.Attribute o "items" apos) [] [] cpos) (ZoN to):=by
 intro pins s σ H R I h
 refine wpAny_Call_method0_late hbase hline (thn (ho pins s σ H _ I h) ?_)
 rintro v s1 ⟨x,H1,I1,r1,q1⟩
 obtain⟨d,kvs,e,hd,q⟩:=q1
 subst e
 cases r1
 obtain⟨z,lo,vs,rel,ob,es,ep,h1,h2,h3,h4⟩:=(show Zaa X.prog X.w H1 s1.heap d (.dK kvs) from I1.hok d _ hd)
 have hlen:kvs.length=vs.length:=rel.length
 have I2:=I1.freeze hd True.intro h1
 have dd:s1.heap.DictOf (Z5 X.prog X.w) d vs:=⟨ob,es,ep,h1,h2,h3,h4⟩
 refine⟨"dict", "dict.items",PySem.F.plainAttrs_dict,PySem.F.slot_dict_items,PySem.F.type_dict_items,dd.typeIs,fun a e=>?_,?_⟩
 ·cases e;exact⟨ob,h1,h2.2.1⟩
 refine Calls.callWith_builtin rfl (PySem.evalArgs_none ?_)
 refine call_meetsIn PySem.F.slot_dict_items dd.typeIs PySem.F.entry_dict_items (PySem.F.args_dict_items_1 _) (meets_dict_items (Z5 X.prog X.w) d lo) ⟨⟨vs,dd⟩,?_⟩
 have hv:(s1.heap.push { cls:=.type "dict_items",data:=.fields #[.ref d] }).IsItemsView s1.heap.objs.size d:=⟨_,Qz _ rfl,rfl,rfl⟩
 have da:(s1.heap.push { cls:=.type "dict_items",data:=.fields #[.ref d] }).DictAt (Z5 X.prog X.w) d vs ep:=⟨ob,es,Qc _ h1,h2,h3,h4⟩
 refine wpAny_pyIter_items (s:={ s1 with heap:=s1.heap.push { cls:=.type "dict_items",data:=.fields #[.ref d] } }) hv da ?_
 rw[← hlen]
 have I3:Inv X pins σ (upd H1 d (.frz ob (.dK kvs))) { s1 with heap:=s1.heap.push { cls:=.type "dict_items",data:=.fields #[.ref d] } }:=I2.kept (t':=s1.toks) fun b o e=>Qc _ e
 refine⟨_,[_],_,Iti d ob kvs,upd H1 d (.frz ob (.dK kvs)),rfl,I3.kept (t':=s1.toks) fun b o e=>Qc _ e,ZiJ h3,⟨_,_,Qz _ rfl⟩,fun b hb=>?_,q ob⟩
 have e:=Qk.mp hb
 rw[e]
 exact I3.fpOk (Qg _) (I3.hok.fresh (Qg _))
section
variable {X:Cx} {N N':List Str} {o c:Scope}
end
section
variable {X:Cx}
end
section
variable {prog:Program} {w:World} {A:Around} {R:Result→Shared→Prop} {I:Addr} {fp wr:List Addr} {G:Array GenState→Array GenState→Prop} {n:Nat} {P:Nat→Value→Prop} {St:Nat→Shared→Prop} {K:Type} [DecidableEq K] {knd:KeyKind prog w K}
end
section
variable {prog:Program} {w:World} {A:Around} {E:Value→Shared→Prop} {s:Shared} {K:Type} [DecidableEq K] {knd:KeyKind prog w K}
end
def ZpR:R2:=fun x y H Q=>∃a v,x=.ref a∧ZcJ H a y (some v)∧Q v H
section
variable {X:Cx} {k:Nat}
def ZpL:Znf:=fun o i v H Q=>∃a H',o=.ref a∧ZeX H a i v H'∧Q H'
theorem Zk6(hr:ZaI k X.A):ZoC X ZpL:=by
 intro pins s σ H o i v ov iv u Q I ro ri rv h
 obtain⟨a,H',rfl,g,q⟩:=h
 cases ro
 exact ZjR (ZlP hr) I g ri rv fun s4 I4=>⟨H',I4,q⟩
theorem Zio{prog:Program}{w:World}{A:Around}{E:Value→Shared→Prop}{s:Shared}{value slice:Expr}{o i:Value}{T id:String}{Q:Value→Shared→Prop}(hT:s.TypeIs o T)
  (hl:typeLookup (.type T) "__getitem__" = pure (some (.builtin id))) (hs:subscripted slice false o i=operate [o,i] (getItem o i)) (h:wpAny (model prog w) A (getItem o i) Q E s) :
  wpAny (model prog w) A (subscriptTail value slice o i) Q E s:=by
 unfold subscriptTail
 refine wpAny_bind ?_
 rw[getitemInPython_of_ne hT.not_modules]
 refine wpAny_bind (wpAny_specialOf hT hl ?_)
 have fin:wpAny (model prog w) A (subscripted slice false o i) (fun r s₃=>wpAny (model prog w) A (letTemporaryGo value o r >>= fun _=>pure r) Q E s₃) E s:=by
  rw[hs]
  exact wpAny_operating (wpAny_mono h (fun r s₃ h₃=>wpAny_bind (wpAny_letTemporaryGo (wpAny_pure h₃))) fun _ _ x=>x)
 first
  | exact wpAny_pure (wpAny_bind fin)
  | exact wpAny_bind (wpAny_pure (wpAny_bind fin))
  | exact wpAny_bind fin
theorem ixG(hr:ZaI k X.A):IxR X ZpR:=by
 intro value slice pins s σ H x y v u Q I rx ry h hs
 obtain⟨a,z,rfl,g,q⟩:=h
 cases rx
 exact Zio (ZhW I g) PySem.F.slot_dict_getitem.lookup hs (ZjL (ZlP hr) I g ry fun w' s' I' rw'=>⟨z,H,I',rw',q⟩)
theorem lenG:Zaz X (.builtin "len") (fun xs H Q=>∃a kvs,xs=[V.ref a]∧H a=some (.dK kvs)∧Q (.int kvs.length) H):=Zkl
theorem Zo8(hc:X.calm=true:=by rfl):Zaz X (.type "list") Zl5:=ZiC hc
end
mutual
inductive DH (H:Hp):V→PyData→Prop where
 | non:DH H .non .none
 | bl (b:Bool):DH H (.bl b) (.bool b)
 | int (i:Int):DH H (.int i) (.int i)
 | str (s:Str):DH H (.str s) (.str s)
 | lst {a:Addr} {xs:List V} {ds:List PyData}:H a=some (.lst xs)→DHs H xs ds→DH H (.ref a) (.list ds)
 | tup {a:Addr} {xs:List V} {ds:List PyData}:H a=some (.tup xs)→DHs H xs ds→DH H (.ref a) (.tuple ds)
inductive DHs (H:Hp):List V→List PyData→Prop where
 | nil:DHs H [] []
 | cons {x:V} {d:PyData} {xs:List V} {ds:List PyData}:DH H x d→DHs H xs ds→DHs H (x::xs) (d::ds)
end
mutual
theorem DH.mono{H H':Hp}(s:ZH H H'):∀ {x:V} {d:PyData},DH H x d→DH H' x d
 | _,_,.non=>.non
 | _,_,.bl b=>.bl b
 | _,_,.int i=>.int i
 | _,_,.str z=>.str z
 | _,_,.lst h hs=>.lst (s _ _ h) (DHs.mono s hs)
 | _,_,.tup h hs=>.tup (s _ _ h) (DHs.mono s hs)
theorem DHs.mono{H H':Hp}(s:ZH H H'):∀ {xs:List V} {ds:List PyData},DHs H xs ds→DHs H' xs ds
 | _,_,.nil=>.nil
 | _,_,.cons h hs=>.cons (DH.mono s h) (DHs.mono s hs)
end
mutual
theorem DH.dv{K:PySem.W.Frag}{H:Hp}:∀ {x:V} {d:PyData},DH H x d→DV K H x d
 | _,_,.non=>.non
 | _,_,.bl b=>.bl b
 | _,_,.int i=>.int i
 | _,_,.str z=>.str z
 | _,_,.lst h hs=>.lst (SqL.of h) (DHs.dv hs)
 | _,_,.tup h hs=>.tup (SqT.of h) (DHs.dv hs)
theorem DHs.dv{K:PySem.W.Frag}{H:Hp}:∀ {xs:List V} {ds:List PyData},DHs H xs ds→DVs K H xs ds
 | _,_,.nil=>.nil
 | _,_,.cons h hs=>.cons (DH.dv h) (DHs.dv hs)
end
section
open PySem.W
end
theorem ZkP{kvs:List (Key×V)}{k:Key}{v:V}(h:ZbX kvs k=some v):(k,v)∈kvs:=by
 unfold ZbX at h
 obtain⟨p,hp,rfl⟩:=QaZ.mp h
 have h1:=List.find?_some hp
 have h2:=List.mem_of_find?_eq_some hp
 have:p.1=k:=by simpa using h1
 rw[← this];exact h2
theorem ZhR{kvs:List (Key×V)}(hn:(kvs.map (·.1)).Nodup){k:Key}{v:V}(h:(k,v)∈kvs):ZbX kvs k=some v:=by
 induction kvs with
 | nil=>cases h
 | cons p r ih =>
  obtain⟨n1,n2⟩:=Q8.mp (by simpa using hn:(p.1::r.map (·.1)).Nodup)
  rcases QH.mp h with rfl|h
  ·exact ZcS rfl
  ·rw[Zc2 fun e=>n1 (e ▸ Qn (f:=(·.1)) h)]
   exact ih n2 h
end L2
namespace L2
open PySem PySem.Spec PyProof.Rows
theorem ZmO{d:Addr}{o:Obj}{kvs:List (Key×V)}{k:Nat}{D:Addr}{σ:L2.St}{H1:Hp}{g:TG}{tc:TT}{te:TE}{Q:VK}(Pv:Nat→List V→L2.St→Hp→Prop)(h0:Pv 0 [] (σ++List.replicate k none) (upd H1 D (.lst [])))
  (hl:∀i ys σ H,Pv i ys σ H→H d=some (.frz o (.dK kvs)))
  (hs:∀i k x ys σ H p,kvs[i]? = some (k,x)→Pv i ys σ H→H p=none→g (.ref p) σ (upd H p (.tup [kV k,x])) fun σ4 H4=>tc σ4 H4 fun b H5=>if b=true then te σ4 H5 fun y H6=>H6 D=some (.lst ys)∧ys.length<sizeLine∧Pv (i+1) (ys++[y]) σ4 (upd H6 D (.lst (ys++[y]))) else Pv (i+1) ys σ4 H5)
  (hd:∀ys σ H,Pv kvs.length ys σ H→Q (.ref D) H):ZdG (Iti d o kvs) D k σ H1 g tc te Q:=by
 refine⟨fun i m ys σ H=>m=kvs.length-i∧i≤kvs.length∧Pv i ys σ H,⟨kvs.length,by simp,Qp _,h0⟩,?_⟩
 rintro i m ys σ H ⟨rfl,hi,p⟩
 have q1:=hl i ys σ H p
 by_cases hlt:i<kvs.length
 ·refine .inr ⟨⟨q1,hlt⟩,Pv (i+1),fun ys' σ' H' p'=>⟨kvs.length-(i+1),by omega,rfl,hlt,p'⟩,fun x H' y=>?_⟩
  obtain⟨r,k',x',hr,rfl,e,rfl⟩:=y
  exact hs i k' x' ys σ H r e p hr
 ·have e:i=kvs.length:=by omega
  exact .inl ⟨⟨q1,by omega⟩,hd ys σ H (e ▸ p)⟩
def off(p:Addr)(H:Hp):Hp:=fun b=>if b=p then none else H b
section
variable {prog:Program} {w:World} {A:Around} {R:Result→Shared→Prop} {I:Addr} {fp wr:List Addr} {G:Array GenState→Array GenState→Prop} {n:Nat} {P:Nat→Value→Prop} {St:Nat→Shared→Prop} {K:Type} [DecidableEq K] {knd:KeyKind prog w K}
end
theorem ZmT{X:Cx}{s:Stmt}:PS X s (fun _ _ _=>False):=fun pins s' σ H D I h=>h.elim
theorem Zoc{X:Cx}{k:Nat}{o e:Expr}{td ty:TE}{apos cpos:Pos}(hr:ZaI k X.A)(ho:PE X o td)(he:PE X e ty)(hb:attributeBase o "get" X.env (eval o X.env)=eval o X.env:=by rfl)
  (hl:(apos.endLine == cpos.line)=true:=by rfl) (ht:backTo cpos (starEach [e] X.env)=[(false,eval e X.env)]:=by rfl):PE X (.Call (.Attribute o "get" apos) [e] [] cpos) (Zlm td ty):=by
 refine Zl7 (ZlP hr) ho he ⟨hb,?_,hl,ht⟩
 rw[ht];rfl
section
variable {prog:Program} {w:World} {A:Around} {E:Value→Shared→Prop} {s:Shared} {l:Addr} {xs:Array (Int×Tok)}
end
section
variable {X:Cx}
end
section
variable {X:Cx}
end
end L2
namespace L2
open PySem PySem.Spec PyProof.Rows
section
variable {prog:Program} {w:World} {A:Around} {E:Value→Shared→Prop} {s:Shared} {K:Type} [DecidableEq K] {knd:KeyKind prog w K}
end
section
variable {prog:Program} {w:World} {A:Around} {E:Value→Shared→Prop} {s:Shared} {K:Type} [DecidableEq K] {knd:HeapKind prog w K}
end
def apart:List Int→Bool
 | []=>true
 | x::r=>r.all (fun y=>x != y)&&apart r
structure CompScC (N N':List Str) (o c:Scope):Prop where
 kind:c.kind=.function
 okind:o.kind=.function
 cel:∀y∈c.names,y.2=.cell→c.names.lookup y.1=some .cell
 loc:∀y∈c.names,y.2=.local→c.names.lookup y.1=some .local
 free:∀y∈c.names,y.2=.free→c.names.lookup y.1=some .free∧(o.names.lookup y.1=some .cell∨o.names.lookup y.1=some .free)
 len:N.length≤N'.length
 same:∀i∈List.range N.length,∀x∈N'[i]?,c.names.lookup x=some .local∨c.names.lookup x=some .free∨c.names.lookup x=some .cell→c.names.lookup x=some .free∧N[i]? = some x
 nd:N'.Nodup
section
variable {X:Cx} {N N':List Str} {o c:Scope}
variable {x:Str} {pos:Pos} {C:Addr} {s:Shared} {H:Hp} {fp:List Addr}
end
section
variable {prog:Program} {w:World} {A:Around} {E:Value→Shared→Prop} {s:Shared}
end
section
variable {prog:Program} {w:World} {A:Around} {R:Result→Shared→Prop} {I:Addr} {fp wr:List Addr} {G:Array GenState→Array GenState→Prop} {n:Nat} {P:Nat→Value→Prop} {St:Nat→Shared→Prop}
variable {K:Type} [DecidableEq K] {knd:KeyKind prog w K}
end
section
variable {prog:Program} {w:World} {A:Around} {E:Value→Shared→Prop} {s:Shared} {K:Type} [DecidableEq K] {knd:KeyKind prog w K}
end
end L2
namespace L2
open PySem PySem.Spec PyProof.Rows
def gallop':Bool→Keyed→Array Keyed→Nat→Nat→Nat→StateT SortSt Sem (Option Nat):=sortPriv% PySem.Builtin.gallop
def Has(κ:PyProof.Rows.KeyKind)(p:Keyed):Prop:=∃a,κ.keyOf p.1=some a
def kyd(κ:PyProof.Rows.KeyKind)(p:Keyed):κ.α:=(κ.keyOf p.1).getD κ.dflt
theorem Zmo{κ:PyProof.Rows.KeyKind}{xs:Array Keyed}{i:Nat}{p:Keyed}(h:xs[i]? = some p):KK κ xs i=kyd κ p:=by unfold KK kyd;rw[h]
def Znl(left:Bool)(key:Keyed)(arr:Array Keyed)(base i:Nat):StateT SortSt Sem (Option Bool) :=
 elem' arr (base+i) >>= fun x=>if left=true then lt' x key else lt' key x >>= fun r=>pure (r.map (!·))
def gB(κ:PyProof.Rows.KeyKind)(left:Bool)(key p:Keyed):Bool:=if left then κ.blt (kyd κ p) (kyd κ key) else !κ.blt (kyd κ key) (kyd κ p)
section
variable {prog:Program} {w:World} {A:Around} {E:Value→Shared→Prop} {s:Shared} {κ:PyProof.Rows.KeyKind} {k0:SortKind} {a₀:Array Keyed} {st:SortSt}
theorem w_ltp(hL:ZdY prog w A s k0 κ)(hK:kindOf st=k0){p q:Keyed}(hp:Has κ p)(hq:Has κ q){Q:Option Bool→SortSt→Prop}(h:Q (some (κ.blt (kyd κ p) (kyd κ q))) st):wpS (model prog w) A E s (lt' p q) Q st:=by
 obtain⟨a,ha⟩:=hp
 obtain⟨b,hb⟩:=hq
 rw[lt'_eq]
 refine wpS_bind (wpS_get (wpS_bind (wpS_lift (wpAny_attempt ?_))))
 rw[hK]
 unfold kyd at h
 rw[ha,hb]at h
 exact hL _ p.1 q.1 _ _ _ ha hb ⟨rfl,wpS_pure h⟩
theorem w_ask(hL:ZdY prog w A s k0 κ)(hK:kindOf st=k0){left:Bool}{key p:Keyed}{arr:Array Keyed}{base i:Nat}(hkey:Has κ key)(hp:arr[base+i]? = some p)(hq:Has κ p){Q:Option Bool→SortSt→Prop}(q:Q (some (gB κ left key p)) st) :
  wpS (model prog w) A E s (Znl left key arr base i) Q st:=by
 unfold Znl
 refine wpS_bind (w_elem hp ?_)
 cases left with
 | true=>rw[if_pos rfl];exact w_ltp hL hK hq hkey q
 | false=>rw[if_neg (by decide)];exact wpS_bind (w_ltp hL hK hkey hq (wpS_pure q))
theorem w_gallop(hL:ZdY prog w A s k0 κ)(hK:kindOf st=k0){left:Bool}{key:Keyed}{arr:Array Keyed}{base n hint:Nat}(hh:hint<n)(hkey:Has κ key){B:Nat→Bool}
  (hB:∀i,i<n→∃p,arr[base+i]? = some p∧Has κ p∧B i=gB κ left key p) (mono:∀i j,i≤j→j<n→B j=true→B i=true)
  {Q:Option Nat→SortSt→Prop} (q:∀h,h≤n→(∀i,i<h→B i=true)→(∀i,h≤i→i<n→B i=false)→Q (some h) st):wpS (model prog w) A E s (gallop' left key arr base n hint) Q st:=by
 have ask:∀ (i:Nat) (Q:Option Bool→SortSt→Prop),i<n→Q (some (B i)) st→wpS (model prog w) A E s (Znl left key arr base i) Q st:=fun i Q hi h=>by
  obtain⟨p,a,b,c⟩:=hB i hi
  rw[c]at h
  exact w_ask hL hK hkey a b h
 have no:∀i j,i≤j→j<n→B i=false→B j=false:=fun i j h1 h2 h=>by
  cases hb:B j with
  | true=>rw[mono i j h1 h2 hb]at h;cases h
  | false=>rfl
 show wpS _ _ _ _ (Znl left key arr base hint >>= _) _ _
 refine wpS_bind (ask hint _ hh ?_)
 cases hb:B hint with
 | true =>
  show wpS _ _ _ _ (forIn [:n] (none,0,1) _ >>= _) _ _
  refine wpS_bind (wpS_mono (wpS_forRange (fun i c st'=>∃l o,c=(none,l,o)∧st'=st∧l<o∧l<n-hint∧i+1≤o∧B (hint+l)=true) (Q:=fun c st'=>∃l o,c=(none,l,o)∧st'=st∧l<o∧l<n-hint∧B (hint+l)=true∧(n-hint≤o∨B (hint+o)=false)) ?_ ?_ ⟨0,1,rfl,rfl,by omega,by omega,by omega,hb⟩) ?_)
  ·rintro i c st' _ hi ⟨l,o,rfl,rfl,b1,b2,b3,b4⟩
   show wpS _ _ _ _ (if o≥n-hint then _ else _) _ _
   by_cases e:o≥n-hint
   ·rw[if_pos e]
    exact wpS_pure ⟨l,o,rfl,rfl,b1,b2,b4,.inl e⟩
   ·rw[if_neg e]
    refine wpS_bind (ask _ _ (show hint+o<n by omega) ?_)
    cases hb2:B (hint+o) with
    | true=>exact wpS_pure ⟨o,2*o+1,rfl,rfl,by omega,by omega,by omega,hb2⟩
    | false=>exact wpS_pure ⟨l,o,rfl,rfl,b1,b2,b4,.inr hb2⟩
  ·rintro c st' ⟨l,o,rfl,rfl,b1,b2,b3,b4⟩
   exact⟨l,o,rfl,rfl,b1,b2,b4,.inl (by omega)⟩
  ·rintro c s1 ⟨l,o,rfl,rfl,a1,a2,a3,a4⟩
   have c3:∀i,i<(hint+l+1)→B i=true:=fun i hi=>mono i (hint+l) (by omega) (by omega) a3
   have c4:∀i,(hint+min o (n-hint))≤i→i<n→B i=false:=fun i h1 h2=>a4.elim (fun a4=>by omega) fun a4=>no (hint+o) i (by omega) h2 a4
   show wpS _ _ _ _ (forIn [:n] (none,(hint+l+1),(hint+min o (n-hint))) _ >>= _) _ _
   refine wpS_bind (wpS_forRange (fun i c st'=>∃l h,c=(none,l,h)∧st'=s1∧l≤h∧h≤n∧h-l≤n-i∧(∀i,i<l→B i=true)∧(∀i,h≤i→i<n→B i=false)) ?_ ?_ ⟨_,_,rfl,rfl,by omega,by omega,by omega,c3,c4⟩)
   ·rintro i c st' _ hi ⟨l,h,rfl,rfl,b1,b2,b3,b4,b5⟩
    show wpS _ _ _ _ (if l≥h then _ else _) _ _
    by_cases e:l≥h
    ·rw[if_pos e]
     exact wpS_pure (wpS_pure (q h b2 (fun i hi=>b4 i (by omega)) b5))
    ·rw[if_neg e]
     refine wpS_bind (ask _ _ (show l+(h-l) / 2<n by omega) ?_)
     cases hb:B (l+(h-l) / 2) with
     | true=>exact wpS_pure ⟨l+(h-l) / 2+1,h,rfl,rfl,by omega,b2,by omega,fun i hi=>mono i (l+(h-l) / 2) (by omega) (by omega) hb,b5⟩
     | false=>exact wpS_pure ⟨l,l+(h-l) / 2,rfl,rfl,by omega,by omega,by omega,b4,fun i h1 h2=>no _ i h1 h2 hb⟩
   ·rintro c st' ⟨l,h,rfl,rfl,b1,b2,b3,b4,b5⟩
    exact wpS_pure (q h b2 (fun i hi=>b4 i (by omega)) b5)
 | false =>
  show wpS _ _ _ _ (forIn [:n] (none,0,1) _ >>= _) _ _
  refine wpS_bind (wpS_mono (wpS_forRange (fun i c st'=>∃l o,c=(none,l,o)∧st'=st∧l<o∧l<hint+1∧i+1≤o∧B (hint-l)=false) (Q:=fun c st'=>∃l o,c=(none,l,o)∧st'=st∧l<o∧l<hint+1∧B (hint-l)=false∧(hint+1≤o∨B (hint-o)=true)) ?_ ?_ ⟨0,1,rfl,rfl,by omega,by omega,by omega,hb⟩) ?_)
  ·rintro i c st' _ hi ⟨l,o,rfl,rfl,b1,b2,b3,b4⟩
   show wpS _ _ _ _ (if o≥hint+1 then _ else _) _ _
   by_cases e:o≥hint+1
   ·rw[if_pos e]
    exact wpS_pure ⟨l,o,rfl,rfl,b1,b2,b4,.inl e⟩
   ·rw[if_neg e]
    refine wpS_bind (ask _ _ (show hint-o<n by omega) ?_)
    cases hb2:B (hint-o) with
    | false=>exact wpS_pure ⟨o,2*o+1,rfl,rfl,by omega,by omega,by omega,hb2⟩
    | true=>exact wpS_pure ⟨l,o,rfl,rfl,b1,b2,b4,.inr hb2⟩
  ·rintro c st' ⟨l,o,rfl,rfl,b1,b2,b3,b4⟩
   exact⟨l,o,rfl,rfl,b1,b2,b4,.inl (by omega)⟩
  ·rintro c s1 ⟨l,o,rfl,rfl,a1,a2,a3,a4⟩
   have c3:∀i,i<(hint+1-min o (hint+1))→B i=true:=fun i hi=>a4.elim (fun a4=>by omega) fun a4=>mono i (hint-o) (by omega) (by omega) a4
   have c4:∀i,(hint-l)≤i→i<n→B i=false:=fun i h1 h2=>no (hint-l) i h1 h2 a3
   show wpS _ _ _ _ (forIn [:n] (none,(hint+1-min o (hint+1)),(hint-l)) _ >>= _) _ _
   refine wpS_bind (wpS_forRange (fun i c st'=>∃l h,c=(none,l,h)∧st'=s1∧l≤h∧h≤n∧h-l≤n-i∧(∀i,i<l→B i=true)∧(∀i,h≤i→i<n→B i=false)) ?_ ?_ ⟨_,_,rfl,rfl,by omega,by omega,by omega,c3,c4⟩)
   ·rintro i c st' _ hi ⟨l,h,rfl,rfl,b1,b2,b3,b4,b5⟩
    show wpS _ _ _ _ (if l≥h then _ else _) _ _
    by_cases e:l≥h
    ·rw[if_pos e]
     exact wpS_pure (wpS_pure (q h b2 (fun i hi=>b4 i (by omega)) b5))
    ·rw[if_neg e]
     refine wpS_bind (ask _ _ (show l+(h-l) / 2<n by omega) ?_)
     cases hb:B (l+(h-l) / 2) with
     | true=>exact wpS_pure ⟨l+(h-l) / 2+1,h,rfl,rfl,by omega,b2,by omega,fun i hi=>mono i (l+(h-l) / 2) (by omega) (by omega) hb,b5⟩
     | false=>exact wpS_pure ⟨l,l+(h-l) / 2,rfl,rfl,by omega,by omega,by omega,b4,fun i h1 h2=>no _ i h1 h2 hb⟩
   ·rintro c st' ⟨l,h,rfl,rfl,b1,b2,b3,b4,b5⟩
    exact wpS_pure (q h b2 (fun i hi=>b4 i (by omega)) b5)
end
section
variable {κ:PyProof.Rows.KeyKind}
def kS(κ:PyProof.Rows.KeyKind)(l:List Keyed):Prop:=l.Pairwise fun p q=>κ.kle (kyd κ p) (kyd κ q)
def kLe(κ:PyProof.Rows.KeyKind)(l m:List Keyed):Prop:=∀x∈l,∀y∈m,κ.kle (kyd κ x) (kyd κ y)
theorem ZbW{l m:List Keyed}(a:kS κ l)(b:kS κ m)(c:kLe κ l m):kS κ (l++m):=List.pairwise_append.mpr ⟨a,b,c⟩
theorem Zd0{l l' m:List Keyed}(a:kLe κ l m)(b:kLe κ l' m):kLe κ (l++l') m:=fun x hx y hy=>(Qm.mp hx).elim (fun h=>a x h y hy) fun h=>b x h y hy
theorem ZhE{l m m':List Keyed}(a:kLe κ l m)(b:kLe κ l m'):kLe κ l (m++m'):=fun x hx y hy=>(Qm.mp hy).elim (fun h=>a x hx y h) fun h=>b x hx y h
structure Mg (κ:PyProof.Rows.KeyKind) (all out l m:List Keyed):Prop where
 perm:(out++(l++m)).Perm all
 so:kS κ out
 sl:kS κ l
 sm:kS κ m
 ol:kLe κ out l
 om:kLe κ out m
theorem Mg.swap{all out l m:List Keyed}(M:Mg κ all out l m):Mg κ all out m l:=⟨(List.Perm.append_left _ List.perm_append_comm).trans M.perm,M.so,M.sm,M.sl,M.om,M.ol⟩
theorem Mg.put{all out x l m:List Keyed}(M:Mg κ all out (x++l) m)(h:kLe κ x m):Mg κ all (out++x) l m:=by
 have p:=QaF.mp M.sl
 refine⟨?_,ZbW M.so p.1 fun a ha b hb=>M.ol a ha b (Qv _ hb),p.2.1,M.sm,Zd0 (fun a ha b hb=>M.ol a ha b (Qf _ hb)) p.2.2,Zd0 M.om h⟩
 have:=M.perm
 simpa [List.append_assoc] using this
theorem Mg.fin{all out l m:List Keyed}(M:Mg κ all out l m)(h:kLe κ l m):(out++l++m).Perm all∧kS κ (out++l++m) :=
 ⟨by rw[QS];exact M.perm,ZbW (ZbW M.so M.sl M.ol) M.sm (Zd0 M.om h)⟩
structure Mh (κ:PyProof.Rows.KeyKind) (all l m out:List Keyed):Prop where
 perm:((l++m)++out).Perm all
 so:kS κ out
 sl:kS κ l
 sm:kS κ m
 lo:kLe κ l out
 mo:kLe κ m out
theorem Mh.swap{all out l m:List Keyed}(M:Mh κ all l m out):Mh κ all m l out:=⟨(Qa0 _ List.perm_append_comm).trans M.perm,M.so,M.sm,M.sl,M.mo,M.lo⟩
theorem Mh.put{all out x l m:List Keyed}(M:Mh κ all m (l++x) out)(h:kLe κ m x):Mh κ all m l (x++out):=by
 have p:=QaF.mp M.sm
 refine⟨?_,ZbW p.2.1 M.so fun a ha b hb=>M.mo a (Qf _ ha) b hb,M.sl,p.1,ZhE h M.lo,ZhE p.2.2 fun a ha b hb=>M.mo a (Qv _ ha) b hb⟩
 have:=M.perm
 simpa [List.append_assoc] using this
theorem Mh.fin{all out l m:List Keyed}(M:Mh κ all l m out)(h:kLe κ l m):(l++m++out).Perm all∧kS κ (l++m++out) :=
 ⟨M.perm,ZbW (ZbW M.sl M.sm h) M.so (Zd0 M.lo M.mo)⟩
theorem Zaf{a:Array Keyed}{i:Nat}(h:i<a.size):a[i]? = some a[i]:=Array.getElem?_eq_getElem h
theorem Z7{a:Array Keyed}{i:Nat}(h:i<a.size):KK κ a i=kyd κ a[i]:=Zmo (Zaf h)
theorem ZbZ{a:Array Keyed}{i:Nat}{y:Keyed}(h:y∈a.toList.drop i):∃j,i≤j∧j<a.size∧kyd κ y=KK κ a j:=by
 obtain⟨j,hj,e⟩:=Qad.mp h
 rw[QI,QE]at hj
 refine⟨i+j,by omega,by omega,?_⟩
 rw[Z7 (by omega),← e,QaB,QX]
theorem ZgQ{a:Array Keyed}{i k:Nat}{y:Keyed}(h:y∈(a.toList.drop i).take k):∃j,i≤j∧j<i+k∧j<a.size∧kyd κ y=KK κ a j:=by
 obtain⟨j,hj,e⟩:=Qad.mp h
 rw[Qq,QI,QE]at hj
 refine⟨i+j,by omega,by omega,by omega,?_⟩
 rw[Z7 (by omega),← e,QaC,QaB,QX]
theorem ZbJ(a:Array Keyed)(i j:Nat):(a.extract i j).toList=(a.toList.drop i).take (j-i):=by
 rw[Array.toList_extract,List.extract_eq_take_drop]
theorem ZeK(a:Array Keyed)(i:Nat):(a.extract i a.size).toList=a.toList.drop i:=by
 rw[ZbJ,Qu (by rw[QI,QE];exact Qg _)]
theorem ZgF(a:Array Keyed)(j:Nat):(a.extract 0 j).toList=a.toList.take j:=by rw[ZbJ,List.drop_zero,Nat.sub_zero]
theorem ZfA{a:Array Keyed}(h:kS κ a.toList):SortedToK κ a a.size:=fun i j hij hj=>by
 rw[Z7 (by omega),Z7 hj]
 by_cases e:i=j
 ·subst e;exact KeyOrd.kle_refl _
 ·have:=QaN.mp h i j (by rw[QE];omega) (by rw[QE];omega) (by omega)
  simpa using this
theorem ZhF{a:Array Keyed}{i:Nat}(h:i<a.size):a.toList.drop i=[a[i]]++a.toList.drop (i+1):=by
 rw[List.drop_eq_getElem_cons (by rw[QE];exact h),QX];rfl
theorem Zie{a:Array Keyed}{i:Nat}(h:i<a.size):a.toList.take (i+1)=a.toList.take i++[a[i]]:=by
 rw[List.take_succ_eq_append_getElem (by rw[QE];exact h),QX]
theorem Zjw{a:Array Keyed}{i:Nat}(h:a.size≤i):a.toList.drop i=[]:=List.drop_eq_nil_of_le (by rw[QE];exact h)
theorem Zb1{a:Array Keyed}{i:Nat}{y:Keyed}(h:y∈a.toList.take i):∃j,j<i∧j<a.size∧kyd κ y=KK κ a j:=by
 obtain⟨j,hj,e⟩:=Qad.mp h
 rw[Qq,QE]at hj
 refine⟨j,by omega,by omega,?_⟩
 rw[Z7 (by omega),← e,QaC,QX]
structure ZdS (κ:PyProof.Rows.KeyKind) (a b:Array Keyed):Prop where
 ha:∀p∈a.toList,Has κ p
 hb:∀p∈b.toList,Has κ p
 sa:kS κ a.toList
 sb:kS κ b.toList
 a0:0<a.size
 b0:0<b.size
 fst:∀i,i<a.size→κ.kle (KK κ b 0) (KK κ a i)
 lst:∀i,i<b.size→κ.kle (KK κ b i) (KK κ a (a.size-1))
theorem ZdS.hasA{a b:Array Keyed}(L:ZdS κ a b){i:Nat}(h:i<a.size):Has κ a[i]:=L.ha _ (by rw[← QX];exact QV _)
theorem ZdS.hasB{a b:Array Keyed}(L:ZdS κ a b){i:Nat}(h:i<b.size):Has κ b[i]:=L.hb _ (by rw[← QX];exact QV _)
def Zdk(κ:PyProof.Rows.KeyKind)(a b r:Array Keyed):Prop:=r.toList.Perm (a.toList++b.toList)∧kS κ r.toList
def Lo(κ:PyProof.Rows.KeyKind)(a b out:Array Keyed)(ia ib:Nat):Prop:=Mg κ (a.toList++b.toList) out.toList (a.toList.drop ia) (b.toList.drop ib)
variable {a b out:Array Keyed} {ia ib:Nat}
theorem Lo.takeA(M:Lo κ a b out ia ib)(k:Nat)(h:∀i j,ia≤i→i<ia+k→i<a.size→ib≤j→j<b.size→κ.kle (KK κ a i) (KK κ b j)):Lo κ a b (out++a.extract ia (ia+k)) (ia+k) ib:=by
 unfold Lo at M ⊢
 rw[← QY k (a.toList.drop ia),List.drop_drop]at M
 have:=M.put fun x hx y hy=>by
  obtain⟨i,i1,i2,i3,e⟩:=ZgQ (κ:=κ) hx
  obtain⟨j,j1,j2,f⟩:=ZbZ (κ:=κ) hy
  rw[e,f]
  exact h i j i1 i2 i3 j1 j2
 rw[QO,ZbJ,show ia+k-ia=k by omega]
 exact this
theorem Lo.takeB(M:Lo κ a b out ia ib)(k:Nat)(h:∀i j,ib≤i→i<ib+k→i<b.size→ia≤j→j<a.size→κ.kle (KK κ b i) (KK κ a j)):Lo κ a b (out++b.extract ib (ib+k)) ia (ib+k):=by
 unfold Lo at M ⊢
 rw[← QY k (b.toList.drop ib),List.drop_drop]at M
 have:=(M.swap.put fun x hx y hy=>by
  obtain⟨i,i1,i2,i3,e⟩:=ZgQ (κ:=κ) hx
  obtain⟨j,j1,j2,f⟩:=ZbZ (κ:=κ) hy
  rw[e,f]
  exact h i j i1 i2 i3 j1 j2).swap
 rw[QO,ZbJ,show ib+k-ib=k by omega]
 exact this
theorem Lo.pushA(M:Lo κ a b out ia ib)(hi:ia<a.size)(h:∀j,ib≤j→j<b.size→κ.kle (KK κ a ia) (KK κ b j)):Lo κ a b (out.push a[ia]) (ia+1) ib:=by
 unfold Lo at M ⊢
 rw[ZhF hi]at M
 rw[Qao]
 exact M.put fun x hx y hy=>by
  obtain⟨j,j1,j2,f⟩:=ZbZ (κ:=κ) hy
  rw[Qk.mp hx,f,← Z7 hi]
  exact h j j1 j2
theorem Lo.pushB(M:Lo κ a b out ia ib)(hi:ib<b.size)(h:∀j,ia≤j→j<a.size→κ.kle (KK κ b ib) (KK κ a j)):Lo κ a b (out.push b[ib]) ia (ib+1):=by
 unfold Lo at M ⊢
 rw[ZhF hi]at M
 rw[Qao]
 exact(M.swap.put fun x hx y hy=>by
  obtain⟨j,j1,j2,f⟩:=ZbZ (κ:=κ) hy
  rw[Qk.mp hx,f,← Z7 hi]
  exact h j j1 j2).swap
theorem Lo.done(M:Lo κ a b out ia ib)(h:a.size≤ia∨b.size≤ib):Zdk κ a b (out++a.extract ia a.size++b.extract ib b.size):=by
 unfold Lo at M
 have e:(out++a.extract ia a.size++b.extract ib b.size).toList=out.toList++a.toList.drop ia++b.toList.drop ib:=by rw[QO,QO,ZeK,ZeK]
 unfold Zdk
 rw[e]
 refine M.fin fun x hx y hy=>?_
 rcases h with h|h
 ·rw[Zjw h]at hx;cases hx
 ·rw[Zjw h]at hy;cases hy
theorem Lo.last(M:Lo κ a b out ia ib)(L:ZdS κ a b)(h:ia+1=a.size):Zdk κ a b (out++b.extract ib b.size++a.extract ia a.size):=by
 unfold Lo at M
 have e:(out++b.extract ib b.size++a.extract ia a.size).toList=out.toList++b.toList.drop ib++a.toList.drop ia:=by rw[QO,QO,ZeK,ZeK]
 unfold Zdk
 rw[e]
 refine M.swap.fin fun x hx y hy=>?_
 obtain⟨i,i1,i2,e1⟩:=ZbZ (κ:=κ) hx
 obtain⟨j,j1,j2,e2⟩:=ZbZ (κ:=κ) hy
 rw[e1,e2,show j=a.size-1 by omega]
 exact L.lst i i2
def Hi(κ:PyProof.Rows.KeyKind)(a b out:Array Keyed)(na nb:Nat):Prop:=Mh κ (a.toList++b.toList) (a.toList.take na) (b.toList.take nb) out.toList.reverse
variable {na nb:Nat}
theorem ZhC(a:Array Keyed){k n:Nat}(h:k≤n):a.toList.take n=a.toList.take k++(a.extract k n).toList:=by
 rw[ZbJ,← List.drop_take]
 have:=QY k (List.take n a.toList)
 rw[List.take_take,QaV h]at this
 exact this.symm
theorem Zh5{a:Array Keyed}{i k:Nat}{y:Keyed}(h:y∈(a.extract i k).toList):∃j,i≤j∧j<k∧j<a.size∧kyd κ y=KK κ a j:=by
 rw[ZbJ]at h
 obtain⟨j,j1,j2,j3,e⟩:=ZgQ (κ:=κ) h
 exact⟨j,j1,by omega,j3,e⟩
theorem Hi.takeB(M:Hi κ a b out na nb)(k:Nat)(hk:k≤nb)(h:∀i j,i<na→i<a.size→k≤j→j<nb→j<b.size→κ.kle (KK κ a i) (KK κ b j)):Hi κ a b (out++(b.extract k nb).reverse) na k:=by
 unfold Hi at M ⊢
 rw[ZhC b hk]at M
 have:=M.put fun x hx y hy=>by
  obtain⟨i,i1,i2,e⟩:=Zb1 (κ:=κ) hx
  obtain⟨j,j1,j2,j3,f⟩:=Zh5 (κ:=κ) hy
  rw[e,f]
  exact h i j i1 i2 j1 j2 j3
 rw[QO,QaG,QaP,List.reverse_reverse]
 exact this
theorem Hi.takeA(M:Hi κ a b out na nb)(k:Nat)(hk:k≤na)(h:∀i j,i<nb→i<b.size→k≤j→j<na→j<a.size→κ.kle (KK κ b i) (KK κ a j)):Hi κ a b (out++(a.extract k na).reverse) k nb:=by
 unfold Hi at M ⊢
 rw[ZhC a hk]at M
 have:=(M.swap.put fun x hx y hy=>by
  obtain⟨i,i1,i2,e⟩:=Zb1 (κ:=κ) hx
  obtain⟨j,j1,j2,j3,f⟩:=Zh5 (κ:=κ) hy
  rw[e,f]
  exact h i j i1 i2 j1 j2 j3).swap
 rw[QO,QaG,QaP,List.reverse_reverse]
 exact this
theorem Hi.pushB(M:Hi κ a b out na (nb+1))(hb:nb<b.size)(h:∀i,i<na→i<a.size→κ.kle (KK κ a i) (KK κ b nb)):Hi κ a b (out.push b[nb]) na nb:=by
 unfold Hi at M ⊢
 rw[Zie hb]at M
 rw[Qao,QaP]
 exact M.put fun x hx y hy=>by
  obtain⟨i,i1,i2,e⟩:=Zb1 (κ:=κ) hx
  rw[Qk.mp hy,e,← Z7 hb]
  exact h i i1 i2
theorem Hi.pushA(M:Hi κ a b out (na+1) nb)(hb:na<a.size)(h:∀i,i<nb→i<b.size→κ.kle (KK κ b i) (KK κ a na)):Hi κ a b (out.push a[na]) na nb:=by
 unfold Hi at M ⊢
 rw[Zie hb]at M
 rw[Qao,QaP]
 exact(M.swap.put fun x hx y hy=>by
  obtain⟨i,i1,i2,e⟩:=Zb1 (κ:=κ) hx
  rw[Qk.mp hy,e,← Z7 hb]
  exact h i i1 i2).swap
theorem Hi.done(M:Hi κ a b out na nb)(h:na=0∨nb=0):Zdk κ a b (a.extract 0 na++b.extract 0 nb++out.reverse):=by
 unfold Hi at M
 have e:(a.extract 0 na++b.extract 0 nb++out.reverse).toList=a.toList.take na++b.toList.take nb++out.toList.reverse:=by rw[QO,QO,ZgF,ZgF,QaG]
 unfold Zdk
 rw[e]
 refine M.fin fun x hx y hy=>?_
 rcases h with h|h
 ·rw[h]at hx;cases hx
 ·rw[h]at hy;cases hy
theorem Hi.first(M:Hi κ a b out na nb)(L:ZdS κ a b)(h:nb=1):Zdk κ a b (b.extract 0 nb++a.extract 0 na++out.reverse):=by
 unfold Hi at M
 have e:(b.extract 0 nb++a.extract 0 na++out.reverse).toList=b.toList.take nb++a.toList.take na++out.toList.reverse:=by rw[QO,QO,ZgF,ZgF,QaG]
 unfold Zdk
 rw[e]
 refine M.swap.fin fun x hx y hy=>?_
 obtain⟨i,i1,i2,e1⟩:=Zb1 (κ:=κ) hx
 obtain⟨j,j1,j2,e2⟩:=Zb1 (κ:=κ) hy
 rw[e1,e2,show i=0 by omega]
 exact L.fst j j2
end
def mergeLo':Array Keyed→Array Keyed→StateT SortSt Sem (Array Keyed):=sortPriv% PySem.Builtin.mergeLo
def mergeHi':Array Keyed→Array Keyed→StateT SortSt Sem (Array Keyed):=sortPriv% PySem.Builtin.mergeHi
def Sm(st st':SortSt):Prop:=kindOf st'=kindOf st∧arrOf st'=arrOf st∧pendingOf st'=pendingOf st∧failedOf st'=failedOf st
theorem Sm.rfl{st:SortSt}:Sm st st:=⟨Eq.refl _,Eq.refl _,Eq.refl _,Eq.refl _⟩
theorem Sm.trans{a b c:SortSt}(h:Sm a b)(h':Sm b c):Sm a c:=⟨h'.1.trans h.1,h'.2.1.trans h.2.1,h'.2.2.1.trans h.2.2.1,h'.2.2.2.trans h.2.2.2⟩
section
variable {prog:Program} {w:World} {A:Around} {E:Value→Shared→Prop} {s:Shared} {κ:PyProof.Rows.KeyKind} {k0:SortKind} {st:SortSt} {α β γ:Type}
theorem w_jp{c:Prop}[Decidable c]{x:β}{y:γ}{X Y:β→γ→StateT SortSt Sem α}{Q:α→SortSt→Prop}(P:β→γ→Prop)(H:∀o i,P o i→wpS (model prog w) A E s (Y o i) Q st)
  (hX:(∀o i,P o i→wpS (model prog w) A E s (Y o i) Q st)→c→wpS (model prog w) A E s (X x y) Q st) (hY:¬ c→P x y):∀o,x=o→∀i,y=i→wpS (model prog w) A E s (if c then X o i else Y o i) Q st:=by
 rintro _ rfl _ rfl
 by_cases h:c
 ·rw[if_pos h];exact hX H h
 ·rw[if_neg h];exact H x y (hY h)
theorem w_jp1{X Y:Nat→StateT SortSt Sem α}{Q:α→SortSt→Prop}(e:∀g,X g=Y (g-1))(H:∀g,wpS (model prog w) A E s (Y g) Q st):∀g,wpS (model prog w) A E s (if g>1 then X g else Y g) Q st:=by
 intro g
 by_cases h:g>1
 ·rw[if_pos h,e];exact H _
 ·rw[if_neg h];exact H g
theorem w_mg{m:StateT SortSt Sem PUnit}{g:Nat}(hm:m=modify fun s=>SortSt.mk' (kindOf s) (arrOf s) (pendingOf s) g (failedOf s)){Q:PUnit→SortSt→Prop}(q:∀st',Sm st st'→Q ⟨⟩ st'):wpS (model prog w) A E s m Q st:=by
 rw[hm]
 exact wpS_modify (q _ ⟨rfl,rfl,rfl,rfl⟩)
theorem w_bq{x y:Nat}{X Y:StateT SortSt Sem α}{Q:α→SortSt→Prop}(hX:x=y→wpS (model prog w) A E s X Q st)(hY:x≠y→wpS (model prog w) A E s Y Q st):wpS (model prog w) A E s (if (x == y)=true then X else Y) Q st:=by
 by_cases h:x=y
 ·rw[if_pos (by rw[h];exact beq_self_eq_true _)];exact hX h
 ·rw[if_neg (by intro z;exact h (eq_of_beq z))];exact hY h
theorem w_if{c:Prop}[Decidable c]{X Y:StateT SortSt Sem α}{Q:α→SortSt→Prop}(hX:c→wpS (model prog w) A E s X Q st)(hY:¬ c→wpS (model prog w) A E s Y Q st):wpS (model prog w) A E s (if c then X else Y) Q st:=by
 by_cases h:c
 ·rw[if_pos h];exact hX h
 ·rw[if_neg h];exact hY h
def Zmh(κ:PyProof.Rows.KeyKind)(a b:Array Keyed)(t:Nat)(out:Array Keyed)(ia ib:Nat):Prop:=Lo κ a b out ia ib∧ia+1<a.size∧ib<b.size∧t≤ia+ib
theorem w_lo(hL:ZdY prog w A s k0 κ)(hK:kindOf st=k0){a b:Array Keyed}(L:ZdS κ a b){Q:Array Keyed→SortSt→Prop}(q:∀r st',Zdk κ a b r→Sm st st'→Q r st'):wpS (model prog w) A E s (mergeLo' a b) Q st:=by
 have sA:=ZfA L.sa
 have sB:=ZfA L.sb
 show wpS _ _ _ _ (liftM (rule _) >>= _) _ _
 refine wpS_bind (wpS_lift (wpAny_rule ⟨rfl,?_⟩))
 refine wpS_bind (w_elem (Zaf L.b0) ?_)
 have M0:Lo κ a b #[b[0]'L.b0] 0 1:=by
  have h0:Lo κ a b #[] 0 0:=⟨by simp,List.Pairwise.nil,by simpa using L.sa,by simpa using L.sb,(fun x hx=>by cases hx),(fun x hx=>by cases hx)⟩
  exact h0.pushB L.b0 fun j _ hj=>L.fst j hj
 refine w_bq (fun h=>wpS_pure (q _ _ (M0.done (.inr (by omega))) Sm.rfl)) fun hb=>?_
 refine w_bq (fun h=>wpS_pure (q _ _ (M0.last L h) Sm.rfl)) fun ha=>?_
 have a0:=L.a0
 have b0:=L.b0
 refine wpS_bind (wpS_get ?_)
 refine wpS_bind (wpS_mono (wpS_forRange (fun i c st'=>∃out ia ib g,c=(none,out,ia,ib,g)∧Sm st st'∧Zmh κ a b (i+1) out ia ib) (Q:=fun c st'=>∃r z,c=(some r,z)∧Zdk κ a b r∧Sm st st') ?_ ?_ ⟨_,0,1,_,rfl,Sm.rfl,M0,by omega,by omega,by omega⟩) ?_)
 ·rintro t c st1 _ ht ⟨out,ia,ib,g,rfl,S1,I1⟩
  dsimp only
  show wpS _ _ _ _ (forIn [:a.size+b.size] (none,out,ia,ib,0,0) _ >>= _) _ _
  refine wpS_bind (wpS_mono (wpS_forRange (fun i c st'=>∃out ia ib x y,c=(none,out,ia,ib,x,y)∧Sm st st'∧Zmh κ a b (t+1+i) out ia ib)
   (Q:=fun c st'=>Sm st st'∧∃out ia ib x y,(∃r,c=(some r,out,ia,ib,x,y)∧Zdk κ a b r)∨(c=(none,out,ia,ib,x,y)∧Zmh κ a b (t+2) out ia ib)) ?_ ?_ ⟨out,ia,ib,0,0,rfl,S1,I1⟩) ?_)
  ·rintro i c st2 _ hi ⟨out,ia,ib,x,y,rfl,S2,M,h1,h2,h3⟩
   dsimp only
   refine wpS_bind (w_elem (Zaf h2) (wpS_bind (w_elem (Zaf (show ia<a.size by omega)) (wpS_bind (w_ltp hL (S2.1.trans hK) (L.hasB h2) (L.hasA (by omega)) ?_)))))
   rw[← Z7,← Z7]
   cases hb:κ.blt (KK κ b ib) (KK κ a ia) with
   | true =>
    have M':=M.pushB h2 fun j j1 j2=>KeyOrd.kle_trans (KeyOrd.kle_of_klt hb) (sA ia j j1 j2)
    refine wpS_bind (w_elem (Zaf h2) ?_)
    refine w_bq (fun h=>wpS_pure ⟨S2,_,_,_,_,_,.inl ⟨_,rfl,M'.done (.inr (by omega))⟩⟩) fun hne=>?_
    refine w_if (fun _=>wpS_pure ⟨S2,_,_,_,_,_,.inr ⟨rfl,M',by omega,by omega,by omega⟩⟩) fun _=>wpS_pure ⟨_,_,_,_,_,rfl,S2,M',by omega,by omega,by omega⟩
   | false =>
    have M':=M.pushA (by omega) fun j j1 j2=>KeyOrd.kle_trans (show κ.kle (KK κ a ia) (KK κ b ib) from hb) (sB ib j j1 j2)
    refine wpS_bind (w_elem (Zaf (show ia<a.size by omega)) ?_)
    refine w_bq (fun h=>wpS_pure ⟨S2,_,_,_,_,_,.inl ⟨_,rfl,M'.last L h⟩⟩) fun hne=>?_
    refine w_if (fun _=>wpS_pure ⟨S2,_,_,_,_,_,.inr ⟨rfl,M',by omega,by omega,by omega⟩⟩) fun _=>wpS_pure ⟨_,_,_,_,_,rfl,S2,M',by omega,by omega,by omega⟩
  ·rintro c st2 ⟨out,ia,ib,x,y,rfl,S2,M,h1,h2,h3⟩
   exact⟨S2,_,_,_,_,_,.inr ⟨rfl,M,h1,h2,by omega⟩⟩
  ·rintro c st2 ⟨S2,out,ia,ib,x,y,⟨r,rfl,hr⟩|⟨rfl,I2⟩⟩
   ·exact wpS_pure ⟨r,_,rfl,hr,S2⟩
   dsimp only
   refine wpS_bind (wpS_lift (wpAny_rule ⟨rfl,?_⟩))
   show wpS _ _ _ _ (forIn [:a.size+b.size] (none,out,ia,ib,g+1,x,y) _ >>= _) _ _
   refine wpS_bind (wpS_mono (wpS_forRange (fun i c st'=>∃out ia ib g x y,c=(none,out,ia,ib,g,x,y)∧Sm st st'∧Zmh κ a b (t+2) out ia ib)
    (Q:=fun c st'=>Sm st st'∧∃out ia ib g x y,(∃r,c=(some r,out,ia,ib,g,x,y)∧Zdk κ a b r)∨(c=(none,out,ia,ib,g,x,y)∧Zmh κ a b (t+2) out ia ib)) ?_ ?_ ⟨out,ia,ib,g+1,x,y,rfl,S2,I2⟩) ?_)
   ·rintro i c st3 _ hi ⟨out,ia,ib,g,x,y,rfl,S3,M,h1,h2,h3⟩
    dsimp only
    revert g
    refine w_jp1 (fun _=>rfl) ?_
    rintro g
    refine wpS_bind (w_mg (g:=g) rfl fun st4 S4=>?_)
    have S4':=S3.trans S4
    refine wpS_bind (w_elem (Zaf h2) (wpS_bind ?_))
    refine w_gallop hL (S4'.1.trans hK) (B:=fun i=>!κ.blt (KK κ b ib) (KK κ a (ia+i))) (by omega) (L.hasB h2) (fun i hi=>⟨a[ia+i]'(by omega),Zaf (by omega),L.hasA (by omega),by rw[Z7 h2,Z7 (show ia+i<a.size by omega)];rfl⟩) (fun i j hij hj hB=>?_) fun k hk k1 k2=>?_
    ·have z:κ.kle (KK κ a (ia+j)) (KK κ b ib):=by simpa [KeyOrd.kle] using hB
     have:=KeyOrd.kle_trans (sA (ia+i) (ia+j) (by omega) (by omega)) z
     simpa [KeyOrd.kle] using this
    have k1':∀i,ia≤i→i<ia+k→κ.kle (KK κ a i) (KK κ b ib):=fun i i1 i2=>by
     have:=k1 (i-ia) (by omega)
     rw[show ia+(i-ia)=i by omega]at this
     simpa [KeyOrd.kle] using this
    have k2':∀i,ia+k≤i→i<a.size→κ.kle (KK κ b ib) (KK κ a i):=fun i i1 i2=>by
     have:=k2 (i-ia) (by omega) (by omega)
     rw[show ia+(i-ia)=i by omega]at this
     exact KeyOrd.kle_of_klt (show κ.blt _ _=true by simpa using this)
    generalize ho:out=o
    generalize hi:ia=i
    revert i hi
    revert o ho
    refine w_jp (fun out' ia'=>Lo κ a b out' ia' ib∧ia'+1<a.size∧ia≤ia'∧∀i,ia'≤i→i<a.size→κ.kle (KK κ b ib) (KK κ a i)) ?_ ?_ ?_
    ·rintro out' ia' ⟨M1,g1,g0,g2⟩
     show wpS _ _ _ _ (_ >>= _) _ _
     refine wpS_bind (w_elem (Zaf h2) ?_)
     have M2:=M1.pushB h2 g2
     refine w_bq (fun h=>wpS_pure ⟨S4',_,_,_,_,_,_,.inl ⟨_,rfl,M2.done (.inr (by omega))⟩⟩) fun hne=>?_
     refine wpS_bind (w_elem (Zaf (show ia'<a.size by omega)) (wpS_bind ?_))
     refine w_gallop hL (S4'.1.trans hK) (B:=fun i=>κ.blt (KK κ b (ib+1+i)) (KK κ a ia')) (by omega) (L.hasA (by omega)) (fun i hi=>⟨b[ib+1+i]'(by omega),Zaf (by omega),L.hasB (by omega),by rw[Z7 (show ia'<a.size by omega),Z7 (show ib+1+i<b.size by omega)];rfl⟩) (fun i j hij hj hB=>KeyOrd.klt_of_kle_of_klt (sB _ _ (by omega) (by omega)) hB) fun m hm m1 m2=>?_
     have m2':∀i,ib+1+m≤i→i<b.size→κ.kle (KK κ a ia') (KK κ b i):=fun i i1 i2=>by
      have:=m2 (i-(ib+1)) (by omega) (by omega)
      rw[show ib+1+(i-(ib+1))=i by omega]at this
      exact this
     have e1:ib<ib+1:=Qa3 _
     have e2:ib+1≤b.size:=h2
     generalize ho:out'.push b[ib]=o
     generalize hi:ib+1=i
     revert i hi
     revert o ho
     refine w_jp (fun o2 ib2=>Lo κ a b o2 ia' ib2∧ib2<b.size∧ib+1≤ib2∧∀i,ib2≤i→i<b.size→κ.kle (KK κ a ia') (KK κ b i)) ?_ ?_ ?_
     ·rintro o2 ib2 ⟨M3,n1,n0,n2⟩
      refine wpS_bind (w_elem (Zaf (show ia'<a.size by omega)) ?_)
      have M4:=M3.pushA (by omega) n2
      refine w_bq (fun h=>wpS_pure ⟨S4',_,_,_,_,_,_,.inl ⟨_,rfl,M4.last L h⟩⟩) fun hne2=>?_
      exact w_if (fun _=>wpS_pure ⟨S4',_,_,_,_,_,_,.inr ⟨rfl,M4,by omega,by omega,by omega⟩⟩) fun _=>wpS_pure ⟨_,_,_,_,_,_,rfl,S4',M4,by omega,by omega,by omega⟩
     ·intro H hm0
      have M3:=M2.takeB m fun i j l1 l2 l3 j1 j2=>by
       have:=m1 (i-(ib+1)) (by omega)
       rw[show ib+1+(i-(ib+1))=i by omega]at this
       exact KeyOrd.kle_trans (KeyOrd.kle_of_klt this) (sA ia' j j1 j2)
      refine w_bq (fun h=>wpS_pure ⟨S4',_,_,_,_,_,_,.inl ⟨_,rfl,M3.done (.inr (by omega))⟩⟩) fun hne2=>?_
      exact H _ _ ⟨M3,by omega,by omega,fun i j1 j2=>m2' i j1 j2⟩
     ·exact fun hm0=>⟨M2,by omega,Qg _,fun i l1 l2=>m2' i (by omega) l2⟩
    ·intro H hk0
     have M1:=M.takeA k fun i j i1 i2 i3 j1 j2=>KeyOrd.kle_trans (k1' i i1 i2) (sB ib j j1 j2)
     refine w_bq (fun h=>wpS_pure ⟨S4',_,_,_,_,_,_,.inl ⟨_,rfl,M1.last L h⟩⟩) fun hne=>?_
     refine w_bq (fun h=>wpS_pure ⟨S4',_,_,_,_,_,_,.inl ⟨_,rfl,M1.done (.inl (by omega))⟩⟩) fun hne2=>?_
     exact H _ _ ⟨M1,by omega,by omega,fun i j1 j2=>k2' i j1 j2⟩
    ·exact fun hk0=>⟨M,h1,Qg _,fun i i1 i2=>k2' i (by omega) i2⟩
   ·rintro c st3 ⟨out,ia,ib,g,x,y,rfl,S3,I3⟩
    exact⟨S3,_,_,_,_,_,_,.inr ⟨rfl,I3⟩⟩
   ·rintro c st3 ⟨S3,out,ia,ib,g,x,y,⟨r,rfl,hr⟩|⟨rfl,I3⟩⟩
    ·exact wpS_pure ⟨r,_,rfl,hr,S3⟩
    ·dsimp only
     exact wpS_bind (w_mg (g:=g+1) rfl fun st4 S4=>wpS_pure ⟨_,_,_,_,rfl,S3.trans S4,I3⟩)
 ·rintro c st1 ⟨out,ia,ib,g,rfl,S1,M,h1,h2,h3⟩
  omega
 ·rintro c st1 ⟨r,z,rfl,hr,S1⟩
  exact wpS_pure (q r _ hr S1)
end
section
variable {prog:Program} {w:World} {A:Around} {E:Value→Shared→Prop} {s:Shared} {κ:PyProof.Rows.KeyKind} {k0:SortKind} {st:SortSt} {α β γ:Type} {a b out:Array Keyed} {na nb:Nat}
theorem Hi.putA(M:Hi κ a b out na nb)(h0:0<na)(ha:na-1<a.size)(h:∀i,i<nb→i<b.size→κ.kle (KK κ b i) (KK κ a (na-1))):Hi κ a b (out.push a[na-1]) (na-1) nb:=by
 obtain⟨n,rfl⟩:∃n,na=n+1:=⟨na-1,by omega⟩
 exact M.pushA ha h
theorem Hi.putB(M:Hi κ a b out na nb)(h0:0<nb)(hb:nb-1<b.size)(h:∀i,i<na→i<a.size→κ.kle (KK κ a i) (KK κ b (nb-1))):Hi κ a b (out.push b[nb-1]) na (nb-1):=by
 obtain⟨n,rfl⟩:∃n,nb=n+1:=⟨nb-1,by omega⟩
 exact M.pushB hb h
def ZlO(κ:PyProof.Rows.KeyKind)(a b:Array Keyed)(t:Nat)(out:Array Keyed)(na nb:Nat):Prop:=Hi κ a b out na nb∧0<na∧1<nb∧na≤a.size∧nb≤b.size∧na+nb+t≤a.size+b.size
theorem w_hi(hL:ZdY prog w A s k0 κ)(hK:kindOf st=k0)(L:ZdS κ a b){Q:Array Keyed→SortSt→Prop}(q:∀r st',Zdk κ a b r→Sm st st'→Q r st'):wpS (model prog w) A E s (mergeHi' a b) Q st:=by
 have sA:=ZfA L.sa
 have sB:=ZfA L.sb
 have a0:=L.a0
 have b0:=L.b0
 show wpS _ _ _ _ (liftM (rule _) >>= _) _ _
 refine wpS_bind (wpS_lift (wpAny_rule ⟨rfl,?_⟩))
 refine wpS_bind (w_elem (Zaf (show a.size-1<a.size by omega)) ?_)
 have M0:Hi κ a b #[a[a.size-1]] (a.size-1) b.size:=by
  have h0:Hi κ a b #[] a.size b.size:=⟨by simp[List.take_of_length_le],List.Pairwise.nil,by simpa [List.take_of_length_le] using L.sa,by simpa [List.take_of_length_le] using L.sb,(fun x _ y hy=>by cases hy),(fun x _ y hy=>by cases hy)⟩
  exact h0.putA a0 (by omega) fun i _ hi=>L.lst i hi
 refine w_bq (fun h=>wpS_pure (q _ _ (M0.done (.inl h)) Sm.rfl)) fun ha=>?_
 refine w_bq (fun h=>wpS_pure (q _ _ (M0.first L h) Sm.rfl)) fun hb=>?_
 refine wpS_bind (wpS_get ?_)
 refine wpS_bind (wpS_mono (wpS_forRange (fun i c st'=>∃na nb out g,c=(none,na,nb,out,g)∧Sm st st'∧ZlO κ a b (i+1) out na nb) (Q:=fun c st'=>∃r z,c=(some r,z)∧Zdk κ a b r∧Sm st st') ?_ ?_ ⟨_,_,_,_,rfl,Sm.rfl,M0,by omega,by omega,by omega,by omega,by omega⟩) ?_)
 ·rintro t c st1 _ ht ⟨na,nb,out,g,rfl,S1,I1⟩
  dsimp only
  refine wpS_bind (wpS_mono (wpS_forRange (fun i c st'=>∃na nb out x y,c=(none,na,nb,out,x,y)∧Sm st st'∧ZlO κ a b (t+1+i) out na nb)
   (Q:=fun c st'=>Sm st st'∧∃na nb out x y,(∃r,c=(some r,na,nb,out,x,y)∧Zdk κ a b r)∨(c=(none,na,nb,out,x,y)∧ZlO κ a b (t+2) out na nb)) ?_ ?_ ⟨na,nb,out,0,0,rfl,S1,I1⟩) ?_)
  ·rintro i c st2 _ hi ⟨na,nb,out,x,y,rfl,S2,M,h1,h2,h3,h4,h5⟩
   dsimp only
   refine wpS_bind (w_elem (Zaf (show nb-1<b.size by omega)) (wpS_bind (w_elem (Zaf (show na-1<a.size by omega)) (wpS_bind (w_ltp hL (S2.1.trans hK) (L.hasB (by omega)) (L.hasA (by omega)) ?_)))))
   rw[← Z7,← Z7]
   cases hb:κ.blt (KK κ b (nb-1)) (KK κ a (na-1)) with
   | true =>
    have M':=M.putA h1 (by omega) fun i j1 j2=>KeyOrd.kle_trans (sB i (nb-1) (by omega) (by omega)) (KeyOrd.kle_of_klt hb)
    refine wpS_bind (w_elem (Zaf (show na-1<a.size by omega)) ?_)
    refine w_bq (fun h=>wpS_pure ⟨S2,_,_,_,_,_,.inl ⟨_,rfl,M'.done (.inl h)⟩⟩) fun hne=>?_
    exact w_if (fun _=>wpS_pure ⟨S2,_,_,_,_,_,.inr ⟨rfl,M',by omega,by omega,by omega,by omega,by omega⟩⟩) fun _=>wpS_pure ⟨_,_,_,_,_,rfl,S2,M',by omega,by omega,by omega,by omega,by omega⟩
   | false =>
    have M':=M.putB (by omega) (by omega) fun i j1 j2=>KeyOrd.kle_trans (sA i (na-1) (by omega) (by omega)) (show κ.kle (KK κ a (na-1)) (KK κ b (nb-1)) from hb)
    refine wpS_bind (w_elem (Zaf (show nb-1<b.size by omega)) ?_)
    refine w_bq (fun h=>wpS_pure ⟨S2,_,_,_,_,_,.inl ⟨_,rfl,M'.first L h⟩⟩) fun hne=>?_
    exact w_if (fun _=>wpS_pure ⟨S2,_,_,_,_,_,.inr ⟨rfl,M',by omega,by omega,by omega,by omega,by omega⟩⟩) fun _=>wpS_pure ⟨_,_,_,_,_,rfl,S2,M',by omega,by omega,by omega,by omega,by omega⟩
  ·rintro c st2 ⟨na,nb,out,x,y,rfl,S2,M,h1,h2,h3,h4,h5⟩
   exact⟨S2,_,_,_,_,_,.inr ⟨rfl,M,h1,h2,h3,h4,by omega⟩⟩
  ·rintro c st2 ⟨S2,na,nb,out,x,y,⟨r,rfl,hr⟩|⟨rfl,I2⟩⟩
   ·exact wpS_pure ⟨r,_,rfl,hr,S2⟩
   dsimp only
   refine wpS_bind (wpS_lift (wpAny_rule ⟨rfl,?_⟩))
   refine wpS_bind (wpS_mono (wpS_forRange (fun i c st'=>∃na nb out g x y,c=(none,na,nb,out,g,x,y)∧Sm st st'∧ZlO κ a b (t+2) out na nb)
    (Q:=fun c st'=>Sm st st'∧∃na nb out g x y,(∃r,c=(some r,na,nb,out,g,x,y)∧Zdk κ a b r)∨(c=(none,na,nb,out,g,x,y)∧ZlO κ a b (t+2) out na nb)) ?_ ?_ ⟨na,nb,out,g+1,x,y,rfl,S2,I2⟩) ?_)
   ·rintro i c st3 _ hi ⟨na,nb,out,g,x,y,rfl,S3,M,h1,h2,h3,h4,h5⟩
    dsimp only
    revert g
    refine w_jp1 (fun _=>rfl) ?_
    rintro g
    refine wpS_bind (w_mg (g:=g) rfl fun st4 S4=>?_)
    have S4':=S3.trans S4
    have hb1:nb-1<b.size:=by omega
    refine wpS_bind (w_elem (Zaf hb1) (wpS_bind ?_))
    refine w_gallop hL (S4'.1.trans hK) (B:=fun i=>!κ.blt (KK κ b (nb-1)) (KK κ a (0+i))) (by omega) (L.hasB hb1) (fun i hi=>⟨a[0+i]'(by omega),Zaf (by omega),L.hasA (by omega),by rw[Z7 hb1,Z7 (show 0+i<a.size by omega)];rfl⟩) (fun i j hij hj hB=>?_) fun f hf k1 k2=>?_
    ·have z:κ.kle (KK κ a (0+j)) (KK κ b (nb-1)):=by simpa [KeyOrd.kle] using hB
     have:=KeyOrd.kle_trans (sA (0+i) (0+j) (by omega) (by omega)) z
     simpa [KeyOrd.kle] using this
    have k1':∀i,i<f→κ.kle (KK κ a i) (KK κ b (nb-1)):=fun i i1=>by
     have:=k1 i i1
     rw[Nat.zero_add]at this
     simpa [KeyOrd.kle] using this
    have k2':∀i,f≤i→i<na→κ.klt (KK κ b (nb-1)) (KK κ a i):=fun i i1 i2=>by
     have:=k2 i i1 i2
     rw[Nat.zero_add]at this
     exact(show κ.blt _ _=true by simpa using this)
    dsimp only
    generalize hk:na-f=k
    generalize ho:na=o
    generalize hi:out=i
    revert i hi
    revert o ho
    refine w_jp (fun na' out'=>Hi κ a b out' na' nb∧0<na'∧na'≤na∧∀i,i<na'→κ.kle (KK κ a i) (KK κ b (nb-1))) ?_ ?_ ?_
    ·rintro na' out' ⟨M1,g1,g0,g2⟩
     refine wpS_bind (w_elem (Zaf hb1) ?_)
     have M2:=M1.putB (by omega) hb1 fun i i1 _=>g2 i i1
     refine w_bq (fun h=>wpS_pure ⟨S4',_,_,_,_,_,_,.inl ⟨_,rfl,M2.first L h⟩⟩) fun hne=>?_
     have ha1:na'-1<a.size:=by omega
     refine wpS_bind (w_elem (Zaf ha1) (wpS_bind ?_))
     refine w_gallop hL (S4'.1.trans hK) (B:=fun i=>κ.blt (KK κ b (0+i)) (KK κ a (na'-1))) (by omega) (L.hasA ha1) (fun i hi=>⟨b[0+i]'(by omega),Zaf (by omega),L.hasB (by omega),by rw[Z7 ha1,Z7 (show 0+i<b.size by omega)];rfl⟩) (fun i j hij hj hB=>KeyOrd.klt_of_kle_of_klt (sB _ _ (by omega) (by omega)) hB) fun m hm m1 m2=>?_
     have m1':∀i,i<m→κ.kle (KK κ b i) (KK κ a (na'-1)):=fun i i1=>by
      have:=m1 i i1
      rw[Nat.zero_add]at this
      exact KeyOrd.kle_of_klt this
     have m2':∀i,m≤i→i<nb-1→κ.kle (KK κ a (na'-1)) (KK κ b i):=fun i i1 i2=>by
      have:=m2 i i1 i2
      rw[Nat.zero_add]at this
      exact this
     dsimp only
     generalize hk2:nb-1-m=k2
     generalize hi:out'.push b[nb-1]=i
     generalize ho:nb-1=o
     revert i hi
     revert o ho
     refine w_jp (fun nb2 o2=>Hi κ a b o2 na' nb2∧1<nb2∧nb2≤nb-1∧∀i,i<nb2→κ.kle (KK κ b i) (KK κ a (na'-1))) ?_ ?_ ?_
     ·rintro nb2 o2 ⟨M3,n1,n0,n2⟩
      refine wpS_bind (w_elem (Zaf ha1) ?_)
      have M4:=M3.putA g1 ha1 fun i i1 _=>n2 i i1
      refine w_bq (fun h=>wpS_pure ⟨S4',_,_,_,_,_,_,.inl ⟨_,rfl,M4.done (.inl h)⟩⟩) fun hne2=>?_
      exact w_if (fun _=>wpS_pure ⟨S4',_,_,_,_,_,_,.inr ⟨rfl,M4,by omega,by omega,by omega,by omega,by omega⟩⟩) fun _=>wpS_pure ⟨_,_,_,_,_,_,rfl,S4',M4,by omega,by omega,by omega,by omega,by omega⟩
     ·intro H hm0
      have M3:=M2.takeB m hm fun i j i1 i2 j1 j2 j3=>KeyOrd.kle_trans (sA i (na'-1) (by omega) (by omega)) (m2' j j1 j2)
      refine w_bq (fun h=>wpS_pure ⟨S4',_,_,_,_,_,_,.inl ⟨_,rfl,M3.first L h⟩⟩) fun hne2=>?_
      refine w_bq (fun h=>wpS_pure ⟨S4',_,_,_,_,_,_,.inl ⟨_,rfl,M3.done (.inr h)⟩⟩) fun hne3=>?_
      exact H _ _ ⟨M3,by omega,hm,m1'⟩
     ·exact fun hm0=>⟨M2,by omega,Qg _,fun i l1=>m1' i (by omega)⟩
    ·intro H hk0
     have M1:=M.takeA f hf fun i j i1 i2 j1 j2 j3=>KeyOrd.kle_trans (sB i (nb-1) (by omega) (by omega)) (KeyOrd.kle_of_klt (k2' j j1 j2))
     refine w_bq (fun h=>wpS_pure ⟨S4',_,_,_,_,_,_,.inl ⟨_,rfl,M1.done (.inl h)⟩⟩) fun hne=>?_
     exact H _ _ ⟨M1,by omega,hf,k1'⟩
    ·exact fun hk0=>⟨M,h1,Qg _,fun i i1=>k1' i (by omega)⟩
   ·rintro c st3 ⟨na,nb,out,g,x,y,rfl,S3,I3⟩
    exact⟨S3,_,_,_,_,_,_,.inr ⟨rfl,I3⟩⟩
   ·rintro c st3 ⟨S3,na,nb,out,g,x,y,⟨r,rfl,hr⟩|⟨rfl,I3⟩⟩
    ·exact wpS_pure ⟨r,_,rfl,hr,S3⟩
    ·dsimp only
     exact wpS_bind (w_mg (g:=g+1) rfl fun st4 S4=>wpS_pure ⟨_,_,_,_,rfl,S3.trans S4,I3⟩)
 ·rintro c st1 ⟨na,nb,out,g,rfl,S1,M,h1,h2,h3,h4,h5⟩
  omega
 ·rintro c st1 ⟨r,z,rfl,hr,S1⟩
  exact wpS_pure (q r _ hr S1)
end
def Zec:Nat→List (List Keyed)→List (Nat×Nat)
 | _,[]=>[]
 | o,r::rs=>(o,r.length)::Zec (o+r.length) rs
theorem Zd1:∀ (o:Nat) (l m:List (List Keyed)),Zec o (l++m)=Zec o l++Zec (o+l.flatten.length) m
 | o,[],m=>by simp[Zec]
 | o,r::l,m=>by simp[Zec,Zd1 (o+r.length) l m,Nat.add_assoc]
theorem ZeU:∀ (o:Nat) (l:List (List Keyed)),(Zec o l).length=l.length
 | _,[]=>rfl
 | o,r::l=>by simp[Zec,ZeU (o+r.length) l]
def ZbU(p:Nat×Nat×Nat):Nat×Nat:=(p.1,p.2.1)
section
variable {prog:Program} {w:World} {A:Around} {E:Value→Shared→Prop} {s:Shared} {κ:PyProof.Rows.KeyKind} {k0:SortKind} {st:SortSt} {a₀:Array Keyed}
structure Rn (κ:PyProof.Rows.KeyKind) (k0:SortKind) (a₀:Array Keyed) (st:SortSt) (rs:List (List Keyed)) (rest:List Keyed):Prop where
 kind:kindOf st=k0
 failed:failedOf st=none
 arr:(arrOf st).toList=rs.flatten++rest
 perm:(arrOf st).Perm a₀
 srt:∀r∈rs,kS κ r
 ne:∀r∈rs,r≠[]
 pend:(pendingOf st).toList.map ZbU=Zec 0 rs
theorem Zib{sa:Nat}{R:List Keyed}:∀ (r S L:List Keyed) (n:Nat) (xs:Array Keyed),xs.toList=L++S++R→L.length=sa+n→S.length=r.length→((r.zipIdx n).foldl (fun a x=>a.setIfInBounds (sa+x.2) x.1) xs).toList=L++r++R
 | [],S,L,n,xs,h,_,h2=>by
  have:S=[]:=QL h2
  subst this
  simpa using h
 | p::r,[],L,n,xs,h,_,h2=>by cases h2
 | p::r,q::S,L,n,xs,h,h1,h2=>by
  rw[List.zipIdx_cons,List.foldl_cons]
  have e:(xs.setIfInBounds (sa+n) p).toList=(L++[p])++S++R:=by
   rw[Array.toList_setIfInBounds,h,← h1]
   simp
  have:=Zib (sa:=sa) (R:=R) r S (L++[p]) (n+1) _ e (by simp;omega) (by simpa using h2)
  simpa using this
theorem ZgN{xs:Array Keyed}{L x R:List Keyed}(h:xs.toList=L++x++R){i:Nat}(hi:i<x.length):xs[L.length+i]? = some x[i]:=by
 rw[← QT,h,QS,QR (by omega),Nat.add_sub_cancel_left,Q5 hi,Qb hi]
theorem Znx{left:Bool}{key p q:Keyed}(h:κ.kle (kyd κ p) (kyd κ q))(hq:gB κ left key q=true):gB κ left key p=true:=by
 unfold gB at *
 cases left with
 | true=>exact KeyOrd.klt_of_kle_of_klt h (show κ.klt _ _ from hq)
 | false =>
  have z:κ.kle (kyd κ q) (kyd κ key):=by simpa [KeyOrd.kle] using hq
  simpa [KeyOrd.kle] using KeyOrd.kle_trans h z
theorem w_galL(hL:ZdY prog w A s k0 κ)(hK:kindOf st=k0){left:Bool}{key:Keyed}{xs:Array Keyed}{L x R:List Keyed}{base n hint:Nat}(e:xs.toList=L++x++R)(hb:base=L.length)(hn:n=x.length)(hh:hint<n)(hkey:Has κ key)(hx:∀p∈x,Has κ p)(sx:kS κ x)
  {Q:Option Nat→SortSt→Prop} (q:∀h,h≤n→(∀p∈x.take h,gB κ left key p=true)→(∀p∈x.drop h,gB κ left key p=false)→Q (some h) st):wpS (model prog w) A E s (gallop' left key xs base n hint) Q st:=by
 subst hb hn
 refine w_gallop hL hK (B:=fun i=>if h:i<x.length then gB κ left key x[i] else false) hh hkey (fun i hi=>⟨x[i],ZgN e hi,hx _ (QV hi),by rw[dif_pos hi]⟩) (fun i j hij hj hB=>?_) fun h hh k1 k2=>q h hh (fun p hp=>?_) fun p hp=>?_
 ·rw[dif_pos hj]at hB
  rw[dif_pos (by omega)]
  by_cases eq:i=j
  ·subst eq;exact hB
  ·exact Znx (QaN.mp sx i j (by omega) hj (by omega)) hB
 ·obtain⟨i,hi,rfl⟩:=Qad.mp hp
  rw[Qq]at hi
  have:=k1 i (by omega)
  rw[dif_pos (by omega)]at this
  rw[QaC]
  exact this
 ·obtain⟨i,hi,rfl⟩:=Qad.mp hp
  rw[QI]at hi
  have:=k2 (h+i) (by omega) (by omega)
  rw[dif_pos (by omega)]at this
  rw[QaB]
  exact this
theorem Zpa(a:List Keyed)(k:Nat)(b c:List Keyed):a++b++c=a++b.take k++b.drop k++c:=by rw[QS a (b.take k),QY]
theorem Zqb(a:List Keyed)(k:Nat)(b c:List Keyed):a++b++c=a++b.take k++(b.drop k++c):=by rw[← QS,← Zpa]
theorem Zpj(k f:Nat)(b c:List Keyed):b.take k++(b.drop k++c.take f)++c.drop f=b++c:=by rw[← QS,QY,QS,QY]
theorem Zp6(a:List Keyed)(k f:Nat)(b c d:List Keyed):a++b++(c++d)=(a++b.take k)++(b.drop k++c.take f)++(c.drop f++d):=by
 have:=Zpj k f b c
 simp only[List.append_assoc]at this ⊢
 rw[← QS b,← this]
 simp only[List.append_assoc]
theorem Zjr{xs:Array Keyed}{L v R:List Keyed}{i j:Nat}(h:xs.toList=L++v++R)(hi:i=L.length)(hj:j=L.length+v.length):(xs.extract i j).toList=v:=by
 subst hi hj
 rw[ZbJ,h,QS,List.drop_left,Nat.add_sub_cancel_left,List.take_left]
theorem Zg3{x y:List Keyed}(h:kS κ x)(s:y.Sublist x):kS κ y:=List.Pairwise.sublist s h
theorem Znw{key p:Keyed}(h:gB κ false key p=true):κ.kle (kyd κ p) (kyd κ key):=by unfold gB at h;simpa [KeyOrd.kle] using h
theorem gB_f'{key p:Keyed}(h:gB κ false key p=false):κ.kle (kyd κ key) (kyd κ p):=by unfold gB at h;exact KeyOrd.kle_of_klt (show κ.blt _ _=true by simpa using h)
theorem Zo4{key p:Keyed}(h:gB κ true key p=true):κ.kle (kyd κ p) (kyd κ key):=KeyOrd.kle_of_klt (show κ.blt _ _=true from h)
theorem gB_t'{key p:Keyed}(h:gB κ true key p=false):κ.kle (kyd κ key) (kyd κ p):=h
theorem Zlr{p:Keyed}{x:List Keyed}(h:kS κ (p::x)):∀q∈p::x,κ.kle (kyd κ p) (kyd κ q):=fun q hq=>(QH.mp hq).elim (fun e=>by rw[e];exact KeyOrd.kle_refl _) fun hq=>(List.pairwise_cons.mp h).1 q hq
theorem ZnD{p:Keyed}{x:List Keyed}(h:kS κ (x++[p])):∀q∈x++[p],κ.kle (kyd κ q) (kyd κ p):=fun q hq=>(Qm.mp hq).elim (fun hq=>(QaF.mp h).2.2 q hq p (List.mem_singleton.mpr rfl)) fun e=>by rw[Qk.mp e];exact KeyOrd.kle_refl _
theorem Rn.has{rs:List (List Keyed)}{rest:List Keyed}(R:Rn κ k0 a₀ st rs rest)(hk:PyProof.Rows.KeysOf κ a₀){p:Keyed}(h:p∈(arrOf st).toList):Has κ p:=hk p ((Array.perm_iff_toList_perm.mp R.perm).mem_iff.mp h)
theorem Rn.up{l:List (List Keyed)}{x y:List Keyed}{m:List (List Keyed)}{rest:List Keyed}(R:Rn κ k0 a₀ st (l++x::y::m) rest){st':SortSt}{z:List Keyed}(hk:kindOf st'=k0)(hf:failedOf st'=none)(ha:(arrOf st').toList=l.flatten++z++(m.flatten++rest))(hz:z.Perm (x++y))(sz:kS κ z)
  (hp:(pendingOf st').toList.map ZbU=Zec 0 (l++z::m)):Rn κ k0 a₀ st' (l++z::m) rest:=by
 refine⟨hk,hf,by rw[ha];simp,?_,?_,?_,hp⟩
 ·refine Array.Perm.trans ?_ R.perm
  rw[Array.perm_iff_toList_perm,ha,R.arr]
  have:(l.flatten++z++(m.flatten++rest)).Perm (l.flatten++(x++y)++(m.flatten++rest)):=Qa0 _ (List.Perm.append_left _ hz)
  simpa [List.append_assoc] using this
 ·intro r hr
  rcases Qm.mp hr with h|h
  ·exact R.srt r (Qv _ h)
  ·rcases QH.mp h with rfl|h
   ·exact sz
   ·exact R.srt r (Qf _ (Ql _ (Ql _ h)))
 ·intro r hr
  rcases Qm.mp hr with h|h
  ·exact R.ne r (Qv _ h)
  ·rcases QH.mp h with rfl|h
   ·intro e
    rw[e]at hz
    have e2:=hz.nil_eq
    exact R.ne x (Qf _ (QK ..)) (List.append_eq_nil_iff.mp e2.symm).1
   ·exact R.ne r (Qf _ (Ql _ (Ql _ h)))
theorem w_at(hL:ZdY prog w A s k0 κ)(hk:PyProof.Rows.KeysOf κ a₀){l:List (List Keyed)}{x y:List Keyed}{m:List (List Keyed)}{rest:List Keyed}(R:Rn κ k0 a₀ st (l++x::y::m) rest){Q:Bool→SortSt→Prop}
  (q:∀st' z,Rn κ k0 a₀ st' (l++z::m) rest→z.length=x.length+y.length→Q true st'):wpS (model prog w) A E s (mergeAt' l.length) Q st:=by
 have hx:x≠[]:=R.ne x (Qf _ (QK ..))
 have hy:y≠[]:=R.ne y (Qf _ (Ql _ (QK ..)))
 have sx:kS κ x:=R.srt x (Qf _ (QK ..))
 have sy:kS κ y:=R.srt y (Qf _ (Ql _ (QK ..)))
 have arr:(arrOf st).toList=l.flatten++x++(y++(m.flatten++rest)):=by rw[R.arr];simp
 have arr2:(arrOf st).toList=(l.flatten++x)++y++(m.flatten++rest):=by rw[R.arr];simp
 have hasx:∀p∈x,Has κ p:=fun p hp=>R.has hk (by rw[arr];exact Qv _ (Qf _ hp))
 have hasy:∀p∈y,Has κ p:=fun p hp=>R.has hk (by rw[arr2];exact Qv _ (Qf _ hp))
 have K1:∀P g,kindOf (SortSt.mk' (kindOf st) (arrOf st) P g (failedOf st))=k0:=fun _ _=>R.kind
 have hp:=R.pend
 rw[Zd1]at hp
 obtain⟨Pl,P2,eP,h1,h2⟩:=List.map_eq_append_iff.mp hp
 obtain⟨p1,P3,rfl,h3,h4⟩:=List.map_eq_cons_iff.mp h2
 obtain⟨p2,Pm,rfl,h5,h6⟩:=List.map_eq_cons_iff.mp h4
 have lP:Pl.length=l.length:=by have:=congrArg List.length h1;rw[Qa,ZeU]at this;exact this
 obtain⟨sa,na,pw⟩:=p1
 obtain⟨sb,nb,pw2⟩:=p2
 have esa:sa=l.flatten.length:=by have:=congrArg Prod.fst h3;simpa [ZbU] using this
 have ena:na=x.length:=by have:=congrArg Prod.snd h3;simpa [ZbU] using this
 have esb:sb=l.flatten.length+x.length:=by have:=congrArg Prod.fst h5;simpa [ZbU] using this
 have enb:nb=y.length:=by have:=congrArg Prod.snd h5;simpa [ZbU] using this
 have g1:(pendingOf st)[l.length]? = some (sa,na,pw):=by rw[← QT,eP,← lP];simp
 have g2:(pendingOf st)[l.length+1]? = some (sb,nb,pw2):=by
  rw[← QT,eP,← lP,QR (by omega),show Pl.length+1-Pl.length=1 by omega];rfl
 have npend:∀z:List Keyed,z.length=x.length+y.length→(((pendingOf st).setIfInBounds l.length (sa,na+nb,pw)).eraseIdxIfInBounds (l.length+1)).toList.map ZbU=Zec 0 (l++z::m):=fun z hz=>by
  have e:(((pendingOf st).setIfInBounds l.length (sa,na+nb,pw)).eraseIdxIfInBounds (l.length+1)).toList=Pl++(sa,na+nb,pw)::Pm:=by
   rw[Array.toList_eraseIdxIfInBounds,Array.toList_setIfInBounds,eP,← lP]
   simp[List.eraseIdx_append_of_length_le]
  rw[e,Zd1,Qh,h1,Qi,h6]
  simp only[Zec,ZbU,hz,esa,ena,enb,Nat.zero_add,Nat.add_assoc]
 obtain⟨y0,yt,rfl⟩:∃y0 yt,y=y0::yt:=by cases y with|nil=>exact absurd rfl hy|cons a b=>exact⟨a,b,rfl⟩
 obtain⟨xt,xl,rfl⟩:∃xt xl,x=xt++[xl]:=⟨x.dropLast,x.getLast hx,(Qax hx).symm⟩
 show wpS _ _ _ _ (get >>= _) _ _
 refine wpS_bind (wpS_get ?_)
 simp only[g1,g2]
 refine wpS_bind ?_
 show wpS _ _ _ _ (modify fun _=>SortSt.mk' (kindOf st) (arrOf st) (((pendingOf st).setIfInBounds l.length (sa,na+nb,pw)).eraseIdxIfInBounds (l.length+1)) (gallopOf st) (failedOf st)) _ _
 refine wpS_modify ?_
 refine wpS_bind (w_elem (p:=y0) ?_ ?_)
 ·have:=ZgN arr2 (i:=0) (by simp)
  rw[esb]
  simpa using this
 refine wpS_bind ?_
 refine w_galL hL (K1 _ _) (left:=false) (hint:=0) (L:=l.flatten) (x:=xt++[xl]) (R:=y0::yt++(m.flatten++rest)) (by rw[arr]) esa ena (by rw[ena];simp) (hasy y0 (QK ..)) hasx sx fun k hk1 k1 k2=>?_
 dsimp only
 refine w_bq (fun h=>wpS_pure ?_) fun hk2=>?_
 ·refine q _ ((xt++[xl])++(y0::yt)) (R.up R.kind R.failed (by show (arrOf st).toList=_;rw[arr];simp) (List.Perm.refl _) (ZbW sx sy fun p hp r hr=>?_) (npend _ (Qd ..))) (Qd ..)
  exact KeyOrd.kle_trans (Znw (k1 p (by rw[Qu (by omega)];exact hp))) (Zlr sy r hr)
 refine wpS_bind (w_elem (p:=xl) ?_ ?_)
 ·have:=ZgN arr (i:=xt.length) (by simp)
  simp only[List.getElem_concat_length]at this
  rw[← this]
  congr 1
  simp at ena
  omega
 refine wpS_bind ?_
 refine w_galL hL (K1 _ _) (left:=true) (hint:=nb-1) (L:=l.flatten++(xt++[xl])) (x:=y0::yt) (R:=m.flatten++rest) (by rw[arr2]) (by rw[esb];simp) enb (by rw[enb];simp) (hasx xl (Qf _ (List.mem_singleton.mpr rfl))) hasy sy fun f hf f1 f2=>?_
 dsimp only
 refine w_bq (fun h=>wpS_pure ?_) fun hf2=>?_
 ·refine q _ ((xt++[xl])++(y0::yt)) (R.up R.kind R.failed (by show (arrOf st).toList=_;rw[arr];simp) (List.Perm.refl _) (ZbW sx sy fun p hp r hr=>?_) (npend _ (Qd ..))) (Qd ..)
  subst h
  exact KeyOrd.kle_trans (ZnD sx p hp) (gB_t' (f2 r hr))
 have hk3:k≤xt.length:=by simp at ena;omega
 have hf3:f≤(y0::yt).length:=by omega
 have eX:((arrOf st).extract (sa+k) sb).toList=(xt++[xl]).drop k:=Zjr (L:=l.flatten++(xt++[xl]).take k) (R:=y0::yt++(m.flatten++rest)) (by rw[arr];exact Zpa _ k _ _) (by rw[esa,Qd,Qq];simp;omega) (by rw[esb];simp;omega)
 have eY:((arrOf st).extract sb (sb+f)).toList=(y0::yt).take f:=Zjr (L:=l.flatten++(xt++[xl])) (R:=(y0::yt).drop f++(m.flatten++rest)) (by rw[arr2];exact Zqb _ f _ _) (by rw[esb];simp) (by rw[esb,Qq];simp at hf3 ⊢;omega)
 have memX:∀i,i<((arrOf st).extract (sa+k) sb).size→∃p∈(xt++[xl]).drop k,KK κ ((arrOf st).extract (sa+k) sb) i=kyd κ p:=fun i hi=>⟨_,by rw[← eX];exact QaS hi,Z7 hi⟩
 have memY:∀i,i<((arrOf st).extract sb (sb+f)).size→∃p∈(y0::yt).take f,KK κ ((arrOf st).extract sb (sb+f)) i=kyd κ p:=fun i hi=>⟨_,by rw[← eY];exact QaS hi,Z7 hi⟩
 have LP:ZdS κ ((arrOf st).extract (sa+k) sb) ((arrOf st).extract sb (sb+f)):=by
  have szX:((arrOf st).extract (sa+k) sb).size=(xt++[xl]).length-k:=by rw[← QE,eX,QI]
  have szY:((arrOf st).extract sb (sb+f)).size=f:=by rw[← QE,eY,Qq];omega
  refine⟨by rw[eX];exact fun p hp=>hasx p (QZ hp),by rw[eY];exact fun p hp=>hasy p (Q0 hp),by rw[eX];exact Zg3 sx (QaD _ _),by rw[eY];exact Zg3 sy (Qaz _ _),by rw[szX];simp;omega,by rw[szY];omega,fun i hi=>?_,fun i hi=>?_⟩
  ·obtain⟨p,hp,e⟩:=memX i hi
   rw[e,Zmo (show ((arrOf st).extract sb (sb+f))[0]? = some y0 by rw[← QT,eY,List.getElem?_take_of_lt (by omega)];rfl)]
   exact gB_f' (k2 p hp)
  ·obtain⟨p,hp,e⟩:=memY i hi
   rw[e,szX,Zmo (show ((arrOf st).extract (sa+k) sb)[(xt++[xl]).length-k-1]? = some xl by rw[← QT,eX,List.drop_append_of_le_length hk3,QR (by rw[QI,Qd];simp;omega),QI,Qd,show xt.length+[xl].length-k-1-(xt.length-k)=0 by simp;omega];rfl)]
   exact Zo4 (f1 p hp)
 refine w_if (fun h=>wpS_bind (w_lo hL (K1 _ _) LP fun r st2 hr S2=>?_)) fun h=>wpS_bind (w_hi hL (K1 _ _) LP fun r st2 hr S2=>?_)
 all_goals
  refine wpS_bind (wpS_modify ?_)
  refine wpS_bind (wpS_get ?_)
  have eF:failedOf st2=none:=S2.2.2.2.trans R.failed
  show wpS _ _ _ _ (pure (failedOf st2).isNone) _ _
  rw[eF]
  obtain⟨hr1,hr2⟩:=hr
  rw[eX,eY]at hr1
  have lr:r.toList.length=((xt++[xl]).drop k++(y0::yt).take f).length:=hr1.length_eq
  have pz:((xt++[xl]).take k++r.toList++(y0::yt).drop f).Perm ((xt++[xl])++(y0::yt)):=by
   have p1:=Qa0 ((y0::yt).drop f) (List.Perm.append_left ((xt++[xl]).take k) hr1)
   rw[Zpj]at p1
   exact p1
  refine wpS_pure (q _ ((xt++[xl]).take k++r.toList++(y0::yt).drop f) (R.up (S2.1.trans R.kind) eF ?_ pz ?_ ?_) (by rw[pz.length_eq,Qd]))
  ·have pb:=Zib (sa:=sa+k) (R:=(y0::yt).drop f++(m.flatten++rest)) r.toList ((xt++[xl]).drop k++(y0::yt).take f) (l.flatten++(xt++[xl]).take k) 0 (arrOf st2) (by
    rw[S2.2.1]
    show (arrOf st).toList=_
    rw[arr]
    exact Zp6 _ k f _ _ _) (by rw[esa,Qd,Qq];simp;omega) lr.symm
   refine Eq.trans pb ?_
   simp
  ·refine ZbW (ZbW (Zg3 sx (Qaz _ _)) hr2 fun p hp z hz=>?_) (Zg3 sy (QaD _ _)) (Zd0 (fun p hp z hz=>?_) fun p hp z hz=>?_)
   ·rcases Qm.mp (hr1.mem_iff.mp hz) with hz|hz
    ·exact KeyOrd.kle_trans (Znw (k1 p hp)) (gB_f' (k2 z hz))
    ·exact KeyOrd.kle_trans (Znw (k1 p hp)) (Zlr sy z (Q0 hz))
   ·exact KeyOrd.kle_trans (Znw (k1 p hp)) (Zlr sy z (QZ hz))
   ·rcases Qm.mp (hr1.mem_iff.mp hp) with hp|hp
    ·exact KeyOrd.kle_trans (ZnD sx p (QZ hp)) (gB_t' (f2 z hz))
    ·exact KeyOrd.kle_trans (Zo4 (f1 p hp)) (gB_t' (f2 z hz))
  ·show (pendingOf st2).toList.map ZbU=_
   rw[S2.2.2.1]
   exact npend _ (by rw[pz.length_eq,Qd])
end
section
variable {prog:Program} {w:World} {A:Around} {E:Value→Shared→Prop} {s:Shared} {κ:PyProof.Rows.KeyKind} {k0:SortKind} {st st0:SortSt} {a₀:Array Keyed} {α:Type} {lo:Nat}
theorem w_jp0{c:Prop}[Decidable c]{X J:StateT SortSt Sem α}{Q:α→SortSt→Prop}(P:SortSt→Prop)(H:∀st',P st'→wpS (model prog w) A E s J Q st')(hX:(∀st',P st'→wpS (model prog w) A E s J Q st')→c→wpS (model prog w) A E s X Q st)(hY:¬ c→P st):wpS (model prog w) A E s (if c then X else J) Q st:=by
 by_cases h:c
 ·rw[if_pos h];exact hX H h
 ·rw[if_neg h];exact H st (hY h)
structure Ph (k0:SortKind) (a₀:Array Keyed) (lo:Nat) (st0 st:SortSt):Prop where
 kind:kindOf st=k0
 failed:failedOf st=none
 pend:pendingOf st=pendingOf st0
 perm:(arrOf st).Perm a₀
 pre:∀k,k<lo→(arrOf st)[k]? = (arrOf st0)[k]?
def SgK(κ:PyProof.Rows.KeyKind)(xs:Array Keyed)(lo n:Nat):Prop:=∀i j,lo≤i→i≤j→j<lo+n→κ.kle (KK κ xs i) (KK κ xs j)
def NiK(κ:PyProof.Rows.KeyKind)(xs:Array Keyed)(lo n:Nat):Prop:=∀i j,lo≤i→i≤j→j<lo+n→κ.kle (KK κ xs j) (KK κ xs i)
theorem Ph.size(B:Ph k0 a₀ lo st0 st):(arrOf st).size=a₀.size:=B.perm.size_eq
theorem Ph.rev(B:Ph k0 a₀ lo st0 st){i j:Nat}(hi:lo≤i)(hj:j≤a₀.size):Ph k0 a₀ lo st0 (setArr st (mirror (arrOf st) i j ((j-i) / 2))) :=
 ⟨B.kind,B.failed,B.pend,(mirror_perm _ _ _ _).trans B.perm,fun k hk=>by
  show (mirror (arrOf st) i j ((j-i) / 2))[k]? = _
  rw[getElem?_mirror_all (by rw[B.size];exact hj),if_neg (by omega)]
  exact B.pre k hk⟩
theorem Ph.dn(B:Ph k0 a₀ lo st0 st){src d:Nat}(hs:src<a₀.size)(hd:d≤src)(hi:lo≤src-d):Ph k0 a₀ lo st0 (setArr st (bubble (arrOf st) src d)) :=
 ⟨B.kind,B.failed,B.pend,(bubble_perm _ _ _).trans B.perm,fun k hk=>by
  show (bubble (arrOf st) src d)[k]? = _
  rw[getElem?_bubble (by rw[B.size];exact hs) d hd,if_neg (by omega),if_neg (by omega)]
  exact B.pre k hk⟩
theorem w_ltA(hL:ZdY prog w A s k0 κ)(hk:PyProof.Rows.KeysOf κ a₀)(B:Ph k0 a₀ lo st0 st){i j:Nat}(hi:i<a₀.size)(hj:j<a₀.size){Q:Option Bool→SortSt→Prop}(q:Q (some (κ.blt (KK κ (arrOf st) i) (KK κ (arrOf st) j))) st):wpS (model prog w) A E s (ltAt' i j) Q st:=by
 have hi':i<(arrOf st).size:=by rw[B.size];exact hi
 have hj':j<(arrOf st).size:=by rw[B.size];exact hj
 have has:∀n (h:n<(arrOf st).size),Has κ (arrOf st)[n]:=fun n h=>hk _ ((Array.perm_iff_toList_perm.mp B.perm).mem_iff.mp (QaS h))
 rw[ltAt'_eq]
 refine wpS_bind (wpS_get ?_)
 refine wpS_bind (w_elem (Zaf hi') (wpS_bind (w_elem (Zaf hj') ?_)))
 refine w_ltp hL B.kind (has i hi') (has j hj') ?_
 rw[← Z7 hi',← Z7 hj']
 exact q
theorem SgK.succ{xs:Array Keyed}{i:Nat}(h0:1≤i)(S:SgK κ xs lo i)(h:κ.kle (KK κ xs (lo+i-1)) (KK κ xs (lo+i))):SgK κ xs lo (i+1):=by
 intro a b ha hab hb
 by_cases e:b<lo+i
 ·exact S a b ha hab e
 ·have eb:b=lo+i:=by omega
  subst eb
  by_cases ea:a=lo+i
  ·subst ea;exact KeyOrd.kle_refl _
  ·exact KeyOrd.kle_trans (S a (lo+i-1) ha (by omega) (by omega)) h
theorem NiK.succ{xs:Array Keyed}{i:Nat}(h0:1≤i)(S:NiK κ xs lo i)(h:κ.kle (KK κ xs (lo+i)) (KK κ xs (lo+i-1))):NiK κ xs lo (i+1):=by
 intro a b ha hab hb
 by_cases e:b<lo+i
 ·exact S a b ha hab e
 ·have eb:b=lo+i:=by omega
  subst eb
  by_cases ea:a=lo+i
  ·subst ea;exact KeyOrd.kle_refl _
  ·exact KeyOrd.kle_trans h (S a (lo+i-1) ha (by omega) (by omega))
theorem w_countA(hL:ZdY prog w A s k0 κ)(hk:PyProof.Rows.KeysOf κ a₀){nrem:Nat}(hn:lo+nrem≤a₀.size)(h1:1≤nrem)(B:Ph k0 a₀ lo st0 st){Q:Option Nat→SortSt→Prop}
  (q:∀ (m:Nat) (st':SortSt),Ph k0 a₀ lo st0 st'→1≤m→m≤nrem→SgK κ (arrOf st') lo m→Q (some m) st'):wpS (model prog w) A E s (countRun' lo nrem) Q st:=by
 show wpS _ _ _ _ (forIn [1:nrem] (none,1) _ >>= _) _ _
 refine wpS_bind (wpS_mono (wpS_forRange (fun i c st'=>st'=st∧c=(none,i)∧SgK κ (arrOf st) lo i)
  (Q:=fun c st'=>st'=st∧∃n,c=(none,n)∧1≤n∧n≤nrem∧SgK κ (arrOf st) lo n∧(n=nrem∨κ.klt (KK κ (arrOf st) (lo+n)) (KK κ (arrOf st) (lo+n-1)))) ?_ ?_ ⟨rfl,rfl,fun i j a b c=>by obtain rfl:i=j:=(by omega);exact KeyOrd.kle_refl _⟩) ?_)
 ·rintro i c st' hi hi2 ⟨rfl,rfl,S⟩
  dsimp only
  refine wpS_bind (w_ltA hL hk B (by omega) (by omega) ?_)
  cases hb:κ.blt (KK κ (arrOf st') (lo+i)) (KK κ (arrOf st') (lo+i-1)) with
  | true=>exact wpS_pure ⟨rfl,i,rfl,by omega,by omega,S,.inr hb⟩
  | false=>exact wpS_pure ⟨rfl,rfl,S.succ (by omega) hb⟩
 ·rintro c st' ⟨rfl,rfl,S⟩
  rw[show max 1 nrem=nrem by omega]at S ⊢
  exact⟨rfl,nrem,rfl,by omega,by omega,S,.inl rfl⟩
 rintro c st' ⟨rfl,n,rfl,n1,n2,S,hor⟩
 dsimp only
 refine w_bq (fun _=>wpS_pure (q n _ B n1 n2 S)) fun hne=>?_
 have hlt:=hor.resolve_left hne
 refine w_jp0 (fun st1=>Ph k0 a₀ lo st0 st1∧NiK κ (arrOf st1) lo (n+1)) ?_ ?_ ?_
 ·rintro st1 ⟨B1,N1⟩
  refine wpS_bind (wpS_lift (wpAny_rule ⟨rfl,?_⟩))
  refine wpS_bind (wpS_mono (wpS_forRange (fun i c st2=>∃neq,c=(none,i,neq)∧Ph k0 a₀ lo st0 st2∧NiK κ (arrOf st2) lo i∧neq+1≤i∧(∀k,lo+i-(neq+1)≤k→k<lo+i→KK κ (arrOf st2) k=KK κ (arrOf st2) (lo+i-1)))
   (Q:=fun c st2=>∃i neq,c=(none,i,neq)∧Ph k0 a₀ lo st0 st2∧n+1≤i∧i≤nrem∧NiK κ (arrOf st2) lo i∧neq+1≤i∧(∀k,lo+i-(neq+1)≤k→k<lo+i→KK κ (arrOf st2) k=KK κ (arrOf st2) (lo+i-1))) ?_ ?_ ⟨0,rfl,B1,N1,by omega,fun k k1 k2=>by rw[show k=lo+(n+1)-1 by omega]⟩) ?_)
  ·rintro i c st2 hi hi2 ⟨neq,rfl,B2,N2,q2,e2⟩
   dsimp only
   refine wpS_bind (w_ltA hL hk B2 (by omega) (by omega) ?_)
   cases hb:κ.blt (KK κ (arrOf st2) (lo+i)) (KK κ (arrOf st2) (lo+i-1)) with
   | true =>
    show wpS _ _ _ _ (if neq>0 then _ else _) _ _
    refine w_jp0 (fun st3=>Ph k0 a₀ lo st0 st3∧NiK κ (arrOf st3) lo (i+1)) ?_ (fun H h0=>?_) fun _=>⟨B2,N2.succ (by omega) (KeyOrd.kle_of_klt hb)⟩
    ·rintro st3 ⟨B3,N3⟩
     exact wpS_pure ⟨0,rfl,B3,N3,by omega,fun k k1 k2=>by rw[show k=lo+(i+1)-1 by omega]⟩
    refine wpS_bind (w_rev (H _ ⟨B2.rev (by omega) (by omega),?_⟩))
    have e:=KK_mirror_equal (κ:=κ) (xs:=arrOf st2) (i:=lo+i-(neq+1)) (j:=lo+i) (by rw[B2.size];omega) e2
    intro x y hx hxy hy
    show κ.kle (KK κ (mirror _ _ _ _) y) (KK κ (mirror _ _ _ _) x)
    rw[e x,e y]
    exact N2.succ (by omega) (KeyOrd.kle_of_klt hb) x y hx hxy hy
   | false =>
    refine wpS_bind (w_ltA hL hk B2 (by omega) (by omega) ?_)
    cases hb2:κ.blt (KK κ (arrOf st2) (lo+i-1)) (KK κ (arrOf st2) (lo+i)) with
    | true=>exact wpS_pure ⟨i,neq,rfl,B2,by omega,by omega,N2,q2,e2⟩
    | false =>
     have ee:=κ.total _ _ hb hb2
     refine wpS_pure ⟨neq+1,rfl,B2,N2.succ (by omega) hb2,by omega,fun k k1 k2=>?_⟩
     rw[show lo+(i+1)-1=lo+i by omega,ee]
     by_cases hki:k=lo+i
     ·rw[hki,ee]
     ·exact e2 k (by omega) (by omega)
  ·rintro c st2 ⟨neq,rfl,B2,N2,q2,e2⟩
   rw[show max (n+1) nrem=nrem by omega]at *
   exact⟨nrem,neq,rfl,B2,by omega,by omega,N2,q2,e2⟩
  rintro c st2 ⟨i,neq,rfl,B2,i1,i2,N2,q2,e2⟩
  dsimp only
  refine w_jp0 (fun st3=>Ph k0 a₀ lo st0 st3∧NiK κ (arrOf st3) lo i) (fun st3 h3=>?_) (fun H h0=>?_) fun _=>⟨B2,N2⟩
  ·obtain⟨B3,N3⟩:=h3
   refine wpS_bind (w_rev ?_)
   have B4:=B3.rev (i:=lo) (j:=lo+i) (Qg _) (by omega)
   have e:=KK_mirror (κ:=κ) (xs:=arrOf st3) (i:=lo) (j:=lo+i) (by rw[B3.size];omega)
   have S4:SgK κ (mirror (arrOf st3) lo (lo+i) ((lo+i-lo) / 2)) lo i:=fun x y hx hxy hy=>by
    rw[e x,e y,if_pos ⟨by omega,by omega⟩,if_pos ⟨by omega,by omega⟩]
    exact N3 _ _ (by omega) (by omega) (by omega)
   refine wpS_bind (wpS_mono (wpS_forRange (fun j c st5=>st5=(setArr st3 (mirror (arrOf st3) lo (lo+i) ((lo+i-lo) / 2)))∧c=(none,j)∧SgK κ (mirror (arrOf st3) lo (lo+i) ((lo+i-lo) / 2)) lo j)
    (Q:=fun c st5=>st5=(setArr st3 (mirror (arrOf st3) lo (lo+i) ((lo+i-lo) / 2)))∧∃n,c=(none,n)∧1≤n∧n≤nrem∧SgK κ (mirror (arrOf st3) lo (lo+i) ((lo+i-lo) / 2)) lo n) ?_ ?_ ⟨rfl,rfl,S4⟩) ?_)
   ·rintro j c st5 hj hj2 ⟨rfl,rfl,S5⟩
    dsimp only
    refine wpS_bind (w_ltA hL hk B4 (by omega) (by omega) ?_)
    cases hb:κ.blt (KK κ (mirror (arrOf st3) lo (lo+i) ((lo+i-lo) / 2)) (lo+j)) (KK κ (mirror (arrOf st3) lo (lo+i) ((lo+i-lo) / 2)) (lo+j-1)) with
    | true=>exact wpS_pure ⟨rfl,j,rfl,by omega,by omega,S5⟩
    | false=>exact wpS_pure ⟨rfl,rfl,S5.succ (by omega) hb⟩
   ·rintro c st5 ⟨rfl,rfl,S5⟩
    rw[show max i nrem=nrem by omega]at S5 ⊢
    exact⟨rfl,nrem,rfl,by omega,by omega,S5⟩
   ·rintro c st5 ⟨rfl,m,rfl,m1,m2,S5⟩
    exact wpS_pure (q m _ B4 m1 m2 S5)
  ·refine wpS_bind (w_rev (H _ ⟨B2.rev (by omega) (by omega),?_⟩))
   have e:=KK_mirror_equal (κ:=κ) (xs:=arrOf st2) (i:=lo+i-(neq+1)) (j:=lo+i) (by rw[B2.size];omega) e2
   intro x y hx hxy hy
   show κ.kle (KK κ (mirror _ _ _ _) y) (KK κ (mirror _ _ _ _) x)
   rw[e x,e y]
   exact N2 x y hx hxy hy
 ·intro H h0
  refine wpS_bind (w_ltA hL hk B (by omega) (by omega) ?_)
  cases hb:κ.blt (KK κ (arrOf st') lo) (KK κ (arrOf st') (lo+n-1)) with
  | true=>exact wpS_pure (q n _ B n1 n2 S)
  | false =>
   have hf:∀k,lo≤k→k<lo+n→KK κ (arrOf st') k=KK κ (arrOf st') (lo+n-1):=fun k k1 k2 =>
    KeyOrd.kle_antisymm (S k (lo+n-1) k1 (by omega) (by omega)) (KeyOrd.kle_trans (show κ.kle (KK κ (arrOf st') (lo+n-1)) (KK κ (arrOf st') lo) from hb) (S lo k (by omega) k1 k2))
   refine wpS_bind (w_rev (H _ ⟨B.rev (Qg _) (by omega),?_⟩))
   have e:=KK_mirror_equal (κ:=κ) (xs:=arrOf st') (i:=lo) (j:=lo+n) (by rw[B.size];omega) hf
   intro x y hx hxy hy
   show κ.kle (KK κ (mirror _ _ _ _) y) (KK κ (mirror _ _ _ _) x)
   rw[e x,e y]
   refine NiK.succ n1 (fun a b ha hab hb=>?_) (KeyOrd.kle_of_klt hlt) x y hx hxy hy
   rw[hf a ha (by omega),hf b (by omega) hb]
   exact KeyOrd.kle_refl _
 ·intro h0
  refine⟨B,NiK.succ n1 (fun a b ha hab hb=>?_) (KeyOrd.kle_of_klt hlt)⟩
  obtain rfl:a=b:=by omega
  exact KeyOrd.kle_refl _
theorem w_binA(hL:ZdY prog w A s k0 κ)(hk:PyProof.Rows.KeysOf κ a₀){n ok:Nat}(hn:lo+n≤a₀.size)(h1:ok≤n)(h0:1≤ok)(B:Ph k0 a₀ lo st0 st)(S:SgK κ (arrOf st) lo ok){Q:Bool→SortSt→Prop}
  (q:∀ (st':SortSt),Ph k0 a₀ lo st0 st'→SgK κ (arrOf st') lo n→Q true st'):wpS (model prog w) A E s (binarySort' lo n ok) Q st:=by
 rw[binarySort'_eq]
 refine wpS_bind ?_
 refine wpS_forRange (fun i c st'=>c=(none,())∧Ph k0 a₀ lo st0 st'∧SgK κ (arrOf st') lo i) ?_ ?_ ⟨rfl,B,by rw[show max ok 1=ok by omega];exact S⟩
 ·rintro k c st' hak hkn ⟨rfl,B',S'⟩
  refine wpS_bind (wpS_mono (wpS_forRange (fun i c st2=>∃l r,c=(none,l,r)∧st2=st'∧l≤r∧r≤k∧r-l≤k-i∧(∀j,j<l→κ.kle (KK κ (arrOf st') (lo+j)) (KK κ (arrOf st') (lo+k)))∧(∀j,r≤j→j<k→κ.klt (KK κ (arrOf st') (lo+k)) (KK κ (arrOf st') (lo+j))))
   (Q:=fun c st2=>∃l,c=(none,l,l)∧st2=st'∧l≤k∧(∀j,j<l→κ.kle (KK κ (arrOf st') (lo+j)) (KK κ (arrOf st') (lo+k)))∧(∀j,l≤j→j<k→κ.klt (KK κ (arrOf st') (lo+k)) (KK κ (arrOf st') (lo+j)))) ?_ ?_ ⟨0,k,rfl,rfl,Qp _,Qg _,by omega,fun j h=>by omega,fun j h1 h2=>by omega⟩) ?_)
  ·rintro i c st2 hi0 hik ⟨l,r,rfl,rfl,hlr,hrk,hm,hlo,hhi⟩
   dsimp only
   refine w_if (fun hge=>?_) fun hge=>?_
   ·obtain rfl:l=r:=by omega
    exact wpS_pure ⟨l,rfl,rfl,hrk,hlo,hhi⟩
   ·refine wpS_bind (w_ltA hL hk B' (by omega) (by omega) ?_)
    cases hb:κ.blt (KK κ (arrOf st2) (lo+k)) (KK κ (arrOf st2) (lo+(l+r) / 2)) with
    | true=>exact wpS_pure ⟨l,(l+r) / 2,rfl,rfl,by omega,by omega,by omega,hlo,fun j j1 j2=>KeyOrd.klt_of_klt_of_kle hb (S' _ (lo+j) (by omega) (by omega) (by omega))⟩
    | false=>exact wpS_pure ⟨(l+r) / 2+1,r,rfl,rfl,by omega,by omega,by omega,fun j h=>KeyOrd.kle_trans (S' (lo+j) (lo+(l+r) / 2) (by omega) (by omega) (by omega)) hb,hhi⟩
  ·rintro c st2 ⟨l,r,rfl,rfl,hlr,hrk,hm,hlo,hhi⟩
   obtain rfl:l=r:=by omega
   exact⟨l,rfl,rfl,hrk,hlo,hhi⟩
  ·rintro c st2 ⟨l,rfl,rfl,hlk,hlo,hhi⟩
   refine wpS_bind ?_
   rw[moveDown'_eq]
   refine wpS_modify (wpS_pure ⟨rfl,B'.dn (by omega) (by omega) (by omega),?_⟩)
   have eb:=KK_bubble (κ:=κ) (xs:=arrOf st2) (src:=lo+k) (d:=lo+k-(lo+l)) (by rw[B'.size];omega) (by omega)
   have lo':∀j,lo≤j→j<lo+l→κ.kle (KK κ (arrOf st2) j) (KK κ (arrOf st2) (lo+k)):=fun j j1 j2=>by
    have:=hlo (j-lo) (by omega)
    rwa [show lo+(j-lo)=j by omega]at this
   have hi':∀j,lo+l≤j→j<lo+k→κ.klt (KK κ (arrOf st2) (lo+k)) (KK κ (arrOf st2) j):=fun j j1 j2=>by
    have:=hhi (j-lo) (by omega) (by omega)
    rwa [show lo+(j-lo)=j by omega]at this
   intro x y hx hxy hy
   show κ.kle (KK κ (bubble (arrOf st2) (lo+k) (lo+k-(lo+l))) x) (KK κ (bubble (arrOf st2) (lo+k) (lo+k-(lo+l))) y)
   rw[eb x,eb y,show lo+k-(lo+k-(lo+l))=lo+l by omega]
   repeat' split
   all_goals first
    | (exfalso;omega)
    | exact KeyOrd.kle_refl _
    | exact lo' _ (by omega) (by omega)
    | exact KeyOrd.kle_of_klt (hi' _ (by omega) (by omega))
    | exact S' _ _ (by omega) (by omega) (by omega)
 ·rintro c st' ⟨rfl,B',S'⟩
  rw[show max (max ok 1) n=n by omega]at S'
  exact wpS_pure (q st' B' S')
end
section
variable {prog:Program} {w:World} {A:Around} {E:Value→Shared→Prop} {s:Shared} {κ:PyProof.Rows.KeyKind} {k0:SortKind} {st st0:SortSt} {a₀:Array Keyed} {lo:Nat} {rs:List (List Keyed)} {rest:List Keyed}
theorem Ph.runs(R:Rn κ k0 a₀ st0 rs rest)(B:Ph k0 a₀ lo st0 st)(hlo:lo=rs.flatten.length):Rn κ k0 a₀ st rs ((arrOf st).toList.drop lo):=by
 refine⟨B.kind,B.failed,?_,B.perm,R.srt,R.ne,by rw[B.pend];exact R.pend⟩
 have e:(arrOf st).toList.take lo=rs.flatten:=by
  have e0:(arrOf st0).toList.take lo=rs.flatten:=by rw[R.arr,hlo,List.take_left]
  rw[← e0]
  apply List.ext_getElem?
  intro k
  rw[List.getElem?_take,List.getElem?_take]
  split
  ·rename_i h
   rw[QT,QT,B.pre k h]
  ·rfl
 rw[← e,QY]
theorem SgK.list{xs:Array Keyed}{n:Nat}(S:SgK κ xs lo n):kS κ ((xs.toList.drop lo).take n):=by
 refine List.pairwise_iff_getElem.mpr fun i j hi hj hij=>?_
 rw[Qq,QI,QE]at hi hj
 have:=S (lo+i) (lo+j) (by omega) (by omega) (by omega)
 rw[Z7 (show lo+i<xs.size by omega),Z7 (show lo+j<xs.size by omega)]at this
 rw[QaC,QaB,QaC,QaB,QX,QX]
 exact this
theorem Rn.push(R:Rn κ k0 a₀ st rs rest){n:Nat}(h:kS κ (rest.take n))(h1:1≤n)(h2:n≤rest.length){st':SortSt}(hk:kindOf st'=kindOf st)(hf:failedOf st'=failedOf st)(ha:arrOf st'=arrOf st)(hp:(pendingOf st').toList.map ZbU=(pendingOf st).toList.map ZbU++[(rs.flatten.length,n)]):Rn κ k0 a₀ st' (rs++[rest.take n]) (rest.drop n):=by
 refine⟨hk.trans R.kind,hf.trans R.failed,by rw[ha,R.arr];simp,by rw[ha];exact R.perm,fun r hr=>?_,fun r hr=>?_,?_⟩
 ·rcases Qm.mp hr with hr|hr
  ·exact R.srt r hr
  ·rw[Qk.mp hr];exact h
 ·rcases Qm.mp hr with hr|hr
  ·exact R.ne r hr
  ·rw[Qk.mp hr]
   intro e
   have:=congrArg List.length e
   rw[Qq,List.length_nil]at this
   omega
 ·rw[hp,R.pend,Zd1]
  simp[Zec,List.length_take,Nat.min_eq_left h2]
theorem Rn.len(R:Rn κ k0 a₀ st rs rest):(pendingOf st).size=rs.length:=by
 have:=congrArg List.length R.pend
 rw[Qa,ZeU,QE]at this
 exact this
theorem Zmn:∀ (rs:List (List Keyed)) (i:Nat),i+1<rs.length→∃l x y m,rs=l++x::y::m∧l.length=i
 | x::y::m,0,_=>⟨[],x,y,m,rfl,rfl⟩
 | x::r,i+1,h=>by
  obtain⟨l,a,b,m,e,hl⟩:=Zmn r i (by simp at h;omega)
  exact⟨x::l,a,b,m,by rw[e];rfl,by rw[QC,hl]⟩
theorem Zi5:∀ (rs:List (List Keyed)),(∀r∈rs,r≠[])→rs.length≤rs.flatten.length
 | [],_=>Qg _
 | r::rs,h=>by
  have:=Zi5 rs fun x hx=>h x (Ql _ hx)
  have h0:r.length≠0:=fun e=>h r (QK ..) (QL e)
  rw[Qap,Qd,QC]
  omega
theorem w_atJ(hL:ZdY prog w A s k0 κ)(hk:PyProof.Rows.KeysOf κ a₀)(R:Rn κ k0 a₀ st rs rest){j:Nat}{Q:Bool→SortSt→Prop}(q:∀st' rs',Rn κ k0 a₀ st' rs' rest→rs'.flatten.length=rs.flatten.length→rs'.length+1=rs.length→Q true st')(hj:j+1<rs.length):wpS (model prog w) A E s (mergeAt' j) Q st:=by
 obtain⟨l,a,b,m,rfl,rfl⟩:=Zmn rs j hj
 refine w_at hL hk R fun st3 z R3 hz=>q st3 _ R3 ?_ (by rw[Qd,Qd];rfl)
 rw[QaQ,Qd,QaQ,Qd,Qap,Qd,Qap,Qd,Qap,Qd]
 omega
theorem Rn.total(R:Rn κ k0 a₀ st rs rest):rs.flatten.length+rest.length=a₀.size:=by
 rw[← R.perm.size_eq,← QE,R.arr,Qd]
theorem ZkS(l:List (Nat×Nat×Nat))(i:Nat){f:Nat×Nat×Nat→Nat×Nat×Nat}(h:∀x,ZbU (f x)=ZbU x):(l.modify i f).map ZbU=l.map ZbU:=by
 apply List.ext_getElem?
 intro j
 rw[Qs,Qs,List.getElem?_modify]
 cases l[j]? with
 | none=>rfl
 | some x =>
  show some (ZbU (if i=j then f x else x))=some (ZbU x)
  split
  ·rw[h]
  ·rfl
theorem w_jpS{α β:Type}{c:β→Prop}[∀i,Decidable (c i)]{y:β}{X Y:β→StateT SortSt Sem α}{Q:α→SortSt→Prop}(P:β→SortSt→Prop)(H:∀i st',P i st'→wpS (model prog w) A E s (Y i) Q st')(hX:(∀i st',P i st'→wpS (model prog w) A E s (Y i) Q st')→c y→wpS (model prog w) A E s (X y) Q st)(hY:¬ c y→P y st):∀i,y=i→wpS (model prog w) A E s (if c i then X i else Y i) Q st:=by
 rintro _ rfl
 by_cases h:c y
 ·rw[if_pos h];exact hX H h
 ·rw[if_neg h];exact H y st (hY h)
theorem w_runsA(hL:ZdY prog w A s k0 κ)(hk:PyProof.Rows.KeysOf κ a₀)(B:SB k0 a₀ st){Q:Unit→SortSt→Prop}
  (q:∀ (st':SortSt),(arrOf st').Perm a₀→failedOf st'=none→SortedToK κ (arrOf st') a₀.size→Q () st'):wpS (model prog w) A E s sortRuns' Q st:=by
 show wpS _ _ _ _ (get >>= _) _ _
 refine wpS_bind (wpS_get ?_)
 have hsz:(arrOf st).size=a₀.size:=B.size
 have R0:Rn κ k0 a₀ st [] (arrOf st).toList:=⟨B.kind,B.failed,rfl,B.perm,(fun r hr=>by cases hr),(fun r hr=>by cases hr),by rw[B.pend];rfl⟩
 show wpS _ _ _ _ (forIn [:(arrOf st).size] (none,0) _ >>= _) _ _
 generalize minRun' (arrOf st).size (arrOf st).size 0=mr
 rw[hsz]
 refine wpS_bind (wpS_mono (wpS_forRange (fun x c st1=>∃rs rest,c=(none,rs.flatten.length)∧Rn κ k0 a₀ st1 rs rest∧x≤rs.flatten.length) (Q:=fun c st1=>∃rs n,c=(none,n)∧Rn κ k0 a₀ st1 rs []) ?_ ?_ ⟨[],_,rfl,R0,Qg _⟩) ?_)
 ·rintro x c st1 _ hx ⟨rs,rest,rfl,R1,x1⟩
  have T1:=R1.total
  dsimp only
  refine w_if (fun hge=>?_) fun hge=>?_
  ·have:rest=[]:=QL (by omega)
   subst this
   exact wpS_pure ⟨rs,_,rfl,R1⟩
  have B1:Ph k0 a₀ rs.flatten.length st1 st1:=⟨R1.kind,R1.failed,rfl,R1.perm,fun _ _=>rfl⟩
  refine wpS_bind (w_countA hL hk (by omega) (by omega) B1 fun n st2 B2 n1 n2 S2=>?_)
  dsimp only
  have key:∀ (n:Nat) (st3:SortSt),Ph k0 a₀ rs.flatten.length st1 st3→1≤n→n≤a₀.size-rs.flatten.length→SgK κ (arrOf st3) rs.flatten.length n→∃rest,Rn κ k0 a₀ st3 rs rest∧kS κ (rest.take n)∧1≤n∧n≤rest.length:=fun n st3 B3 m1 m2 S3=>by
   have R3:=Ph.runs R1 B3 rfl
   refine⟨_,R3,S3.list,m1,?_⟩
   have:=R3.total
   omega
  generalize hn:n=n'
  revert n' hn
  refine w_jpS (fun n st3=>∃rest,Rn κ k0 a₀ st3 rs rest∧kS κ (rest.take n)∧1≤n∧n≤rest.length) ?_ ?_ fun _=>key n st2 B2 n1 n2 S2
  ·rintro n st3 ⟨rest,R3,s3,l1,l2⟩
   have fin:∀ (rs':List (List Keyed)) (st5 st6:SortSt),Rn κ k0 a₀ st5 rs' rest→rs'.flatten.length=rs.flatten.length→kindOf st6=kindOf st5→failedOf st6=failedOf st5→arrOf st6=arrOf st5→(pendingOf st6).toList.map ZbU=(pendingOf st5).toList.map ZbU++[(rs.flatten.length,n)]→∃rs rest,Rn κ k0 a₀ st6 rs rest∧x+1≤rs.flatten.length∧(none,rs'.flatten.length+n)=((none:Option Unit),rs.flatten.length):=fun rs' st5 st6 R5 e5 a1 a2 a3 a4=>by
    refine⟨_,_,R5.push s3 l1 l2 a1 a2 a3 (by rw[a4,e5]),?_,?_⟩
    ·rw[QaQ,Qd,Qap,List.flatten_nil,Qav,e5,Qq]
     omega
    ·rw[QaQ,Qd,Qap,List.flatten_nil,Qav,Qq,QaV l2]
   refine wpS_bind (wpS_get ?_)
   show wpS _ _ _ _ (match (pendingOf st3).back? with|some (s1,n1,snd)=>_|x=>_) _ _
   rcases hb:(pendingOf st3).back? with _|⟨s1,n1,p1⟩
   ·dsimp only
    refine wpS_bind (wpS_modify (wpS_pure ?_))
    obtain⟨rs2,rest2,R6,h6,e6⟩:=fin rs st3 (setPending st3 ((pendingOf st3).push (rs.flatten.length,n,0))) R3 rfl rfl rfl rfl (by show ((pendingOf st3).push _).toList.map ZbU=_;rw[Qao,Qh];rfl)
    exact⟨rs2,rest2,e6,R6,h6⟩
   ·dsimp only
    refine wpS_bind (wpS_mono (wpS_forRange (fun _ c st4=>∃rs',c=(none,())∧Rn κ k0 a₀ st4 rs' rest∧rs'.flatten.length=rs.flatten.length) (Q:=fun c st4=>∃rs',c=(none,())∧Rn κ k0 a₀ st4 rs' rest∧rs'.flatten.length=rs.flatten.length) ?_ (fun c st4 h=>h) ⟨rs,rfl,R3,rfl⟩) ?_)
    ·rintro y c st4 _ hy ⟨rs',rfl,R4,e4⟩
     refine wpS_bind (wpS_get ?_)
     show wpS _ _ _ _ (match (if (pendingOf st4).size>1 then (pendingOf st4)[(pendingOf st4).size-2]? else none) with|some (fst,fst_1,older)=>_|x=>_) _ _
     by_cases hs:(pendingOf st4).size>1
     ·rw[if_pos hs]
      rcases hp:(pendingOf st4)[(pendingOf st4).size-2]? with _|⟨u,v,older⟩
      ·exact wpS_pure ⟨rs',rfl,R4,e4⟩
      ·refine w_if (fun _=>wpS_pure ⟨rs',rfl,R4,e4⟩) fun _=>?_
       exact wpS_bind (w_atJ hL hk R4 (fun st5 rs5 R5 e5 _=>wpS_pure ⟨_,rfl,R5,e5.trans e4⟩) (by rw[R4.len]at *;omega))
     ·rw[if_neg hs]
      exact wpS_pure ⟨rs',rfl,R4,e4⟩
    ·rintro c st4 ⟨rs',rfl,R4,e4⟩
     dsimp only
     refine wpS_bind (wpS_modify ?_)
     refine wpS_bind (wpS_modify (wpS_pure ?_))
     obtain⟨rs2,rest2,R6,h6,e6⟩:=fin rs' st4 (SortSt.mk' (kindOf st4) (arrOf st4) (((pendingOf st4).modify ((pendingOf st4).size-1) fun x=>(x.1,x.2.1,power' a₀.size (2*s1+n1) (2*s1+n1+n1+n) a₀.size)).push (rs.flatten.length,n,0)) (gallopOf st4) (failedOf st4)) R4 e4 rfl rfl rfl (by
      show (Array.push _ _).toList.map ZbU=_
      rw[Qao,Qh,Array.toList_modify,ZkS]
      ·rfl
      ·exact fun _=>rfl)
     rw[e4]at e6
     exact⟨rs2,rest2,e6,R6,h6⟩
  ·intro H hlt
   refine wpS_bind (wpS_lift (wpAny_rule ⟨rfl,?_⟩))
   refine wpS_bind (w_binA hL hk (by omega) (by omega) n1 B2 S2 fun st3 B3 S3=>?_)
   exact H _ _ (key _ st3 B3 (by omega) (by omega) S3)
 ·rintro c st1 ⟨rs,rest,rfl,R1,x1⟩
  have T1:=R1.total
  have:rest=[]:=QL (by omega)
  subst this
  exact⟨rs,_,rfl,R1⟩
 rintro c st1 ⟨rs,n,rfl,R1⟩
 dsimp only
 have T1:rs.flatten.length=a₀.size:=by have:=R1.total;simpa using this
 have L1:=Zi5 rs R1.ne
 refine wpS_bind (wpS_mono (wpS_forRange (fun x c st2=>∃rs,c=(none,())∧Rn κ k0 a₀ st2 rs []∧rs.length≤max 1 (a₀.size-x)) (Q:=fun c st2=>∃rs,c=(none,())∧Rn κ k0 a₀ st2 rs []∧rs.length≤1) ?_ ?_ ⟨rs,rfl,R1,by omega⟩) ?_)
 ·rintro x c st2 _ hx ⟨rs,rfl,R2,h2⟩
  refine wpS_bind (wpS_get ?_)
  have l2:=R2.len
  refine w_if (fun h=>wpS_pure ⟨rs,rfl,R2,by rw[← l2];exact h⟩) fun h=>?_
  have h':¬ (pendingOf st2).size≤1:=h
  refine wpS_bind (w_atJ hL hk R2 (fun st3 rs3 R3 _ e3=>wpS_pure ⟨_,rfl,R3,by omega⟩) ?_)
  have hj:∀ (c:Prop) [Decidable c],(if c then (pendingOf st2).size-2-1 else (pendingOf st2).size-2)+1<rs.length:=fun c _=>by split<;>omega
  exact hj _
 ·rintro c st2 ⟨rs,rfl,R2,h2⟩
  exact⟨rs,rfl,R2,by omega⟩
 ·rintro c st2 ⟨rs,rfl,R2,h2⟩
  refine wpS_pure (q _ R2.perm R2.failed ?_)
  rw[← R2.perm.size_eq]
  refine ZfA ?_
  rw[R2.arr]
  cases rs with
  | nil=>exact List.Pairwise.nil
  | cons r t =>
   have:t=[]:=QL (by rw[QC]at h2;omega)
   subst this
   simpa using R2.srt r (QK ..)
end
section
variable {prog:Program} {w:World} {A:Around} {E:Value→Shared→Prop} {s:Shared} {κ:PyProof.Rows.KeyKind}
theorem w_sortA{a:Addr}{vs:List Value}{n:Nat}{P:PySem.Fin→Shared→Prop}(ha:s.heap.get? a=some (seqObj "list" vs.toArray n))(hk:PyProof.Rows.KeysOf κ (pairsOf vs))(h2:2≤vs.length)(hz:vs.length≤sizeLine)
  (hK:∀ (s':Shared),(∀b o,b≠a→s.heap.get? b=some o→s'.heap.get? b=some o)→∀ (E:Value→Shared→Prop) (Q:SortKind→Shared→Prop),(∀k0,ZdY prog w A s' k0 κ→Q k0 s')→wpAny (model prog w) A (keyKind' vs.toArray) Q E s')
  (q:∀ (st':SortSt),(arrOf st').Perm (pairsOf vs)→SortedToK κ (arrOf st') (pairsOf vs).size→P (Fin.done (Flow.ret Value.none)) { s with heap:=sortedHeap s.heap a vs ((arrOf st').map fun x=>x.snd) }) :
  wpAny (model prog w) A (Builtin.«list.sort» { pos:=[.ref a] }) P E s:=by
 rw[← Qx]at hz
 rw[list_sort_plain]
 refine wpAny_bind (Zba ha rfl ?_)
 show wpAny _ _ (updateSeq a (fun x=>#[]) >>= _) _ _ _
 refine wpAny_bind (wpAny_updateSeq ha rfl ?_ hz (by show 0≤_;omega))
 have e1:=get?_update_seq ha (fun _=>#[])
 refine wpAny_bind (seqEpoch_at e1 rfl ?_)
 refine wpAny_bind (wpAny_newTuple ?_ (by simpa using hz))
 refine wpAny_bind (wpAny_newList ?_ (by show 0≤_;omega))
 refine wpAny_holding ?_
 have hn2:¬ vs.toArray.size<2:=by rw[Qx];omega
 have hps:(pairsOf vs).size=vs.length:=by unfold pairsOf;simp
 rw[if_neg hn2,if_neg hn2]
 have keep:∀b o,b≠a→s.heap.get? b=some o→(((s.heap.update a (Obj.mapSeq fun _=>#[])).push { cls:=.type "tuple",data:=.seq vs.toArray.toList.toArray }).push { cls:=.type "list",data:=.seq ([]:List Value).toArray }).get? b=some o:=fun b o hb h =>
  Qc _ (Qc _ (Heap.get?_update_of_ne _ (Ne.symm hb) h))
 have e2:(((s.heap.update a (Obj.mapSeq fun _=>#[])).push { cls:=.type "tuple",data:=.seq vs.toArray.toList.toArray }).push { cls:=.type "list",data:=.seq ([]:List Value).toArray }).get? a=some (seqObj "list" #[] _):=Qc _ (Qc _ e1)
 refine wpAny_bind (hK _ keep _ _ fun k0 hL=>?_)
 refine wpAny_bind ?_
 have B:SB k0 (pairsOf vs) (SortSt.mk' k0 (vs.toArray.zip vs.toArray) #[] 7 none):=⟨Array.Perm.refl _,rfl,rfl,rfl⟩
 refine thn (w_runsA (E:=E) hL hk B (Q:=fun _ st'=>(arrOf st').Perm (pairsOf vs)∧failedOf st'=none∧SortedToK κ (arrOf st') (pairsOf vs).size) (fun st' a b c=>⟨a,b,c⟩)) fun r s' hr=>?_
 obtain⟨⟨⟩,st'⟩:=r
 obtain⟨rfl,p1,p2,p3⟩:=hr
 refine wpAny_bind (seqEpoch_at e2 rfl ?_)
 have hsz:((arrOf st').map fun x=>x.snd).size=vs.length:=by rw[Array.size_map,p1.size_eq,hps]
 show wpAny _ _ (updateSeq a (fun x=>(arrOf st').map fun x=>x.snd) >>= _) _ _ _
 refine wpAny_bind (wpAny_updateSeq e2 rfl ?_ (by show 0≤_;omega) (by show ((arrOf st').map fun x=>x.snd).size≤_;rw[hsz];rw[Qx]at hz;omega))
 rw[p2]
 rw[if_neg (by simp)]
 exact wpAny_pure (q st' p1 p3)
theorem w_sortedA{l:Addr}{vs:List Value}{Q:Value→Shared→Prop}(hl:s.heap.IsList l vs.toArray)(hk:PyProof.Rows.KeysOf κ (pairsOf vs))(h2:2≤vs.length)(hz:vs.length≤sizeLine)
  (hK:∀ (A:Around) (s':Shared),(∀b o,s.heap.get? b=some o→s'.heap.get? b=some o)→∀ (E:Value→Shared→Prop) (Q:SortKind→Shared→Prop),(∀k0,ZdY prog w A s' k0 κ→Q k0 s')→wpAny (model prog w) A (keyKind' vs.toArray) Q E s')
  (q:∀ (st':SortSt),(arrOf st').Perm (pairsOf vs)→SortedToK κ (arrOf st') (pairsOf vs).size→Q (.ref (s.heap.objs.size+1)) { s with heap:=sortedAll s.heap vs ((arrOf st').map fun x=>x.snd) }) :
  wpAny (model prog w) A (call (.builtin "sorted") [.ref l]) Q E s:=by
 refine Calls.call_function_entry kind_sorted plain_sorted entry_sorted (args_sorted1 (.ref l)) ?_
 refine wpAny_bind (wpAny_pure (wpAny_bind (collect_list hl (wpAny_bind (wpAny_newList ?_ hz)) hz)))
 have hsz:((s.heap.push (seqObj "list" #[] 0)).update s.heap.objs.size (Obj.mapSeq fun x=>x++vs.toArray)).objs.size=s.heap.objs.size+1:=by rw[Heap.size_update,size_push']
 have hoL:((((s.heap.push (seqObj "list" #[] 0)).update s.heap.objs.size (Obj.mapSeq fun x=>x++vs.toArray)).push (seqObj "list" vs.toArray 0)).get? (s.heap.objs.size+1))=some (seqObj "list" vs.toArray 0):=by
  rw[← hsz];exact Qz _ rfl
 have keep:∀b o,s.heap.get? b=some o→(((s.heap.push (seqObj "list" #[] 0)).update s.heap.objs.size (Obj.mapSeq fun x=>x++vs.toArray)).push (seqObj "list" vs.toArray 0)).get? b=some o:=fun b o h =>
  Qc _ (Heap.get?_update_of_ne _ (Q4 (Qo h)) (Qc _ h))
 show wpAny _ _ (holding [.ref ((s.heap.push (seqObj "list" #[] 0)).update s.heap.objs.size (Obj.mapSeq fun x=>x++vs.toArray)).objs.size] (call (.builtin "list.sort") [.ref ((s.heap.push (seqObj "list" #[] 0)).update s.heap.objs.size (Obj.mapSeq fun x=>x++vs.toArray)).objs.size]) >>= fun _=>ret (.ref ((s.heap.push (seqObj "list" #[] 0)).update s.heap.objs.size (Obj.mapSeq fun x=>x++vs.toArray)).objs.size)) _ _ _
 rw[hsz]
 refine wpAny_bind (wpAny_holding (wpAny_call_entry slot_list_sort ⟨_,hoL,rfl⟩ entry_list_sort ?_ (args_list_sort _)))
 refine w_sortA hoL hk h2 hz (fun s' hk'=>hK _ s' fun b o h=>hk' b o (QB (QA (Qo h) (Qaj _))) (keep b o h)) fun st' p1 p3=>?_
 exact⟨_,rfl,wpAny_pure ⟨_,rfl,q st' p1 p3⟩⟩
end
def Zmc(K:PySem.W.Frag):List V→Hp→VK→Prop:=fun xs H Q=>∃ (p:Addr) (ts:Zh2) (sh:List Bool),xs=[.ref p]∧SqL K H p (Zfm ts)∧AtT H ts∧sh≠[]∧(∀t∈ts,ZbQ t.2=sh) ∧
 ∀ (l:Addr) (ts':Zh2),H l=none→ts'.Perm ts→ts'.Pairwise (fun a b=>Zbv b.2 a.2=false)→Q (.ref l) (upd H l (.lst (Zfm ts')))
theorem ZfS{X:Cx}:Zaz X (.builtin "sorted") (Zmc X.K):=by
 intro pins s σ H xs us Q I r h
 obtain⟨p,ts,sh,rfl,hq,hat,hsh,hts,q⟩:=h
 obtain⟨u,rfl,rx⟩:=ZcB r
 cases rx
 obtain⟨its,rv,pl,hz⟩:=I.list hq
 have ei:=Zgp rv
 subst ei
 have tupAt:∀t∈ts,∃its:List Value,Zy (t.2.map kV) its∧IsTup s.heap t.1 its.toArray:=fun t ht=>by
  obtain⟨i,v,q,_⟩:=I.tuple (SqT.of (K:=X.K) (hat t ht))
  exact⟨i,v,q⟩
 have eptl:(pairsOf (ts.map fun t=>Value.ref t.1)).toList=ts.map fun t=>(Value.ref t.1,Value.ref t.1):=by
  unfold pairsOf
  rw[Array.toList_zip,Zic,Qy]
  rfl
 have fin:∀ (out:Array Value) (ts':Zh2),ts'.Perm ts→ts'.Pairwise (fun a b=>Zbv b.2 a.2=false)→out.toList=ts'.map (fun t=>Value.ref t.1)→EP X pins σ Q (.ref (s.heap.objs.size+1)) { s with heap:=sortedAll s.heap (ts.map fun t=>Value.ref t.1) out }:=fun out ts' pm pw eo=>by
  obtain⟨e,he⟩:=sortedAll_at s.heap (ts.map fun t=>Value.ref t.1) out
  refine⟨.ref (s.heap.objs.size+1),_,I.laid (t':=s.toks) (o:=.lst (Zfm ts')) (fun _ _=>sortedAll_old) (Qaj _) ⟨?_,out.toList,e,by rw[eo];exact Zgd ts',by simpa using he⟩,rfl,q _ ts' (I.hok.fresh (Qaj _)) pm pw⟩
  unfold Zfm
  rw[Qa,pm.length_eq];unfold Zfm at hz;rw[Qa]at hz;exact hz
 by_cases h2:ts.length<2
 ·refine w_sorted0 pl.isList (by rw[Qa];exact h2) (fin _ ts (.refl _) ?_ ?_)
  ·cases ts with
   | nil=>exact .nil
   | cons t r =>
    have:r=[]:=QL (by rw[QC]at h2;omega)
    subst this
    exact List.pairwise_singleton _ _
  ·rw[Array.toList_map,eptl,Qy];rfl
 ·have hk:PyProof.Rows.KeysOf (Zg6 H sh) (pairsOf (ts.map fun t=>Value.ref t.1)):=fun z hz'=>by
   rw[eptl]at hz'
   obtain⟨t,ht,rfl⟩:=QJ.mp hz'
   exact⟨t.2,by rw[← hts t ht];exact Zhq (hat t ht)⟩
  refine w_sortedA (κ:=Zg6 H sh) pl.isList hk (by rw[Qa];omega) (by unfold Zfm at hz;rw[Qa]at hz ⊢;exact hz) (fun A' s' kp E' Q' q'=>?_) fun st' p1 p3=>?_
  ·have tup':∀ {a:Addr} {its:List Value},IsTup s.heap a its.toArray→IsTup s'.heap a its.toArray:=fun ⟨o,ho,hc⟩=>⟨o,kp _ _ ho,hc⟩
   refine Zmi (fun v hv=>?_) fun b=>q' _ fun E2 x y a c Q2 hx hy h2=>?_
   ·obtain⟨t,ht,rfl⟩:=QJ.mp hv
    obtain⟨i,v,qt⟩:=tupAt t ht
    have hs1:=hts t ht
    cases hk2:t.2 with
    | nil=>rw[hk2]at hs1;exact absurd hs1.symm hsh
    | cons k kr =>
     rw[hk2]at v
     cases v with
     | cons r1 rr=>exact⟨t.1,_,k,_,rfl,tup' qt,rfl,r1⟩
   ·obtain⟨a1,rfl,ha1,s1⟩:=ZhJ hx
    obtain⟨a2,rfl,ha2,s2⟩:=ZhJ hy
    obtain⟨i1,v1,t1,_⟩:=I.tuple (SqT.of (K:=X.K) ha1)
    obtain⟨i2,v2,t2,_⟩:=I.tuple (SqT.of (K:=X.K) ha2)
    exact Zoi (tup' t1) (tup' t2) v1 v2 (s1.trans s2.symm) h2
  ·have p1':=p1.toList
   obtain⟨ts',pm,e⟩:=ZhD (fun t:Addr×List Key=>(Value.ref t.1,Value.ref t.1)) p1' ts eptl
   refine fin _ ts' pm ?_ ?_
   ·rw[List.pairwise_iff_getElem]
    intro i j hi hj hij
    have hsz:(pairsOf (ts.map fun t=>Value.ref t.1)).size=ts'.length:=by rw[← QE,eptl,Qa,pm.length_eq]
    have:=p3 i j (by omega) (by rw[hsz];exact hj)
    have key:∀k (hk':k<ts'.length),KK (Zg6 H sh) (arrOf st') k=ts'[k].2:=fun k hk'=>by
     unfold KK
     have e1:(arrOf st')[k]? = some (Value.ref ts'[k].1,Value.ref ts'[k].1):=by
      rw[← QT,e,Qs,Qb hk'];rfl
     rw[e1]
     have hm:ts'[k]∈ts:=pm.mem_iff.mp (QV hk')
     show ((Zf1 H sh (.ref ts'[k].1)).getD _)=_
     rw[← hts _ hm,Zhq (hat _ hm)];rfl
    rw[key i hi,key j hj]at this
    exact this
   ·rw[Array.toList_map,e,Qy];rfl
theorem Zpp{X:Cx}(K:PySem.W.Frag)(h:X.K=K:=by rfl):Zaz X (.builtin "sorted") (Zmc K):=by subst h;exact ZfS
end L2
set_option maxHeartbeats 1000000
namespace My
open PySem L2 PyProof.Rows
abbrev Ztl:=@List.tail Stmt
abbrev Zt2(x:List Stmt):=Ztl (Ztl x)
abbrev Zt4(x:List Stmt):=Zt2 (Zt2 x)
abbrev Zt8(x:List Stmt):=Zt4 (Zt4 x)
abbrev Zt16(x:List Stmt):=Zt8 (Zt8 x)
abbrev Zt32(x:List Stmt):=Zt16 (Zt16 x)
local macro_rules|`(‹$i:num›)=>`(@pv _ $i _ _ (by rfl) (Or.inl rfl) (by decide) (by decide))
local macro_rules|`(tactic|trivial)=>`(tactic|first|exact .inl rfl|exact .inr rfl|decide|exact Nat.le_refl _|omega)
local macro_rules
|`(#[Xns,$a,$b,$c])=>`(PySem.W.nsIn $a mainGlobals $b=some (some (.ref $c)))
|`(#[Xfi,$a,$b,$c,$d])=>`(PySem.W.findIn $a (.ref $b) $c=some (some (.ref $d)))
|`(#[Xlk,$z,$a,$b,$c,$d,$e,$f,$g,$h,$i,$j,$k,$l,$m])=>`(($z).lookup $a=some ⟨$b,$c,.func (PySem.W.fnOf $d $e (Zo $f) (Zn $f) (Zf $f) .none $g $h $i $j $k $l),$m⟩)
|`(#[Xci,$a,$b,$c])=>`(PySem.W.codeIn $a $b $c=true)
|`(#[Xki,$a,$b])=>`(PySem.W.keepIn $a (.ref $b)=true)
|`(#[Xif,$a,$b])=>`(PySem.W.isFn $a (.ref $b)=true)
|`(#[Zg,$a,$b])=>`(@Zg _ _ _ _ _ $a $b)
|`(#[Zv,$a,$b,$c,$d])=>`(@Zv _ _ $a _ _ _ _ $b rfl $c $d (by rfl) (by trivial))
|`(#[ZI,$a,$b,$c])=>`(@ZI _ _ _ _ _ _ _ _ $a $b $c)
|`(#[Zh])=>`(@Zh _ _ _ _)
|`(#[Zj,$a])=>`(@Zj _ _ _ $a)
|`(#[Zr,$a])=>`(@Zr _ _ _ _ $a)
|`(#[Zbe,$a,$b,$c])=>`(@Zbe _ _ _ _ _ _ _ _ $a $b $c)
|`(#[Zs,$a,$b,$c,$d])=>`(@Zs _ _ _ _ _ _ _ _ $a $b $c $d)
|`(#[Zk,$a,$b,$c,$d,$e])=>`(@Zk _ _ _ _ _ _ _ _ _ $a $b $c $d $e (by decide) (by decide) (by rfl) (by rfl))
|`(#[Za,$a,$b])=>`(@Za _ _ _ _ _ $a $b (by rfl))
|`(#[Ze])=>`(@Ze _)
|`(#[ZF,$a,$b,$c])=>`(@ZF _ _ _ _ _ _ _ $a $b $c (fun _ _=>rfl))
|`(#[ZaN,$a])=>`(@ZaN _ _ _ _ $a)
|`(#[Zb9,$a,$b,$c,$d,$e])=>`(@Zb9 _ _ _ _ _ _ _ _ _ $a $b $c $d $e (by decide) (by decide) (by rfl) (by rfl))
|`(#[Zda,$a,$b,$c,$d])=>`(@Zda _ _ _ _ _ _ _ _ $a $b $c $d)
|`(#[Zbt,$a,$b])=>`(@Zbt _ _ _ _ _ _ $a $b (by rfl) (by rfl) (by rfl))
|`(#[ZdA,$a,$b,$c])=>`(@ZdA _ _ _ _ _ _ _ $a $b $c (by intro _;rfl))
|`(#[Zaw,$a,$b,$c])=>`(@Zaw _ _ _ _ _ _ _ _ $a $b $c)
|`(#[ZQ])=>`(@ZQ _)
|`(#[ZB,$a,$b,$c,$d])=>`(@ZB _ _ _ _ _ _ _ _ _ _ _ $a $b $c (by trivial) $d (by decide) (by rfl) (by rfl))
|`(#[Za2])=>`(@Za2 _ _ _ _)
|`(#[Zbl,$a,$b,$c,$d,$e])=>`(@Zbl _ _ _ _ _ _ _ _ _ _ _ _ _ _ $a rfl rfl rfl $b $c $d $e (by intro _;rfl))
|`(#[Zbh,$a,$b])=>`(@Zbh _ _ _ _ _ _ rfl $a $b (by rfl))
|`(#[pv,$a,$b])=>`(@pv _ $a _ _ (by rfl) $b (by decide) (by decide))
|`(#[cg,$a,$b])=>`(@cg _ _ _ _ _ _ _ _ _ _ _ $a $b rfl (by ac_rfl) (by rfl))
|`(#[cv,$a,$b])=>`(@cv _ _ _ _ _ _ _ _ _ _ _ $a $b rfl (by ac_rfl) (by rfl) (by decide) (by decide))
|`(#[ZeD,$a,$b,$c,$d,$e,$f])=>`(@ZeD _ _ _ _ _ _ _ _ _ _ _ _ $a $b $c $d $e $f (by rfl) (by rfl) (by rfl) (by rfl) (by rfl))
|`(#[Zem,$a,$b])=>`(@Zem _ _ _ _ _ _ _ $a $b)
|`(#[ZeY,$a])=>`(@ZeY _ _ _ $a (by intro _;rfl))
|`(#[Zay,$a])=>`(@Zay _ _ _ _ _ $a)
|`(#[Zcc,$a,$b])=>`(@Zcc _ _ _ _ $a $b (by rfl) (by decide) (by decide))
|`(#[gT,$a,$b,$c])=>`(@gT _ $a _ _ _ $b _ $c (by rfl) (by rfl) (by rfl) (by rfl))
|`(#[Zw,$a,$b])=>`(@Zw _ _ _ _ _ $a $b (by rfl))
|`(#[cw,$a,$b])=>`(@cw _ _ _ _ _ _ _ _ _ _ _ $a $b rfl (by ac_rfl) (by rfl) (by decide) (by decide))
|`(#[Zaj])=>`(@Zaj _ _ _)
|`(#[Zct,$a,$b,$c,$d])=>`(@Zct _ _ _ _ _ _ _ _ $a rfl $b $c $d (by intro _;rfl))
|`(#[ZP,$a,$b,$c])=>`(@ZP _ _ $a _ $b rfl $c (by trivial))
|`(#[Za0,$a])=>`(@Za0 _ _ _ _ $a (by rfl))
|`(#[iE,$a,$b,$c])=>`(@iE _ $a _ _ _ _ _ _ _ $b $c (by rfl) (by rfl) (by rfl))
|`(#[ZW,$a])=>`(@ZW _ _ _ _ _ $a (by rfl))
|`(#[ZaU,$a,$b,$c,$d])=>`(@ZaU _ _ _ _ _ _ _ _ _ _ _ _ $a $b $c $d (by trivial) (by rfl))
|`(#[Zbw,$a,$b])=>`(@Zbw _ _ _ _ _ _ _ _ $a $b (by rfl))
|`(#[ZeA,$a,$b,$c,$d,$e])=>`(@ZeA _ _ _ _ _ _ _ _ _ _ _ _ _ _ _ $a $b $c $d $e (by trivial) (by rfl) (by rfl) (by rfl))
|`(#[ZkD,$a,$b,$c])=>`(@ZkD _ _ _ _ _ _ _ _ _ _ _ _ $a $b $c (by trivial) (by rfl) (by decide) (by rfl) (by rfl))
|`(#[iL,$a,$b])=>`(@iL _ $a _ _ _ $b (by rfl))
|`(#[Zfl,$a,$b,$c,$d,$e,$f,$g])=>`(@Zfl _ _ _ _ _ $a _ _ _ _ _ _ _ _ _ _ _ _ $b rfl (Or.inl rfl) $c rfl rfl rfl $d $e $f $g (by rfl) (by intro _;rfl) (by trivial))
theorem xw4{α0:Type _}{α1:Type _}{α2:Type _}{α3:Type _}{p:α0→α1→α2→α3→Prop}(a0:α0)(a1:α1)(a2:α2)(a3:α3)(h:p a0 a1 a2 a3):∃a0 a1 a2 a3,p a0 a1 a2 a3:=⟨a0,a1,a2,a3,h⟩
theorem xw5{α0:Type _}{α1:Type _}{α2:Type _}{α3:Type _}{α4:Type _}{p:α0→α1→α2→α3→α4→Prop}(a0:α0)(a1:α1)(a2:α2)(a3:α3)(a4:α4)(h:p a0 a1 a2 a3 a4):∃a0 a1 a2 a3 a4,p a0 a1 a2 a3 a4:=⟨a0,a1,a2,a3,a4,h⟩
theorem xw9{α0:Type _}{α1:Type _}{α2:Type _}{α3:Type _}{α4:Type _}{α5:Type _}{α6:Type _}{α7:Type _}{α8:Type _}{p:α0→α1→α2→α3→α4→α5→α6→α7→α8→Prop}(a0:α0)(a1:α1)(a2:α2)(a3:α3)(a4:α4)(a5:α5)(a6:α6)(a7:α7)(a8:α8)(h:p a0 a1 a2 a3 a4 a5 a6 a7 a8):∃a0 a1 a2 a3 a4 a5 a6 a7 a8,p a0 a1 a2 a3 a4 a5 a6 a7 a8:=⟨a0,a1,a2,a3,a4,a5,a6,a7,a8,h⟩
theorem Zqd{α0:Type _}{α1:Type _}{α2:Type _}{α3:Type _}{α4:Type _}{α5:Type _}{α6:Type _}{α7:Type _}{α8:Type _}{α9:Type _}{α10:Type _}{p:α0→α1→α2→α3→α4→α5→α6→α7→α8→α9→α10→Prop}(a0:α0)(a1:α1)(a2:α2)(a3:α3)(a4:α4)(a5:α5)(a6:α6)(a7:α7)(a8:α8)(a9:α9)(a10:α10)(h:p a0 a1 a2 a3 a4 a5 a6 a7 a8 a9 a10):∃a0 a1 a2 a3 a4 a5 a6 a7 a8 a9 a10,p a0 a1 a2 a3 a4 a5 a6 a7 a8 a9 a10:=⟨a0,a1,a2,a3,a4,a5,a6,a7,a8,a9,a10,h⟩
theorem ZpC{α0:Type _}{α1:Type _}{α2:Type _}{α3:Type _}{α4:Type _}{α5:Type _}{α6:Type _}{α7:Type _}{α8:Type _}{α9:Type _}{α10:Type _}{α11:Type _}{α12:Type _}{α13:Type _}{p:α0→α1→α2→α3→α4→α5→α6→α7→α8→α9→α10→α11→α12→α13→Prop}(a0:α0)(a1:α1)(a2:α2)(a3:α3)(a4:α4)(a5:α5)(a6:α6)(a7:α7)(a8:α8)(a9:α9)(a10:α10)(a11:α11)(a12:α12)(a13:α13)(h:p a0 a1 a2 a3 a4 a5 a6 a7 a8 a9 a10 a11 a12 a13):∃a0 a1 a2 a3 a4 a5 a6 a7 a8 a9 a10 a11 a12 a13,p a0 a1 a2 a3 a4 a5 a6 a7 a8 a9 a10 a11 a12 a13:=⟨a0,a1,a2,a3,a4,a5,a6,a7,a8,a9,a10,a11,a12,a13,h⟩
def hdS:List Stmt→Stmt
 | a::_=>a
 | []=>.Pass ⟨0,0,0,0⟩
abbrev Zal:List Stmt:=PySem.Challenge.pw_mergetree_k63_whole_bounds_never_passed.main.body
abbrev Ziv:Stmt:=hdS (Zt16 (Zt2 Zal))
abbrev ZaF:Stmt:=hdS (Zt16 (Zt2 (Ztl Zal)))
abbrev Zce:Stmt:=hdS (Zt2 Zal)
abbrev Zb0:Stmt:=hdS (Zt2 (Ztl Zal))
abbrev Zb4:Stmt:=hdS (Zt4 Zal)
abbrev ZcN:Stmt:=hdS (Zt8 (Ztl Zal))
abbrev ZcZ:Stmt:=hdS (Zt8 (Zt2 Zal))
abbrev ZaW:Stmt:=hdS (Zt8 (Zt2 (Ztl Zal)))
abbrev ZaX:Stmt:=hdS (Zt8 (Zt4 Zal))
abbrev Zbq:Stmt:=hdS (Zt8 (Zt4 (Ztl Zal)))
abbrev ZaK:Stmt:=hdS (Zt8 (Zt4 (Zt2 (Ztl Zal))))
abbrev Zci:Stmt:=hdS (Zt16 Zal)
abbrev ZaE:Stmt:=hdS (Zt16 (Zt4 Zal))
abbrev ZaY:Stmt:=hdS (Zt16 (Zt4 (Ztl Zal)))
abbrev Zb8:Stmt:=hdS (Zt16 (Zt4 (Zt2 (Ztl Zal))))
abbrev ZaS:Stmt:=hdS (Zt16 (Zt8 Zal))
abbrev Za6:Stmt:=hdS (Zt16 (Zt8 (Ztl Zal)))
abbrev Zc1:Stmt:=hdS (Zt16 (Zt8 (Zt2 (Ztl Zal))))
abbrev Zb3:Stmt:=hdS (Zt16 (Zt8 (Zt4 Zal)))
abbrev Zch:Stmt:=hdS (Zt16 (Zt8 (Zt4 (Ztl Zal))))
abbrev Zbj:Stmt:=hdS (Zt16 (Zt8 (Zt4 (Zt2 Zal))))
abbrev Zck:Stmt:=hdS (Zt16 (Zt8 (Zt4 (Zt2 (Ztl Zal)))))
abbrev Zcj:Stmt:=hdS (Zt32 Zal)
abbrev ZcU:Stmt:=hdS (Zt32 (Ztl Zal))
abbrev Zcl:Stmt:=hdS (Zt32 (Zt2 Zal))
abbrev ZbE:Stmt:=hdS (Zt32 (Zt2 (Ztl Zal)))
abbrev Zbg:Stmt:=hdS (Zt32 (Zt4 Zal))
abbrev ZbC:Stmt:=hdS (Zt32 (Zt4 (Ztl Zal)))
abbrev Zbc:Stmt:=hdS (Zt32 (Zt4 (Zt2 Zal)))
abbrev ZaP:Stmt:=ZaD Ziv 0
abbrev ZaC:Stmt:=ZaD Ziv 2
abbrev ZaJ:Stmt:=ZaD Ziv 3
abbrev Zar:Stmt:=ZaD ZaF 0
abbrev Zae:Stmt:=ZaD ZaF 1
abbrev Zau:Stmt:=ZaD ZaF 2
abbrev ZY:Stmt:=ZaD ZaF 3
abbrev Zac:Stmt:=ZaD ZaF 5
abbrev ZT:Stmt:=ZaD ZaF 6
abbrev Zai:Stmt:=ZaD ZaF 7
abbrev Z1:Stmt:=ZaD ZaF 13
abbrev Zat:Stmt:=ZaD ZaF 14
abbrev ZZ:Stmt:=ZaD ZaF 15
abbrev ZM:Stmt:=ZaD ZaF 16
abbrev Zap:Stmt:=ZaD ZaF 17
theorem ZhH:Zp ["_law_cell", "_law_k", "_law_m"] ["_law_cell", "_law_k"] (Zf Zc1):=⟨rfl,rfl,rfl,by ac_rfl,rfl,by ac_rfl,by ac_rfl⟩
theorem Zgc:Zp ["_law_script", "_law_k", "_law_cell"] ["_law_script", "_law_k"] (Zf Zb3):=⟨rfl,rfl,rfl,by ac_rfl,rfl,by ac_rfl,by ac_rfl⟩
theorem ZfV:Zp ["_law_left_here", "_law_many_here", "_law_digit"] ["_law_left_here", "_law_many_here"] (Zf Zch):=⟨rfl,rfl,rfl,by ac_rfl,rfl,by ac_rfl,by ac_rfl⟩
theorem Zfr:Zp ["_law_left_here", "_law_some"] ["_law_left_here"] (Zf Zbj):=⟨rfl,rfl,rfl,by ac_rfl,rfl,by ac_rfl,by ac_rfl⟩
theorem ZhB:Zp ["_law_left_here", "_law_stems_here", "_law_tail"] ["_law_left_here", "_law_stems_here"] (Zf Zck):=⟨rfl,rfl,rfl,by ac_rfl,rfl,by ac_rfl,by ac_rfl⟩
theorem ZbS:Zp ["one", "other", "far", "at"] ["one", "other", "far"] (Zf ZaX):=⟨rfl,rfl,rfl,by ac_rfl,rfl,by ac_rfl,by ac_rfl⟩
theorem Zml:Zp ["one", "other"] ["one", "other"] (Zf ZcN):=⟨rfl,rfl,rfl,by ac_rfl,rfl,by ac_rfl,by ac_rfl⟩
theorem ZfZ:Zp ["_law_found", "_law_due"] ["_law_found", "_law_due"] (Zf ZbC):=⟨rfl,rfl,rfl,by ac_rfl,rfl,by ac_rfl,by ac_rfl⟩
theorem Zcb:Zp ["_law_left_here", "_law_stems_here", "_law_most", "_law_found", "_law_k", "_law_key_here"] ["_law_left_here", "_law_stems_here", "_law_most"] (Zf Zcj):=⟨rfl,rfl,rfl,by ac_rfl,rfl,by ac_rfl,by ac_rfl⟩
theorem Zdg:Zp ["row", "told", "place", "key"] ["row"] (Zf Zci):=⟨rfl,rfl,rfl,by ac_rfl,rfl,by ac_rfl,by ac_rfl⟩
theorem ZhV:Zp ["one", "other", "at"] ["one", "other", "at"] (Zf Zbq):=⟨rfl,rfl,rfl,by ac_rfl,rfl,by ac_rfl,by ac_rfl⟩
theorem Zmq:Zp ["one", "other"] ["one", "other"] (Zf ZcZ):=⟨rfl,rfl,rfl,by ac_rfl,rfl,by ac_rfl,by ac_rfl⟩
theorem Zdm:Zp ["one", "other", "far", "at"] ["one", "other", "far"] (Zf ZaW):=⟨rfl,rfl,rfl,by ac_rfl,rfl,by ac_rfl,by ac_rfl⟩
theorem Zc5:Zp ["keys", "place"] ["keys"] (Zf ZaK):=⟨rfl,rfl,rfl,by ac_rfl,rfl,by ac_rfl,by ac_rfl⟩
theorem ZfX:Zp ["numbers", "middle"] ["numbers"] (Zf Zce):=⟨rfl,rfl,rfl,by ac_rfl,rfl,by ac_rfl,by ac_rfl⟩
theorem Zf9:Zp ["_law_left_here", "_law_way"] ["_law_left_here"] (Zf Zcl):=⟨rfl,rfl,rfl,by ac_rfl,rfl,by ac_rfl,by ac_rfl⟩
theorem ZgK:Zp ["self"] ["self"] (Zf ZaC):=⟨rfl,rfl,rfl,by ac_rfl,rfl,by ac_rfl,by ac_rfl⟩
theorem ZhQ:Zp ["self"] ["self"] (Zf ZaJ):=⟨rfl,rfl,rfl,by ac_rfl,rfl,by ac_rfl,by ac_rfl⟩
theorem Zhm:Zp ["self", "keys"] ["self", "keys"] (Zf ZaP):=⟨rfl,rfl,rfl,by ac_rfl,rfl,by ac_rfl,by ac_rfl⟩
theorem ZbV:Zp ["self", "rows", "number", "keys"] ["self", "rows"] (Zf Zar):=⟨rfl,rfl,rfl,by ac_rfl,rfl,by ac_rfl,by ac_rfl⟩
theorem ZcD:Zp ["self", "row"] ["self"] (Zf Zae):=⟨rfl,rfl,rfl,by ac_rfl,rfl,by ac_rfl,by ac_rfl⟩
theorem Zd3:Zp ["self"] ["self"] (Zf Z1):=⟨rfl,rfl,rfl,by ac_rfl,rfl,by ac_rfl,by ac_rfl⟩
theorem Z9:Zp ["self", "numbers", "first_side", "other_side", "one", "other", "winner", "loser", "far"] ["self", "numbers"] (Zf Zat):=⟨rfl,rfl,rfl,by ac_rfl,rfl,by ac_rfl,by ac_rfl⟩
theorem Zbm:Zp ["self", "one", "other", "far", "order", "alike_far", "seen"] ["self", "one", "other", "far"] (Zf Zap):=⟨rfl,rfl,rfl,by ac_rfl,rfl,by ac_rfl,by ac_rfl⟩
theorem ZcE:Zp ["number", "keys", "place"] ["number", "keys"] (Zf ZaE):=⟨rfl,rfl,rfl,by ac_rfl,rfl,by ac_rfl,by ac_rfl⟩
theorem Zme:Zp ["_law_left_here", "_law_stems_here", "_law_most"] ["_law_left_here", "_law_stems_here", "_law_most"] (Zf ZcU):=⟨rfl,rfl,rfl,by ac_rfl,rfl,by ac_rfl,by ac_rfl⟩
theorem Zeg:Zp ["_law_left_here", "_law_stems_here", "_law_most"] ["_law_left_here"] (Zf ZbE):=⟨rfl,rfl,rfl,by ac_rfl,rfl,by ac_rfl,by ac_rfl⟩
theorem Zdq:Zp ["self", "thing"] ["self"] (Zf Zau):=⟨rfl,rfl,rfl,by ac_rfl,rfl,by ac_rfl,by ac_rfl⟩
theorem Zam:Zp ["self", "number", "row", "comer", "meeting"] ["self", "number"] (Zf ZZ):=⟨rfl,rfl,rfl,by ac_rfl,rfl,by ac_rfl,by ac_rfl⟩
theorem Zag:Zp ["self", "meeting", "comer", "stayer", "winner", "loser", "far"] ["self", "meeting", "comer"] (Zf ZM):=⟨rfl,rfl,rfl,by ac_rfl,rfl,by ac_rfl,by ac_rfl⟩
theorem Zas:Zp ["numbers", "n", "matches", "least", "greatest", "others"] ["numbers", "n"] (Zf ZaY):=⟨rfl,rfl,rfl,by ac_rfl,rfl,by ac_rfl,by ac_rfl⟩
theorem Zbi:Zp ["numbers", "n", "others", "side", "first", "rest"] ["numbers", "n"] (Zf Zb0):=⟨rfl,rfl,rfl,by ac_rfl,rfl,by ac_rfl,by ac_rfl⟩
theorem ZbP:Zp ["self", "many", "things"] ["self", "many"] (Zf ZY):=⟨rfl,rfl,rfl,by ac_rfl,rfl,by ac_rfl,by ac_rfl⟩
theorem ZhY:Zp ["rows"] ["rows"] (Zf Za6):=⟨rfl,rfl,rfl,by ac_rfl,rfl,by ac_rfl,by ac_rfl⟩
theorem ZdE:Zp ["self"] ["self"] (Zf ZT):=⟨rfl,rfl,rfl,by ac_rfl,rfl,by ac_rfl,by ac_rfl⟩
theorem Zfb:Zp ["self"] ["self"] (Zf Zai):=⟨rfl,rfl,rfl,by ac_rfl,rfl,by ac_rfl,by ac_rfl⟩
theorem Zgw:Zp ["rows", "merge"] ["rows"] (Zf Zb8):=⟨rfl,rfl,rfl,by ac_rfl,rfl,by ac_rfl,by ac_rfl⟩
theorem ZeS:Zp ["self"] ["self"] (Zf Zac):=⟨rfl,rfl,rfl,by ac_rfl,rfl,by ac_rfl,by ac_rfl⟩
theorem Zj4:Zp ["many"] ["many"] (Zf Zb4):=⟨rfl,rfl,rfl,by ac_rfl,rfl,by ac_rfl,by ac_rfl⟩
theorem Zcr:Zp ["rows", "first_play", "signs"] ["rows"] (Zf ZaS):=⟨rfl,rfl,rfl,by ac_rfl,rfl,by ac_rfl,by ac_rfl⟩
theorem Zcu:Zp ["_law_rows_here", "_law_found", "_law_n", "_law_row_here"] ["_law_rows_here"] (Zf Zbg):=⟨rfl,rfl,rfl,by ac_rfl,rfl,by ac_rfl,by ac_rfl⟩
theorem ZaH:Zp ["_law_script", "_law_k", "_law_left_here", "_law_rows_here", "_law_kept", "_law_found", "_law_most", "_law_things", "_law_signs", "_law_due", "_law_merge", "_law_gone", "_law_turn", "_law_here", "_law_alone", "_law_key_here", "_law_many_here"] ["_law_script"] (Zf Zbc):=⟨rfl,rfl,rfl,by ac_rfl,rfl,by ac_rfl,by ac_rfl⟩
abbrev zsc(l:List (Str×NameKind)):Scope:={ kind:=.function,names:=l,isGenerator:=false,isCoroutine:=false,more:=[] }
def Znj:Scope:=zsc [(".0",.«local»),("_law_k",.«local»),("_law_pick",.globalImplicit),("_law_left_here",.free),("_law_some",.free)]
theorem Zl0:ZX ["_law_left_here", "_law_some"] ["_law_left_here", "_law_some", "_law_k"] (Zf Zbj) Znj:=⟨rfl,rfl,by ac_rfl,by ac_rfl,by ac_rfl,by decide,by ac_rfl,by ac_rfl⟩
def Zm3:Scope:=zsc [(".0",.«local»),("_law_k",.«local»),("_law_pick",.globalImplicit),("_law_left_here",.free)]
theorem Zng:ZX ["_law_left_here", "_law_stems_here", "_law_tail"] ["_law_left_here", "_law_stems_here", "_law_tail", "_law_k"] (Zf Zck) Zm3:=⟨rfl,rfl,by ac_rfl,by ac_rfl,by ac_rfl,by decide,by ac_rfl,by ac_rfl⟩
def Zm7:Scope:=zsc [(".0",.«local»),("_law_one",.«local»),("_law_other",.«local»),("_law_same",.globalImplicit)]
theorem Zkq:ZX ["_law_found", "_law_due"] ["_law_found", "_law_due", "_law_one", "_law_other"] (Zf ZbC) Zm7:=⟨rfl,rfl,by ac_rfl,by ac_rfl,by ac_rfl,by decide,by ac_rfl,by ac_rfl⟩
def Zny:Scope:=zsc [(".0",.«local»),("_law_k",.«local»),("_law_row",.globalImplicit),("_law_left_here",.free),("_law_most",.free),("_law_stems_here",.free)]
theorem ZjS:ZX ["_law_left_here", "_law_stems_here", "_law_most"] ["_law_left_here", "_law_stems_here", "_law_most", "_law_k"] (Zf ZbE) Zny:=⟨rfl,rfl,by ac_rfl,by ac_rfl,by ac_rfl,by decide,by ac_rfl,by ac_rfl⟩
def ZmK:Scope:=zsc [(".0",.«local»),("row",.«local»),("len",.globalImplicit)]
theorem Znp:ZX ["rows"] ["rows", "row"] (Zf Za6) ZmK:=⟨rfl,rfl,by ac_rfl,by ac_rfl,by ac_rfl,by decide,by ac_rfl,by ac_rfl⟩
def ZmP:Scope:=zsc [(".0",.«local»),("number",.«local»),("row",.«local»)]
theorem ZkL:ZX ["self"] ["self", "number", "row"] (Zf Zac) ZmP:=⟨rfl,rfl,by ac_rfl,by ac_rfl,by ac_rfl,by decide,by ac_rfl,by ac_rfl⟩
def Znq:Scope:=zsc [(".0",.«local»),("row",.«local»),("key",.«local»),("len",.globalImplicit)]
theorem ZjN:ZX ["rows", "first_play", "signs"] ["rows", "first_play", "signs", "row", "key"] (Zf ZaS) Znq:=⟨rfl,rfl,by ac_rfl,by ac_rfl,by ac_rfl,by decide,by ac_rfl,by ac_rfl⟩
def Zm1:Scope:=zsc [(".0",.«local»),("_law_place",.«local»),("_law_key_here",.«local»),("_law_n",.free)]
theorem ZjQ:ZX ["_law_rows_here", "_law_found", "_law_n", "_law_row_here"] ["_law_rows_here", "_law_found", "_law_n", "_law_row_here", "_law_place", "_law_key_here"] (Zf Zbg) Zm1:=⟨rfl,rfl,by ac_rfl,by ac_rfl,by ac_rfl,by decide,by ac_rfl,by ac_rfl⟩
def Zm2:Scope:=zsc [(".0",.«local»),("_law_row_here",.«local»),("list",.globalImplicit)]
theorem Zm0:ZX ["_law_script", "_law_k", "_law_left_here", "_law_rows_here", "_law_kept", "_law_found", "_law_most", "_law_things", "_law_signs", "_law_due", "_law_merge", "_law_gone", "_law_turn", "_law_here", "_law_alone", "_law_key_here", "_law_many_here"] ["_law_script", "_law_k", "_law_left_here", "_law_rows_here", "_law_kept", "_law_found", "_law_most", "_law_things", "_law_signs", "_law_due", "_law_merge", "_law_gone", "_law_turn", "_law_here", "_law_alone", "_law_key_here", "_law_many_here", "_law_row_here"] (Zf Zbc) Zm2:=⟨rfl,rfl,by ac_rfl,by ac_rfl,by ac_rfl,by decide,by ac_rfl,by ac_rfl⟩
def Zm8:Scope:=zsc [(".0",.«local»),("_law_key_here",.«local»),("_law_n",.«local»),("_law_place",.«local»)]
theorem ZkX:ZX ["_law_script", "_law_k", "_law_left_here", "_law_rows_here", "_law_kept", "_law_found", "_law_most", "_law_things", "_law_signs", "_law_due", "_law_merge", "_law_gone", "_law_turn", "_law_here", "_law_alone", "_law_key_here", "_law_many_here"] ["_law_script", "_law_k", "_law_left_here", "_law_rows_here", "_law_kept", "_law_found", "_law_most", "_law_things", "_law_signs", "_law_due", "_law_merge", "_law_gone", "_law_turn", "_law_here", "_law_alone", "?_law_key_here", "_law_many_here", "_law_key_here", "_law_n", "_law_place"] (Zf Zbc) Zm8:=⟨rfl,rfl,by ac_rfl,by ac_rfl,by ac_rfl,by decide,by ac_rfl,by ac_rfl⟩
def Zmr:Scope:=zsc [(".0",.«local»),("_law_key_here",.«local»),("len",.globalImplicit)]
theorem Zja:ZX ["_law_script", "_law_k", "_law_left_here", "_law_rows_here", "_law_kept", "_law_found", "_law_most", "_law_things", "_law_signs", "_law_due", "_law_merge", "_law_gone", "_law_turn", "_law_here", "_law_alone", "_law_key_here", "_law_many_here"] ["_law_script", "_law_k", "_law_left_here", "_law_rows_here", "_law_kept", "_law_found", "_law_most", "_law_things", "_law_signs", "_law_due", "_law_merge", "_law_gone", "_law_turn", "_law_here", "_law_alone", "?_law_key_here", "_law_many_here", "_law_key_here"] (Zf Zbc) Zmr:=⟨rfl,rfl,by ac_rfl,by ac_rfl,by ac_rfl,by decide,by ac_rfl,by ac_rfl⟩
def Zlw:Scope:=zsc [(".0",.«local»),("_law_n",.«local»),("_law_key_here",.«local»),("len",.globalImplicit)]
theorem ZfW:ZX ["_law_script", "_law_k", "_law_left_here", "_law_rows_here", "_law_kept", "_law_found", "_law_most", "_law_things", "_law_signs", "_law_due", "_law_merge", "_law_gone", "_law_turn", "_law_here", "_law_alone", "_law_key_here", "_law_many_here"] ["_law_script", "_law_k", "_law_left_here", "_law_rows_here", "_law_kept", "_law_found", "_law_most", "_law_things", "_law_signs", "_law_due", "_law_merge", "_law_gone", "_law_turn", "_law_here", "_law_alone", "?_law_key_here", "_law_many_here", "_law_n", "_law_key_here"] (Zf Zbc) Zlw:=⟨rfl,rfl,by ac_rfl,by ac_rfl,by ac_rfl,by decide,by ac_rfl,by ac_rfl⟩
def Zlk:Scope:=zsc [(".0",.«local»),("_law_row_here",.«local»),("_law_key_here",.free)]
theorem Zma:ZX ["_law_script", "_law_k", "_law_left_here", "_law_rows_here", "_law_kept", "_law_found", "_law_most", "_law_things", "_law_signs", "_law_due", "_law_merge", "_law_gone", "_law_turn", "_law_here", "_law_alone", "_law_key_here", "_law_many_here"] ["_law_script", "_law_k", "_law_left_here", "_law_rows_here", "_law_kept", "_law_found", "_law_most", "_law_things", "_law_signs", "_law_due", "_law_merge", "_law_gone", "_law_turn", "_law_here", "_law_alone", "_law_key_here", "_law_many_here", "_law_row_here"] (Zf Zbc) Zlk:=⟨rfl,rfl,by ac_rfl,by ac_rfl,by ac_rfl,by decide,by ac_rfl,by ac_rfl⟩
structure Bt (mg:Str→Option Value):Prop where
 n_abs:mg "abs" = none
 n_all:mg "all" = none
 n_bool:mg "bool" = none
 n_enumerate:mg "enumerate" = none
 n_int:mg "int" = none
 n_isinstance:mg "isinstance" = none
 n_len:mg "len" = none
 n_list:mg "list" = none
 n_max:mg "max" = none
 n_min:mg "min" = none
 n_range:mg "range" = none
 n_sorted:mg "sorted" = none
 n_str:mg "str" = none
 n_sum:mg "sum" = none
 n_tuple:mg "tuple" = none
 n_zip:mg "zip" = none
structure Zaq (K:PySem.W.Frag) (mg:Str→Option Value) (cRow:Addr) (cMerge:Addr):Prop where
 b:Bt mg
 t_halves:Top K mg "halves" Zce ["numbers"]
 t_way_up:Top K mg "way_up" Zb0 ["numbers", "n"]
 t_height:Top K mg "height" Zb4 ["many"]
 t_alike:Top K mg "alike" ZcN ["one", "other"]
 t_liken:Top K mg "liken" ZcZ ["one", "other"]
 t_liken_from:Top K mg "liken_from" ZaW ["one", "other", "far"]
 t_alike_from:Top K mg "alike_from" ZaX ["one", "other", "far"]
 t_order_at:Top K mg "order_at" Zbq ["one", "other", "at"]
 t_first_break:Top K mg "first_break" ZaK ["keys"]
 t_alikes:Top K mg "alikes" Zci ["row"]
 t_refuse_break:Top K mg "refuse_break" ZaE ["number", "keys"]
 t_matches_up:Top K mg "matches_up" ZaY ["numbers", "n"]
 t_counts:Top K mg "counts" Zb8 ["rows"]
 t_bounds_of:Top K mg "bounds_of" ZaS ["rows"]
 t_how_many:Top K mg "how_many" Za6 ["rows"]
 t_l_mix:Top K mg "_law_mix" Zc1 ["_law_cell", "_law_k"]
 t_l_left:Top K mg "_law_left" Zb3 ["_law_script", "_law_k"]
 t_l_pick:Top K mg "_law_pick" Zch ["_law_left_here", "_law_many_here"]
 t_l_stems:Top K mg "_law_stems" Zbj ["_law_left_here"]
 t_l_key:Top K mg "_law_key" Zck ["_law_left_here", "_law_stems_here"]
 t_l_keys:Top K mg "_law_keys" Zcj ["_law_left_here", "_law_stems_here", "_law_most"]
 t_l_row:Top K mg "_law_row" ZcU ["_law_left_here", "_law_stems_here", "_law_most"]
 t_l_many:Top K mg "_law_many" Zcl ["_law_left_here"]
 t_l_rows:Top K mg "_law_rows" ZbE ["_law_left_here"]
 t_l_order:Top K mg "_law_order" Zbg ["_law_rows_here"]
 t_l_same:Top K mg "_law_same" ZbC ["_law_found", "_law_due"]
 t_Row_init:Zni K mg cRow "Row" "Row.__init__" ZaP ["self", "keys"]
 t_Row_to_go:Zdu K cRow "to_go" "Row.to_go" ZaC ["self"]
 t_Row_head:Zdu K cRow "head" "Row.head" ZaJ ["self"]
 t_Merge_init:Zni K mg cMerge "Merge" "Merge.__init__" Zar ["self", "rows"]
 t_Merge_coming:Zdu K cMerge "coming" "Merge.coming" Zae ["self"]
 t_Merge_take:Zdu K cMerge "take" "Merge.take" Zau ["self"]
 t_Merge_take_few:Zdu K cMerge "take_few" "Merge.take_few" ZY ["self", "many"]
 t_Merge_heads:Zdu K cMerge "heads" "Merge.heads" Zac ["self"]
 t_Merge_likenings:Zdu K cMerge "likenings" "Merge.likenings" ZT ["self"]
 t_Merge_looks:Zdu K cMerge "looks" "Merge.looks" Zai ["self"]
 t_Merge_play_all:Zdu K cMerge "play_all" "Merge.play_all" Z1 ["self"]
 t_Merge_play:Zdu K cMerge "play" "Merge.play" Zat ["self", "numbers"]
 t_Merge_send_out:Zdu K cMerge "send_out" "Merge.send_out" ZZ ["self", "number"]
 t_Merge_play_again:Zdu K cMerge "play_again" "Merge.play_again" ZM ["self", "meeting", "comer"]
 t_Merge_meet:Zdu K cMerge "meet" "Merge.meet" Zap ["self", "one", "other", "far"]
 cl_Row:Cls K cRow
 na_Row_all_keys:ZaV K cRow "all_keys"
 na_Row_fars:ZaV K cRow "fars"
 na_Row_gone:ZaV K cRow "gone"
 cl_Merge:Cls K cMerge
 na_Merge_best:ZaV K cMerge "best"
 na_Merge_likened:ZaV K cMerge "likened"
 na_Merge_looked:ZaV K cMerge "looked"
 na_Merge_next_number:ZaV K cMerge "next_number"
 na_Merge_rows:ZaV K cMerge "rows"
 na_Merge_stays:ZaV K cMerge "stays"
def ZaQ(H:Hp)(p:Addr)(c:Int):Prop:=∃a b:Int,H p=some (.lst [.int a,.int b,.int c])∧0≤c
def But(p:Addr)(H H':Hp):Prop:=∀b o,H b=some o→b≠p→H' b=some o
theorem But.trans{p:Addr}{H H1 H2:Hp}(a:But p H H1)(b:But p H1 H2):But p H H2:=fun c o h n=>b c o (a c o h n) n
theorem But.same{p:Addr}{H H1:Hp}(a:ZH H H1):But p H H1:=fun c o h _=>a c o h
theorem Zi{H:Hp}{p:Addr}(h:H p=none)(o:HO):ZH H (upd H p o):=fun b u q=>by rw[Zc (Zb q h)];exact q
theorem ZcG{n:Nat}(h:n≤1000):n≤sizeLine:=Nat.le_of_lt (Z2 h)
def ZlE:Sp:=fun vs H Q _=>∃a k:Int,vs=[.int a,.int k] ∧ -(2 ^ 62)<k∧k<2 ^ 62∧∀r:Int,0≤r→r<2000000000→Q (.int r) H
def ZkZ(K:PySem.W.Frag):Sp:=fun vs H Q _=>∃ (a:Addr) (ns:List Int) (k:Int),vs=[.ref a,.int k]∧SqL K H a (ns.map V.int)∧ns.length≤63∧0≤k∧k<100 ∧
 ∀ (p:Addr) (H':Hp),H p=none→ZaQ H' p 0→ZH H H'→Q (.ref p) H'
def ZdB:Sp:=fun vs H Q _=>∃ (p:Addr) (c m:Int),vs=[.ref p,.int m]∧ZaQ H p c∧c<2 ^ 60∧0<m∧m<1000000 ∧
 ∀ (r:Int) (H':Hp),0≤r→r<m→ZaQ H' p (c+1)→But p H H'→Q (.int r) H'
theorem Zoe{ns:List Int}{k:Int}(h0:0≤k)(h:k<(ns.length:Int)):∃v:Int,atI (ns.map V.int) k=some (.int v):=by
 have hk:k.toNat<ns.length:=by omega
 have ek:k=((k.toNat:Nat):Int):=by omega
 have q:atI (ns.map V.int) ((k.toNat:Nat):Int)=some (.int ns[k.toNat]):=ZaB (by rw[Qs,Qb hk]<;>rfl)
 rw[← ek]at q
 exact⟨_,q⟩
theorem ZiL{ss:List Str}{k:Int}(h0:0≤k)(h:k<(ss.length:Int)):∃s∈ss,atI (ss.map V.str) k=some (.str s):=by
 have hk:k.toNat<ss.length:=by omega
 have ek:k=((k.toNat:Nat):Int):=by omega
 have q:atI (ss.map V.str) ((k.toNat:Nat):Int)=some (.str ss[k.toNat]):=ZaB (by rw[Qs,Qb hk]<;>rfl)
 rw[← ek]at q
 exact⟨_,QV hk,q⟩
theorem ZnE(b:Bool):-(2 ^ 64)<(if b=true then (1:Int) else 0)∧(if b=true then (1:Int) else 0)<2 ^ 64:=by cases b<;>decide
theorem ZdZ{z:Str}{k:Int}(h0:0≤k)(h:k<(z.length:Int)):∃c:Nat,z.cps.toList[k.toNat]? = some c∧atI z.cps.toList k=some c:=by
 have hl:z.cps.toList.length=z.length:=by simp[Str.length]
 have hk:k.toNat<z.cps.toList.length:=by omega
 have ek:k=((k.toNat:Nat):Int):=by omega
 have q:atI z.cps.toList ((k.toNat:Nat):Int)=some z.cps.toList[k.toNat]:=ZaB (Qb hk)
 rw[← ek]at q
 exact⟨_,Qb hk,q⟩
theorem ZkV(sep:Str)(ys:List Str):(Txt.join sep ys).length≤(ys.map (·.length)).sum+ys.length*sep.length:=by
 have e:Txt.join sep ys=Str.join sep ys:=by simpa using join_plain_closes sep ys
 rw[e]
 exact StrLaws.join_length_le sep ys
theorem ZhL:∀ss:List Str,(∀s∈ss,s.length≤1)→(ss.map (·.length)).sum≤ss.length
 | [],_=>Qg _
 | s::r,h=>by
  have h1:=h s QK
  have h2:=ZhL r fun x hx=>h x (Ql _ hx)
  rw[Qi,QN,QC]
  omega
def lcp:List Nat→List Nat→Nat
 | a::r,b::s=>if a=b then lcp r s+1 else 0
 | _,_=>0
theorem ZcM:∀ (x y:List Nat),lcp x y≤x.length∧lcp x y≤y.length
 | [],_=>⟨Qp _,Qp _⟩
 | _::_,[]=>⟨Qp _,Qp _⟩
 | a::r,b::s=>by
  have h:=ZcM r s
  unfold lcp
  split
  ·exact⟨Nat.succ_le_succ h.1,Nat.succ_le_succ h.2⟩
  ·exact⟨Qp _,Qp _⟩
theorem ZaL:∀ (x y:List Nat),lcp x y=lcp y x
 | [],[]=>rfl
 | [],_::_=>rfl
 | _::_,[]=>rfl
 | a::r,b::s=>by
  unfold lcp
  by_cases h:a=b
  ·rw[if_pos h,if_pos h.symm,ZaL r s]
  ·rw[if_neg h,if_neg fun e=>h e.symm]
theorem ZhK:∀x:List Nat,lcp x x=x.length
 | []=>rfl
 | a::r=>by unfold lcp;rw[if_pos rfl,ZhK r];rfl
theorem Zde(x:List Nat):lcp x []=0:=by cases x<;>rfl
theorem lcp_nil'(x:List Nat):lcp [] x=0:=by cases x<;>rfl
theorem Zk8:∀ (x y:List Nat) (k:Nat),k≤lcp x y→∀a,x[k]? = some a→y[k]? = some a→k+1≤lcp x y
 | [],_,k,_,a,h,_=>by simp at h
 | _::_,[],k,_,a,_,h=>by simp at h
 | a::r,b::s,0,_,c,h1,h2=>by
  simp at h1 h2
  unfold lcp
  rw[if_pos (by rw[h1,h2])]
  omega
 | a::r,b::s,k+1,h,c,h1,h2=>by
  unfold lcp at h ⊢
  by_cases e:a=b
  ·rw[if_pos e]at h ⊢
   have:=Zk8 r s k (by omega) c (by simpa using h1) (by simpa using h2)
   omega
  ·rw[if_neg e]at h;omega
theorem Zlt:∀ (x y:List Nat) (k:Nat),k<lcp x y→x[k]? = y[k]?
 | [],_,k,h=>by unfold lcp at h;omega
 | _::_,[],k,h=>by unfold lcp at h;omega
 | a::r,b::s,0,h=>by
  unfold lcp at h
  by_cases e:a=b
  ·simp[e]
  ·rw[if_neg e]at h;omega
 | a::r,b::s,k+1,h=>by
  unfold lcp at h
  by_cases e:a=b
  ·rw[if_pos e]at h
   simpa using Zlt r s k (by omega)
  ·rw[if_neg e]at h;omega
theorem Zg7(x y:List Nat)(k:Nat)(h:k≤lcp x y)(n:x.length≤k∨y.length≤k∨∃a b,x[k]? = some a∧y[k]? = some b∧a≠b):lcp x y=k:=by
 have l:=ZcM x y
 rcases n with n|n|⟨a,b,h1,h2,ne⟩
 ·omega
 ·omega
 ·by_cases q:k<lcp x y
  ·have:=Zlt x y k q
   rw[h1,h2]at this
   exact absurd (Qj this) ne
  ·omega
theorem Zej:∀ (x y z:List Nat),(lcp x y≤lcp x z∧lcp y z=lcp x y)∨(lcp x y≤lcp y z∧lcp x z=lcp x y)∨(lcp x z≤lcp x y∧lcp y z=lcp x z)
 | [],y,z=>.inr (.inl ⟨by rw[lcp_nil'];exact Qp _,by rw[lcp_nil',lcp_nil']⟩)
 | x,[],z=>.inl ⟨by rw[Zde];exact Qp _,by rw[Zde,lcp_nil']⟩
 | x,y,[]=>.inr (.inr ⟨by rw[Zde];exact Qp _,by rw[Zde,Zde]⟩)
 | a::r,b::s,c::t=>by
  have ih:=Zej r s t
  unfold lcp
  by_cases h1:a=b
  ·by_cases h2:b=c
   ·rw[if_pos h1,if_pos h2,if_pos (h1.trans h2)]
    omega
   ·rw[if_pos h1,if_neg h2,if_neg fun e=>h2 (h1.symm.trans e)]
    omega
  ·rw[if_neg h1]
   by_cases h2:b=c
   ·rw[if_pos h2,if_neg fun e=>h1 (e.trans h2.symm)]
    omega
   ·rw[if_neg h2]
    omega
abbrev cds(z:Str):List Nat:=z.cps.toList
def AZ(z:Str):Prop:=∀c∈cds z,97≤c∧c≤122
theorem ZmW(x y:Str):cds (x++y)=cds x++cds y:=by
 show (x++y).cps.toList=_
 rw[PySem.Str.cps_append]
 simp
theorem AZ.app{x y:Str}(a:AZ x)(b:AZ y):AZ (x++y):=fun c h=>by
 rw[ZmW]at h
 exact(Qm.mp h).elim (a c) (b c)
theorem AZ.nil:AZ "":=by unfold AZ cds;ac_rfl
theorem AZ.join:∀ys:List Str,(∀s∈ys,AZ s)→AZ (Str.join "" ys)
 | [],_=>fun c h=>by cases (show c∈([]:List Nat) from h)
 | [x],h=>h x (by simp)
 | x::y::r,h=>((h x (by simp)).app AZ.nil).app (AZ.join (y::r) fun s hs=>h s (Ql _ hs))
theorem AZ.joinT(ys:List Str)(h:∀s∈ys,AZ s):AZ (Txt.join "" ys):=by
 have e:Txt.join "" ys=Str.join "" ys:=by simpa using join_plain_closes "" ys
 rw[e]
 exact AZ.join ys h
theorem AZ.one{z:Str}(a:AZ z){k:Nat}{c:Nat}(h:z.cps.toList[k]? = some c):AZ ⟨#[c]⟩:=fun d hd=>by
 have e:d=c:=by simpa using hd
 rw[e]
 exact a c (Qw h)
theorem AZ.ok{z:Str}(a:AZ z):PyData.strOk z=true:=by
 unfold PyData.strOk
 rw[Array.all_eq_true]
 intro i hi
 have:=a z.cps[i] (by simp)
 exact decide_eq_true (by omega)
theorem ZoG:AZ "ababcz":=by unfold AZ cds;ac_rfl
def ZeQ:Sp:=fun vs H Q _=>∃x y:Str,vs=[.str x,.str y]∧x.length≤1000∧y.length≤1000∧Q (.int (lcp (cds x) (cds y))) H
def ZbR:Sp:=fun vs H Q _=>∃ (x y:Str) (far:Nat),vs=[.str x,.str y,.int far]∧x.length≤1000∧y.length≤1000∧far≤lcp (cds x) (cds y)∧Q (.int (lcp (cds x) (cds y))) H
def IsD(H:Hp):Nat→V→V→Prop
 | 0,_,_=>False
 | n+1,x,y=>(x=y∧(x=.non∨(∃b,x=.bl b)∨(∃i,x=.int i)∨∃s,x=.str s)) ∨
   (∃ (p q:Addr) (xs ys:List V),x=.ref p∧y=.ref q∧((H p=some (.lst xs)∧H q=some (.lst ys))∨(H p=some (.tup xs)∧H q=some (.tup ys)))∧xs.length=ys.length∧xs.length≤1000∧∀ (i:Nat) (x y:V),xs[i]? = some x→ys[i]? = some y→IsD H n x y)
theorem IsD.mono{H H':Hp}(s:ZH H H'):∀ {n:Nat} {x y:V},IsD H n x y→IsD H' n x y
 | 0,_,_,h=>h.elim
 | n+1,x,y,h=>by
  rcases h with h|⟨p,q,xs,ys,e1,e2,h,hl,hz,hi⟩
  ·exact .inl h
  ·refine .inr ⟨p,q,xs,ys,e1,e2,?_,hl,hz,fun i x y a b=>(hi i x y a b).mono s⟩
   rcases h with⟨a,b⟩|⟨a,b⟩
   ·exact .inl ⟨s _ _ a,s _ _ b⟩
   ·exact .inr ⟨s _ _ a,s _ _ b⟩
def Zld(n:Nat):Sp:=fun vs H Q _=>∃x y:V,vs=[x,y]∧IsD H n x y∧∀H',ZH H H'→Q (.bl true) H'
section
variable (K:PySem.W.Frag)
open PySem.W
theorem Zkv:kitAny K (.type "int") (["list", "tuple"].map Value.type)=some false:=by unfold kitAny kitOne kitCls;rfl
theorem ZkY:kitAny K (.type "bool") (["list", "tuple"].map Value.type)=some false:=by unfold kitAny kitOne kitCls;rfl
theorem Zko:kitAny K (.type "str") (["list", "tuple"].map Value.type)=some false:=by unfold kitAny kitOne kitCls;rfl
theorem Zj2:kitAny K (.type "NoneType") (["list", "tuple"].map Value.type)=some false:=by unfold kitAny kitOne kitCls;rfl
theorem ZjD:kitAny K (.type "list") (["list", "tuple"].map Value.type)=some true:=by unfold kitAny kitOne kitCls;rfl
theorem Zkn:kitAny K (.type "tuple") (["list", "tuple"].map Value.type)=some true:=by unfold kitAny kitOne kitCls;rfl
theorem Zf7:kitOne K (.type "list") (.type "list")=some true:=by unfold kitOne kitCls;rfl
theorem Zgh:kitOne K (.type "list") (.type "tuple")=some false:=by unfold kitOne kitCls;rfl
theorem Zgr:kitOne K (.type "tuple") (.type "list")=some false:=by unfold kitOne kitCls;rfl
theorem Zgv:kitOne K (.type "tuple") (.type "tuple")=some true:=by unfold kitOne kitCls;rfl
theorem Zku:kitOne K (.type "int") (.type "str")=some false:=by unfold kitOne kitCls;rfl
theorem Zhx:kitOne K (.type "int") (.type "bool")=some false:=by unfold kitOne kitCls;rfl
theorem Zj5:kitOne K (.type "int") (.type "int")=some true:=by unfold kitOne kitCls;rfl
theorem Zes:kitOne K (.type "str") (.type "str")=some true:=by unfold kitOne kitCls;rfl
theorem Zgs:kitOne K (.type "NoneType") (.type "str")=some false:=by unfold kitOne kitCls;rfl
theorem Zli:kitOne K (.type "bool") (.type "str")=some false:=by unfold kitOne kitCls;rfl
theorem Zi0:kitOne K (.type "bool") (.type "bool")=some true:=by unfold kitOne kitCls;rfl
end
section
variable {P:Program} {w:World} {K:PySem.W.Frag} {mg:Str→Option Value} {base:Heap} {cRow cMerge:Addr}
theorem ZoS(T:Zaq K mg cRow cMerge):Df P w K mg base 1 "_law_mix" ["_law_cell", "_law_k"] ZlE:=by
 refine T.t_l_mix.df ZhH (fun vs H Q E h=>?_) (fun cdv f A outer s H vs Q E hr h=>?_)
 ·obtain⟨a,k,rfl,_⟩:=h
  rfl
 obtain⟨a,k,rfl,k1,k2,q⟩:=h
 refine⟨_,#[Zg,#[Zv,2,ZhH.nd,(Or.inl rfl),#[ZI,Zft,#[ZI,Zcp,#[ZI,Zax,#[ZI,Zax,#[ZI,Zft,‹0›,#[Zh]],#[ZI,Zcp,#[ZI,Zcp,‹1›,‹1›],#[Zh]]],#[Zh]],#[Zh]],#[Zh]]],#[Zj,#[Zr,#[ZI,Zft,#[ZI,Zcp,‹2›,‹2›],#[Zh]]]]],?_⟩
 refine⟨_,rfl,_,_,rfl,rfl,(by show (0:Int)<_;decide),_,rfl,_,rfl,_,_,rfl,rfl,.inl ⟨by omega,by omega⟩,_,_,rfl,rfl,.inr ⟨by decide,by decide⟩,_,_,rfl,rfl,_,_,rfl,rfl,_,_,rfl,rfl,.inr ⟨by decide,by decide⟩,_,_,rfl,rfl,(by show (0:Int)<_;decide),?_⟩
 have m0:=Int.emod_nonneg ((a % 2147483629+k*k*7919+11)*48271) (show (2147483647:Int)≠0 by decide)
 have m1:=QaW ((a % 2147483629+k*k*7919+11)*48271) (show (0:Int)<2147483647 by decide)
 refine⟨_,rfl,_,rfl,_,_,rfl,rfl,.inl ⟨by omega,by omega⟩,_,_,rfl,rfl,(by show (0:Int)<_;decide),?_⟩
 exact q _ (Int.emod_nonneg _ (by decide)) (Int.lt_trans (QaW _ (by decide)) (by decide))
theorem ZmE(T:Zaq K mg cRow cMerge):Df P w K mg base 1 "_law_left" ["_law_script", "_law_k"] (ZkZ K):=by
 refine T.t_l_left.df Zgc (fun vs H Q E h=>?_) (fun cdv f A outer s H vs Q E hr h=>?_)
 ·obtain⟨a,ns,k,rfl,_⟩:=h
  rfl
 obtain⟨a,ns,k,rfl,hS,h63,k0,k1,q⟩:=h
 refine⟨_,#[Zg,#[Zv,2,Zgc.nd,(Or.inl rfl),#[Zbe,#[Zs,Ze2,‹1›,#[Zk,(Zb5 K),(by rfl),T.b.n_len,Qt,#[Za,‹0›,#[Ze]]],(Zu _)],#[ZF,(ixL K),‹0›,‹1›],#[Zh]]],#[Zj,#[Zr,#[ZaN,#[Za,#[ZI,Zcp,#[Zk,Zhi,(by rfl),T.b.n_abs,boot_abs,#[Za,‹2›,#[Ze]]],#[Zb9,Zkp,(by rfl),T.b.n_int,boot_int,#[Za,#[Zda,Zpo,#[Zk,Zhi,(by rfl),T.b.n_abs,boot_abs,#[Za,‹2›,#[Ze]]],#[ZI,Zoa,#[Zh],#[Zh]],(Zu _)],#[Ze]]]],#[Za,#[ZI,Zax,‹2›,#[ZI,Zcp,#[Zh],‹1›]],#[Za,#[Zh],#[Ze]]]]]]]],?_⟩
 have hl:(ns.map V.int).length=ns.length:=Qa _
 have pw:Zpy 10 18:=⟨by decide,by decide,by decide⟩
 refine⟨_,rfl,_,rfl,a,_,rfl,.inl hS,_,_,rfl,rfl,_,rfl,?_⟩
 refine Zbo (fun c=>?_) (fun c=>?_)
 ·have c':k<(((ns.map V.int).length:Nat):Int):=of_decide_eq_true c
  rw[hl]at c'
  obtain⟨v,hv⟩:=Zoe (ns:=ns) k0 c'
  refine⟨_,rfl,_,rfl,xw4 a _ _ _ ⟨rfl,rfl,hS,hv,?_⟩⟩
  refine⟨_,rfl,_,rfl,_,rfl,_,rfl,_,_,rfl,rfl,pw,_,_,rfl,rfl,.inr ⟨_,rfl,_,_,rfl,rfl,.inr (ZnE _),_,rfl,_,rfl,_,_,rfl,rfl,.inl ⟨by decide,by decide⟩,_,_,rfl,rfl,(by show 3≤sizeLine;decide),fun p hp=>?_⟩⟩
  exact q p _ hp ⟨_,_,Zd,QaH _⟩ (Zi hp _)
 ·refine⟨_,rfl,_,rfl,_,rfl,_,rfl,_,_,rfl,rfl,pw,_,_,rfl,rfl,.inr ⟨_,rfl,_,_,rfl,rfl,.inr (ZnE _),_,rfl,_,rfl,_,_,rfl,rfl,.inl ⟨by decide,by decide⟩,_,_,rfl,rfl,(by show 3≤sizeLine;decide),fun p hp=>?_⟩⟩
  exact q p _ hp ⟨_,_,Zd,QaH _⟩ (Zi hp _)
theorem Znb(T:Zaq K mg cRow cMerge)(f_l_mix:Df P w K mg base 1 "_law_mix" ["_law_cell", "_law_k"] ZlE):Df P w K mg base 2 "_law_pick" ["_law_left_here", "_law_many_here"] ZdB:=by
 refine T.t_l_pick.df ZfV (fun vs H Q E h=>?_) (fun cdv f A outer s H vs Q E hr h=>?_)
 ·obtain⟨p,c,m,rfl,_⟩:=h
  rfl
 obtain⟨p,c,m,rfl,⟨a,b,hp,c0⟩,c1,m0,m1,q⟩:=h
 refine⟨_,#[Zg,#[Zbt,#[ZI,Zax,#[ZF,(ixL K),‹0›,#[Zh]],#[Zh]],#[ZdA,‹0›,#[Zh],ZhO]],#[Zg,#[Zaw,#[Zs,ZdK,#[ZF,(ixL K),‹0›,#[Zh]],#[Zh],(Zu _)],#[Zg,#[Zv,2,ZfV.nd,(Or.inl rfl),#[ZI,Zft,#[ZF,(ixL K),‹0›,#[Zh]],‹1›]],#[Zg,#[Zbt,#[ZI,ZgJ,#[ZF,(ixL K),‹0›,#[Zh]],‹1›],#[ZdA,‹0›,#[Zh],ZhO]],#[Zj,#[Zr,‹2›]]]],#[ZQ]],#[Zj,#[Zr,#[ZI,Zft,#[ZI,ZgJ,#[ZB,f_l_mix,hr,#[Za,#[ZB,f_l_mix,hr,#[Za,#[ZF,(ixL K),‹0›,#[Zh]],#[Za,#[ZF,(ixL K),‹0›,#[Zh]],#[Ze]]],(by rfl)],#[Za,#[ZI,Zax,#[ZF,(ixL K),‹0›,#[Zh]],#[Zh]],#[Ze]]],(by rfl)],#[Zh]],‹1›]]]]],?_⟩
 have u1:(upd H p (.lst [.int a,.int b,.int (c+1)])) p=some (.lst [.int a,.int b,.int (c+1)]):=Zd
 refine⟨_,rfl,xw4 p _ _ _ ⟨rfl,rfl,SqL.of hp,rfl,_,_,rfl,rfl,_,rfl,p,_,_,2,rfl,rfl,hp,rfl,?_⟩⟩
 refine⟨_,rfl,xw4 p _ _ _ ⟨rfl,rfl,SqL.of u1,rfl,_,_,rfl,rfl,_,rfl,?_⟩⟩
 refine Zbo (fun d=>?_) (fun d=>?_)
 ·refine⟨_,rfl,xw4 p _ _ _ ⟨rfl,rfl,SqL.of u1,rfl,_,rfl,_,_,rfl,rfl,m0,?_⟩⟩
  refine⟨_,rfl,xw4 p _ _ _ ⟨rfl,rfl,SqL.of u1,rfl,_,rfl,_,_,rfl,rfl,⟨m0,by omega⟩,_,rfl,p,_,_,0,rfl,rfl,u1,rfl,?_⟩⟩
  refine⟨_,rfl,?_⟩
  refine q _ _ (Int.emod_nonneg _ (by omega)) (QaW _ m0) ⟨a / m,b,Zd,by omega⟩ fun e o h n=>?_
  rw[Zc n,Zc n]
  exact h
 ·refine⟨_,rfl,xw4 p _ _ _ ⟨rfl,rfl,SqL.of u1,rfl,_,rfl,xw4 p _ _ _ ⟨rfl,rfl,SqL.of u1,rfl,_,_,rfl,by omega,by omega,fun r r0 r1=>?_⟩⟩⟩
  refine⟨_,rfl,xw4 p _ _ _ ⟨rfl,rfl,SqL.of u1,rfl,_,_,rfl,rfl,_,_,rfl,by omega,by omega,fun r' r0' r1'=>?_⟩⟩
  refine⟨_,_,rfl,rfl,⟨by decide,by decide⟩,_,rfl,_,_,rfl,rfl,m0,?_⟩
  refine q _ _ (Int.emod_nonneg _ (by omega)) (QaW _ m0) ⟨a,b,Zd,by omega⟩ fun e o h n=>?_
  rw[Zc n]
  exact h
def Zbn:List Str:=["", "a", "ab", "aba", "abab", "b", "zebra", "aaaaaaaa", "knowswho", "z", "abababababab",Txt.mul "a" 24]
theorem ZhI:∀s∈Zbn,s.length≤24:=by ac_rfl
theorem Zit:∀s∈Zbn,AZ s:=by unfold AZ cds;ac_rfl
def Zg4:Sp:=fun vs H Q _=>∃ (p:Addr) (c:Int),vs=[.ref p]∧ZaQ H p c∧c<2 ^ 50 ∧
 ∀ (l:Addr) (ss:List Str) (c':Int) (H':Hp),H l=none→H' l=some (.lst (ss.map V.str))→1≤ss.length→ss.length≤4→(∀s∈ss,s.length≤24∧AZ s)→ZaQ H' p c'→c≤c'→c'≤c+5→But p H H'→Q (.ref l) H'
def ZkF:Sp:=fun vs H Q _=>∃ (p l:Addr) (c:Int) (ss:List Str),vs=[.ref p,.ref l]∧ZaQ H p c∧c<2 ^ 50∧H l=some (.lst (ss.map V.str))∧1≤ss.length∧ss.length≤4∧(∀s∈ss,s.length≤24∧AZ s) ∧
 ∀ (z:Str) (c':Int) (H':Hp),z.length≤28→AZ z→ZaQ H' p c'→c≤c'→c'≤c+6→But p H H'→Q (.str z) H'
theorem ZlR(T:Zaq K mg cRow cMerge)(f_l_pick:Df P w K mg base 2 "_law_pick" ["_law_left_here", "_law_many_here"] ZdB):Df P w K mg base 3 "_law_stems" ["_law_left_here"] Zg4:=by
 refine T.t_l_stems.df Zfr (fun vs H Q E h=>?_) (fun cdv f A outer s H vs Q E hr h=>?_)
 ·obtain⟨p,c,rfl,_⟩:=h
  rfl
 obtain⟨p,c,rfl,hL,c1,q⟩:=h
 refine⟨_,#[Zg,#[Zv,1,Zfr.nd,(Or.inr rfl),#[ZaN,#[Za,#[Za2],#[Za,#[Za2],#[Za,#[Za2],#[Za,#[Za2],#[Za,#[Za2],#[Za,#[Za2],#[Za,#[Za2],#[Za,#[Za2],#[Za,#[Za2],#[Za,#[Za2],#[Za,#[Za2],#[Za,#[ZI,Zjq,#[Za2],#[Zh]],#[Ze]]]]]]]]]]]]]]],#[Zj,#[Zr,#[Zbl,Zl0,#[Zbh,T.b.n_range,#[Za,#[ZI,Zax,#[Zh],#[ZB,f_l_pick,hr,#[Za,#[pv,0,(Or.inr (Or.inl rfl))],#[Za,#[Zh],#[Ze]]],(by rfl)]],#[Ze]]],(fun _ _ _ _=>#[cg,2,Zl0]),(fun _ _ _ _=>(@Za9 _)),(fun _ _ _ _=>#[ZF,(ixL K),#[cv,1,Zl0],#[ZB,f_l_pick,hr,#[Za,#[cv,0,Zl0],#[Za,#[Zh],#[Ze]]],(ZaR Zl0 rfl (by ac_rfl))]])]]]],?_⟩
 refine⟨_,_,rfl,rfl,by decide,by decide,by decide,(by show 12≤sizeLine;decide),fun l hl=>?_⟩
 have npl:p≠l:=by obtain⟨a,b,hp,_⟩:=hL;exact Zb hp hl
 have hL1:ZaQ (upd H l (.lst (Zbn.map V.str))) p c:=by obtain⟨a,b,hp,c0⟩:=hL;exact⟨a,b,by rw[Zc npl];exact hp,c0⟩
 refine⟨_,rfl,p,c,_,rfl,hL1,by omega,by decide,by decide,fun r H1 r0 r1 L1 B1=>?_⟩
 refine⟨_,_,rfl,rfl,_,rfl,by omega,by omega,fun D hD=>?_⟩
 have c0:0≤c:=by obtain⟨a,b,hp,c0⟩:=hL;exact c0
 have h1l:H1 l=some (.lst (Zbn.map V.str)):=B1 l _ Zd npl.symm
 have npD:p≠D:=by obtain⟨a,b,hp,_⟩:=L1;exact Zb hp hD
 have nlD:l≠D:=Zb h1l hD
 refine ZcA (fun i ys σ H2=>∃ (ss:List Str) (v:Option V) (c2:Int),σ=[some (.ref p),some (.ref l),v]∧ys=ss.map V.str∧ss.length=i∧(∀s∈ss,s.length≤24∧AZ s)∧ZaQ H2 p c2∧c+1≤c2∧c2≤c+1+i ∧
   H2 l=some (.lst (Zbn.map V.str))∧H2 D=some (.lst ys)∧But p H H2) ?_ ?_ ?_
 ·refine⟨[],none,c+1,rfl,rfl,rfl,(fun s hs=>by cases hs),?_,by omega,by omega,?_,Zd,?_⟩
  ·obtain⟨a,b,hp,q0⟩:=L1
   exact⟨a,b,by rw[Zc npD];exact hp,q0⟩
  ·rw[Zc nlD];exact h1l
  ·intro b o e n
   have e1:(upd H l (.lst (Zbn.map V.str))) b=some o:=by rw[Zc (Zb e hl)];exact e
   have e2:=B1 b o e1 n
   rw[Zc (Zb e2 hD)]
   exact e2
 ·rintro i ys σ H2 hi ⟨ss,v,c2,rfl,rfl,hn,hs,L2',b1,b2,hl2,hD2,B2⟩
  refine⟨_,rfl,_,rfl,p,c2,_,rfl,L2',by omega,by decide,by decide,fun r' H3 r0' r1' L3 B3=>?_⟩
  obtain⟨s,hs1,hs2⟩:=ZiL (ss:=Zbn) r0' r1'
  have hD3:H3 D=some (.lst (ss.map V.str)):=B3 D _ hD2 npD.symm
  have hl3:H3 l=some (.lst (Zbn.map V.str)):=B3 l _ hl2 npl.symm
  refine(xw4 l _ _ _ ⟨rfl,rfl,SqL.of hl3,hs2,hD3,(by rw[Qa,hn];exact Z2 (by omega)),ss++[s],_,c2+1,rfl,?_,?_,?_,?_,by omega,by omega,?_,Zd,?_⟩)
  ·rw[Qh];rfl
  ·rw[Qd,hn];rfl
  ·intro x hx
   rcases Qm.mp hx with hx|hx
   ·exact hs x hx
   ·rw[Qk.mp hx];exact⟨ZhI s hs1,Zit s hs1⟩
  ·obtain⟨a,b,hp,q0⟩:=L3
   exact⟨a,b,by rw[Zc npD];exact hp,q0⟩
  ·rw[Zc nlD];exact hl3
  ·intro b o e n
   have e2:=B3 b o (B2 b o e n) n
   have e3:H D=none:=by
    cases w':H D with
    | none=>rfl
    | some u =>
     have nDp:D≠p:=npD.symm
     have z1:(upd H l (.lst (Zbn.map V.str))) D=some u:=by rw[Zc nlD.symm];exact w'
     rw[B1 D u z1 nDp]at hD
     cases hD
   rw[Zc (Zb e e3)]
   exact e2
 ·rintro ys σ H2 ⟨ss,v,c2,rfl,rfl,hn,hs,L2',b1,b2,hl2,hD2,B2⟩
  have e3:H D=none:=by
   cases w':H D with
   | none=>rfl
   | some u =>
    have z1:(upd H l (.lst (Zbn.map V.str))) D=some u:=by rw[Zc nlD.symm];exact w'
    rw[B1 D u z1 npD.symm]at hD
    cases hD
  exact q D ss c2 H2 e3 hD2 (by omega) (by omega) hs L2' (by omega) (by omega) B2
theorem Zoo(T:Zaq K mg cRow cMerge)(f_l_pick:Df P w K mg base 2 "_law_pick" ["_law_left_here", "_law_many_here"] ZdB):Df P w K mg base 3 "_law_key" ["_law_left_here", "_law_stems_here"] ZkF:=by
 refine T.t_l_key.df ZhB (fun vs H Q E h=>?_) (fun cdv f A outer s H vs Q E hr h=>?_)
 ·obtain⟨p,l,c,ss,rfl,_⟩:=h
  rfl
 obtain⟨p,l,c,ss,rfl,hL,c1,hl,n1,n4,h24,q⟩:=h
 refine⟨_,#[Zg,#[Zv,2,ZhB.nd,(Or.inl rfl),#[ZeD,PySem.F.plainAttrs_str,PySem.F.slot_str_join,PySem.F.type_str_join,(Zpe K),#[Za2],#[Za,#[Zbl,Zng,#[Zbh,T.b.n_range,#[Za,#[ZB,f_l_pick,hr,#[Za,#[pv,0,(Or.inr (Or.inl rfl))],#[Za,#[Zh],#[Ze]]],(by rfl)],#[Ze]]],(fun _ _ _ _=>#[cg,3,Zng]),(fun _ _ _ _=>(@Za9 _)),(fun _ _ _ _=>#[ZF,ZeZ,#[Za2],#[ZB,f_l_pick,hr,#[Za,#[cv,0,Zng],#[Za,#[Zh],#[Ze]]],(ZaR Zng rfl (by ac_rfl))]])],#[Ze]]]],#[Zj,#[Zr,#[ZI,ZiD,#[ZF,(ixL K),‹1›,#[ZB,f_l_pick,hr,#[Za,#[pv,0,(Or.inr (Or.inl rfl))],#[Za,#[Zk,(Zb5 K),(by rfl),T.b.n_len,Qt,#[Za,‹1›,#[Ze]]],#[Ze]]],(by rfl)]],‹2›]]]],?_⟩
 have c0:0≤c:=by obtain⟨a,b,hp,c0⟩:=hL;exact c0
 have npl:p≠l:=by
  obtain⟨a,b,hp,_⟩:=hL
  refine Zk2 hp hl fun e=>?_
  have e1:=congrArg List.length (HO.lst.inj e)
  cases ss with
  | nil=>cases e1
  | cons x r=>exact absurd (HO.lst.inj e) (by intro z;cases z)
 refine⟨rfl,_,rfl,p,c,_,rfl,hL,by omega,by decide,by decide,fun r H1 r0 r1 L1 B1=>?_⟩
 refine⟨_,rfl,by omega,by omega,fun D hD=>?_⟩
 have npD:p≠D:=by obtain⟨a,b,hp,_⟩:=L1;exact Zb hp hD
 have h1l:=B1 l _ hl npl.symm
 have nlD:l≠D:=Zb h1l hD
 have hDn:H D=none:=by
  cases w':H D with
  | none=>rfl
  | some u=>rw[B1 D u w' npD.symm]at hD;cases hD
 refine ZcA (fun i ys σ H2=>∃ (ts:List Str) (v:Option V) (c2:Int),σ=[some (.ref p),some (.ref l),none,v]∧ys=ts.map V.str∧ts.length=i∧(∀s∈ts,s.length≤1∧AZ s)∧ZaQ H2 p c2∧c+1≤c2∧c2≤c+1+i ∧
   H2 D=some (.lst ys)∧But p H H2) ?_ ?_ ?_
 ·refine⟨[],none,c+1,rfl,rfl,rfl,(fun s hs=>by cases hs),?_,by omega,by omega,Zd,?_⟩
  ·obtain⟨a,b,hp,q0⟩:=L1
   exact⟨a,b,by rw[Zc npD];exact hp,q0⟩
  ·intro b o e n
   rw[Zc (Zb e hDn)]
   exact B1 b o e n
 ·rintro i ys σ H2 hi ⟨ts,v,c2,rfl,rfl,hn,hs,L2',b1,b2,hD2,B2⟩
  refine⟨_,rfl,p,c2,_,rfl,L2',by omega,by decide,by decide,fun r' H3 r0' r1' L3 B3=>?_⟩
  obtain⟨ch,hcm,hch⟩:=ZdZ (z := "ababcz") r0' r1'
  have hD3:H3 D=some (.lst (ts.map V.str)):=B3 D _ hD2 npD.symm
  refine⟨_,_,_,rfl,rfl,(by ac_rfl),hch,hD3,(by rw[Qa,hn];exact Z2 (by omega)),ts++[⟨#[ch]⟩],_,c2+1,rfl,?_,?_,?_,?_,by omega,by omega,Zd,?_⟩
  ·rw[Qh];rfl
  ·rw[Qd,hn];rfl
  ·intro x hx
   rcases Qm.mp hx with hx|hx
   ·exact hs x hx
   ·rw[Qk.mp hx];exact⟨Qg 1,ZoG.one hcm⟩
  ·obtain⟨a,b,hp,q0⟩:=L3
   exact⟨a,b,by rw[Zc npD];exact hp,q0⟩
  ·intro b o e n
   rw[Zc (Zb e hDn)]
   exact B3 b o (B2 b o e n) n
 ·rintro ys σ H2 ⟨ts,v,c2,rfl,rfl,hn,hs,L2',b1,b2,hD2,B2⟩
  have hsum:=ZhL ts fun s h=>(hs s h).1
  have hjl:=ZkV "" ts
  have e0:("" : Str).length=0:=by ac_rfl
  rw[e0]at hjl
  have hl2:=B2 l _ hl npl.symm
  refine⟨_,D,ts,rfl,rfl,SqL.of hD2,(by rw[e0];omega),?_⟩
  have hlen:(((ss.map V.str).length:Nat):Int)=(ss.length:Int):=by rw[Qa]
  refine⟨_,rfl,_,rfl,_,rfl,l,_,rfl,.inl (SqL.of hl2),p,c2,_,rfl,L2',by omega,by omega,by omega,fun r' H3 r0' r1' L3 B3=>?_⟩
  obtain⟨st,hs1,hs2⟩:=ZiL (ss:=ss) r0' (by omega)
  have hst:=(h24 st hs1).1
  refine(xw4 l _ _ _ ⟨rfl,rfl,SqL.of (B3 l _ hl2 npl.symm),hs2,_,rfl,_,_,rfl,rfl,ZcG (by omega),?_⟩)
  refine q _ (c2+1) H3 ?_ ((h24 st hs1).2.app (AZ.joinT ts fun s h=>(hs s h).2)) L3 (by omega) (by omega) (B2.trans B3)
  rw[PySem.Str.length_append]
  omega
theorem ZfU(T:Zaq K mg cRow cMerge):Df P w K mg base 1 "alike_from" ["one", "other", "far"] ZbR:=by
 refine T.t_alike_from.df ZbS (fun vs H Q E h=>?_) (fun cdv f A outer s H vs Q E hr h=>?_)
 ·obtain⟨x,y,far,rfl,_⟩:=h
  rfl
 obtain⟨x,y,far,rfl,hx,hy,hf,q⟩:=h
 refine⟨_,#[Zg,#[Zv,3,ZbS.nd,(Or.inl rfl),‹2›],#[Zg,(@ZfC _ _ _ _ _ _ PassesOwn.never (@PW.pt _ _ _ #[Zem,#[Zs,Ze2,‹3›,#[Zk,Z0,(by rfl),T.b.n_len,Qt,#[Za,‹0›,#[Ze]]],(Zu _)],#[Zem,#[Zs,Ze2,‹3›,#[Zk,Z0,(by rfl),T.b.n_len,Qt,#[Za,‹1›,#[Ze]]],(Zu _)],(@ZdQ _ _ _ _ #[Zs,Zbx,#[ZF,ZeZ,‹0›,‹3›],#[ZF,ZeZ,‹1›,‹3›],(Zu _)])]]) #[Zj,(@Zod _ _ 3 _ _ _ _ _ _ ZbS.nd rfl (Or.inl rfl) #[Zh] ZnU (by trivial))]),#[Zj,#[Zr,‹3›]]]],?_⟩
 refine⟨_,rfl,?_⟩
 have lx:(cds x).length=x.length:=by simp[Str.length]
 have ly:(cds y).length=y.length:=by simp[Str.length]
 have ll:=ZcM (cds x) (cds y)
 refine⟨fun m σ H2=>∃k:Nat,σ=[some (.str x),some (.str y),some (.int far),some (.int k)]∧H2=H∧k≤lcp (cds x) (cds y)∧m=lcp (cds x) (cds y)-k,⟨_,far,rfl,rfl,hf,rfl⟩,?_⟩
 rintro m σ H2 ⟨k,rfl,rfl,hk,rfl⟩
 refine⟨_,rfl,_,rfl,x,rfl,ZcG hx,_,_,rfl,rfl,_,rfl,?_⟩
 refine Zbo (fun d1=>?_) (fun d1=>?_)
 ·have d1':(k:Int)<(x.length:Int):=of_decide_eq_true d1
  refine⟨_,rfl,_,rfl,y,rfl,ZcG hy,_,_,rfl,rfl,_,rfl,?_⟩
  refine Zbo (fun d2=>?_) (fun d2=>?_)
  ·have d2':(k:Int)<(y.length:Int):=of_decide_eq_true d2
   obtain⟨a,ha,ha'⟩:=ZdZ (z:=x) (k:=k) (by omega) d1'
   obtain⟨b,hb,hb'⟩:=ZdZ (z:=y) (k:=k) (by omega) d2'
   rw[Int.toNat_natCast]at ha hb
   refine⟨_,rfl,_,rfl,x,_,a,rfl,rfl,ZcG hx,ha',_,rfl,_,rfl,y,_,b,rfl,rfl,ZcG hy,hb',rfl,_,rfl,?_⟩
   refine Zbo (fun d3=>?_) (fun d3=>?_)
   ·have d3':a=b:=by
     have:=of_decide_eq_true d3
     injection this with e
     injection e with e
     simpa using e
    subst d3'
    have:=Zk8 _ _ k hk a ha hb
    refine⟨fun σ' H'=>σ'=[some (.str x),some (.str y),some (.int far),some (.int ((k+1:Nat):Int))]∧H'=H2,fun σ' H' ⟨e1,e2⟩=>⟨_,?_,k+1,e1,e2,this,rfl⟩,?_⟩
    ·omega
    ·exact⟨_,rfl,_,_,rfl,rfl,rfl,rfl⟩
   ·refine⟨_,rfl,?_⟩
    have e:=Zg7 _ _ k hk (.inr (.inr ⟨a,b,ha,hb,fun e=>d3 (by subst e;exact decide_eq_true rfl)⟩))
    rw[e]at q
    exact q
  ·refine Zcz ⟨_,rfl,?_⟩
   have d2':¬ (k:Int)<(y.length:Int):=of_decide_eq_false (Bool.eq_false_iff.mpr d2)
   have e:=Zg7 _ _ k hk (.inr (.inl (by omega)))
   rw[e]at q
   exact q
 ·refine Zcz ⟨_,rfl,?_⟩
  have d1':¬ (k:Int)<(x.length:Int):=of_decide_eq_false (Bool.eq_false_iff.mpr d1)
  have e:=Zg7 _ _ k hk (.inl (by omega))
  rw[e]at q
  exact q
theorem Zlf(T:Zaq K mg cRow cMerge)(f_alike_from:Df P w K mg base 1 "alike_from" ["one", "other", "far"] ZbR):Df P w K mg base 2 "alike" ["one", "other"] ZeQ:=by
 refine T.t_alike.df Zml (fun vs H Q E h=>?_) (fun cdv f A outer s H vs Q E hr h=>?_)
 ·obtain⟨x,y,rfl,_⟩:=h
  rfl
 obtain⟨x,y,rfl,hx,hy,q⟩:=h
 refine⟨_,#[Zj,#[Zr,#[ZB,f_alike_from,hr,#[Za,‹0›,#[Za,‹1›,#[Za,#[Zh],#[Ze]]]],(by rfl)]]],?_⟩
 exact⟨_,rfl,_,rfl,x,y,0,rfl,hx,hy,Qp _,q⟩
theorem ZdI{c A B:Prop}[Decidable c](hc:c)(h:A):if decide c=true then A else B:=by
 rw[if_pos (decide_eq_true hc)]
 exact h
theorem Zcn{c A B:Prop}[Decidable c](hc:¬ c)(h:B):if decide c=true then A else B:=by
 rw[if_neg (by rw[decide_eq_false hc];exact Qr)]
 exact h
theorem Zjg(T:Zaq K mg cRow cMerge):∀n:Nat,Df P w K mg base (n+1) "_law_same" ["_law_found", "_law_due"] (Zld n)
 | 0=>by
  refine T.t_l_same.df ZfZ (fun vs H Q E h=>?_) (fun cdv f A outer s H vs Q E hr h=>?_)
  ·obtain⟨x,y,rfl,_⟩:=h
   rfl
  obtain⟨x,y,rfl,h,_⟩:=h
  exact h.elim
 | n+1=>by
  have f_l_same:=Zjg T n
  refine T.t_l_same.df ZfZ (fun vs H Q E h=>?_) (fun cdv f A outer s H vs Q E hr h=>?_)
  ·obtain⟨x,y,rfl,_⟩:=h
   rfl
  obtain⟨x,y,rfl,hD,q⟩:=h
  refine⟨_,#[Zg,#[Zaw,#[ZeY,#[Zk,(Zpv K),(by rfl),T.b.n_isinstance,boot_isinstance,#[Za,‹1›,#[Za,#[Zay,#[Za,#[Zcc,T.b.n_list,boot_list],#[Za,#[Zcc,T.b.n_tuple,boot_tuple],#[Ze]]]],#[Ze]]]]],#[Zg,#[Zaw,(@PW.pt _ _ _ (@ZhX _ _ _ _ _ _ _ #[Zs,ZnA,#[Zk,(Ze3 K),(by rfl),T.b.n_isinstance,boot_isinstance,#[Za,‹0›,#[Za,#[Zcc,T.b.n_list,boot_list],#[Ze]]]],#[Zk,(Ze3 K),(by rfl),T.b.n_isinstance,boot_isinstance,#[Za,‹1›,#[Za,#[Zcc,T.b.n_list,boot_list],#[Ze]]]],(Zu _)] (@Zgy _ _ _ _ #[Zs,ZnA,#[Zk,(Ze3 K),(by rfl),T.b.n_isinstance,boot_isinstance,#[Za,‹0›,#[Za,#[Zcc,T.b.n_tuple,boot_tuple],#[Ze]]]],#[Zk,(Ze3 K),(by rfl),T.b.n_isinstance,boot_isinstance,#[Za,‹1›,#[Za,#[Zcc,T.b.n_tuple,boot_tuple],#[Ze]]]],(Zu _)]))),#[Zj,#[Zr,(@ZfD _ _ _ _)]],#[ZQ]],#[Zj,#[Zr,(@Ze8 _ _ _ _ _ _ _ #[Zda,Zbx,#[Zk,(Zb5 K),(by rfl),T.b.n_len,Qt,#[Za,‹0›,#[Ze]]],#[Zk,(Zb5 K),(by rfl),T.b.n_len,Qt,#[Za,‹1›,#[Ze]]],(Zu _)] (@ZgO _ _ _ _ _ #[Zk,(ZpY K),(by rfl),T.b.n_all,boot_all,#[Za,#[Zbl,Zkq,(@iZ _ K _ _ _ _ _ _ _ _ T.b.n_zip #[Za,‹0›,#[Za,‹1›,#[Ze]]] (by rfl) (by rfl) (by rfl) (by rfl)),(fun _ _ _ _=>#[gT,K,2,#[Zw,#[cg,2,Zkq],#[Zw,#[cg,3,Zkq],(@ZaT _)]]]),(fun _ _ _ _=>(@Za9 _)),(fun _ _ _ _=>#[ZB,f_l_same,hr,#[Za,#[cw,2,Zkq],#[Za,#[cw,3,Zkq],#[Ze]]],(ZaR Zkq rfl (by ac_rfl))])],#[Ze]]]))]]],#[ZQ]],#[Zg,#[Zaw,(@PW.pt _ _ _ (@ZhX _ _ _ _ _ _ _ #[Zs,Zcq,‹1›,#[Zaj],(Zu _)] (@Zgy _ _ _ _ #[ZeY,#[Zk,(Ze3 K),(by rfl),T.b.n_isinstance,boot_isinstance,#[Za,‹1›,#[Za,#[Zcc,T.b.n_str,boot_str],#[Ze]]]]]))),#[Zj,#[Zr,(@Ze8 _ _ _ _ _ _ _ #[Zda,Zbx,‹0›,‹1›,(Zu _)] (@ZgO _ _ _ _ _ #[Zda,Zbx,#[Zk,(Ze3 K),(by rfl),T.b.n_isinstance,boot_isinstance,#[Za,‹0›,#[Za,#[Zcc,T.b.n_str,boot_str],#[Ze]]]],#[Zk,(Ze3 K),(by rfl),T.b.n_isinstance,boot_isinstance,#[Za,‹1›,#[Za,#[Zcc,T.b.n_str,boot_str],#[Ze]]]],(Zu _)]))]],#[ZQ]],#[Zg,#[Zaw,#[ZeY,#[Zk,(Ze3 K),(by rfl),T.b.n_isinstance,boot_isinstance,#[Za,‹1›,#[Za,#[Zcc,T.b.n_bool,boot_bool],#[Ze]]]]],#[Zj,#[Zr,(@Ze8 _ _ _ _ _ _ _ #[Zk,(Ze3 K),(by rfl),T.b.n_isinstance,boot_isinstance,#[Za,‹0›,#[Za,#[Zcc,T.b.n_bool,boot_bool],#[Ze]]]] (@ZgO _ _ _ _ _ #[Zda,Zbx,‹0›,‹1›,(Zu _)]))]],#[ZQ]],#[Zj,#[Zr,(@Ze8 _ _ _ _ _ _ _ #[Zk,(Ze3 K),(by rfl),T.b.n_isinstance,boot_isinstance,#[Za,‹0›,#[Za,#[Zcc,T.b.n_int,boot_int],#[Ze]]]] (@Ze8 _ _ _ _ _ _ _ (@ZnZ _ _ _ _ #[Zk,(Ze3 K),(by rfl),T.b.n_isinstance,boot_isinstance,#[Za,‹0›,#[Za,#[Zcc,T.b.n_bool,boot_bool],#[Ze]]]]) (@ZgO _ _ _ _ _ #[Zda,Zbx,‹0›,‹1›,(Zu _)])))]]]]],?_⟩
  refine⟨_,rfl,(by show 2≤sizeLine;decide),fun tp htp=>?_⟩
  have sT:ZH H (upd H tp (.tup (["list", "tuple"].map V.ty))):=Zi htp _
  rcases hD with⟨rfl,rfl|⟨b,rfl⟩|⟨i,rfl⟩|⟨z,rfl⟩⟩|⟨p,q2,xs,ys,rfl,rfl,⟨hp,hq⟩|⟨hp,hq⟩,hl,hz,hi⟩
  ·refine⟨_,tp,["list", "tuple"],_,_,rfl,Zd,.non,Zj2 K,_,rfl,Zcz ?_⟩
   refine⟨_,rfl,rfl,_,rfl,ZdI rfl (ZfN ?_)⟩
   refine⟨_,rfl,_,rfl,rfl,_,rfl,ZdI rfl ?_⟩
   exact⟨_,rfl,_, "str",_,_,rfl,.non,Zgs K,_,rfl,_, "str",_,_,rfl,.non,Zgs K,rfl,q _ sT⟩
  ·refine⟨_,tp,["list", "tuple"],_,_,rfl,Zd,.bl b,ZkY K,_,rfl,Zcz ?_⟩
   refine⟨_,rfl,rfl,_,rfl,Zcn (by intro z;cases z) ?_⟩
   refine⟨_,rfl,_, "str",_,_,rfl,.bl b,Zli K,_,rfl,Zcz ?_⟩
   refine⟨_,rfl,_, "bool",_,_,rfl,.bl b,Zi0 K,_,rfl,ZfN ?_⟩
   refine⟨_,rfl,_, "bool",_,_,rfl,.bl b,Zi0 K,_,rfl,ZfN ?_⟩
   refine⟨_,rfl,_,rfl,rfl,?_⟩
   have e:decide (V.bl b=V.bl b)=true:=decide_eq_true rfl
   rw[e]
   exact q _ sT
  ·refine⟨_,tp,["list", "tuple"],_,_,rfl,Zd,.int i,Zkv K,_,rfl,Zcz ?_⟩
   refine⟨_,rfl,rfl,_,rfl,Zcn (by intro z;cases z) ?_⟩
   refine⟨_,rfl,_, "str",_,_,rfl,.int i,Zku K,_,rfl,Zcz ?_⟩
   refine⟨_,rfl,_, "bool",_,_,rfl,.int i,Zhx K,_,rfl,Zcz ?_⟩
   refine⟨_,rfl,_, "int",_,_,rfl,.int i,Zj5 K,_,rfl,ZfN ?_⟩
   refine⟨_,rfl,_, "bool",_,_,rfl,.int i,Zhx K,_,rfl,_,rfl,ZfN ?_⟩
   refine⟨_,rfl,_,rfl,rfl,?_⟩
   have e:decide (V.int i=V.int i)=true:=decide_eq_true rfl
   rw[e]
   exact q _ sT
  ·refine⟨_,tp,["list", "tuple"],_,_,rfl,Zd,.str z,Zko K,_,rfl,Zcz ?_⟩
   refine⟨_,rfl,rfl,_,rfl,Zcn (by intro z;cases z) ?_⟩
   refine⟨_,rfl,_, "str",_,_,rfl,.str z,Zes K,_,rfl,ZfN ?_⟩
   refine⟨_,rfl,_,rfl,rfl,_,rfl,ZdI rfl ?_⟩
   exact⟨_,rfl,_, "str",_,_,rfl,.str z,Zes K,_,rfl,_, "str",_,_,rfl,.str z,Zes K,rfl,q _ sT⟩
  ·have hxT:(upd H tp (.tup (["list", "tuple"].map V.ty))) p=some (.lst xs):=by rw[Zc (Zb hp htp)];exact hp
   have hyT:(upd H tp (.tup (["list", "tuple"].map V.ty))) q2=some (.lst ys):=by rw[Zc (Zb hq htp)];exact hq
   refine⟨_,tp,["list", "tuple"],_,_,rfl,Zd,.lst hyT,ZjD K,_,rfl,ZfN ?_⟩
   refine⟨_,rfl,_, "list",_,_,rfl,.lst hxT,Zf7 K,_,rfl,_, "list",_,_,rfl,.lst hyT,Zf7 K,rfl,_,rfl,Zfn rfl ?_⟩
   refine⟨_,rfl,_, "tuple",_,_,rfl,.lst hxT,Zgh K,_,rfl,_, "tuple",_,_,rfl,.lst hyT,Zgh K,rfl,_,rfl,Zfn rfl ?_⟩
   refine⟨_,rfl,p,xs,rfl,.inl (SqL.of hxT),_,rfl,q2,ys,rfl,.inl (SqL.of hyT),rfl,_,rfl,ZdI (by rw[hl]) ?_⟩
   refine⟨_,rfl,_,rfl,.l p,.l q2,xs,ys,rfl,SqL.of hxT,SqL.of hyT,fun D hD=>?_⟩
   have sD:ZH H (upd H tp (.tup (["list", "tuple"].map V.ty))):=Zi htp _
   refine Zhl (K:=K) (xs:=xs) (ys:=ys) (fun i zs σ H2=>(∃v1 v2,σ=[some (.ref p),some (.ref q2),v1,v2])∧zs=List.replicate i (.bl true)∧ZH H H2∧H2 D=some (.lst zs)∧i≤xs.length) ?_ ?_ ?_ ?_
   ·exact⟨⟨none,none,rfl⟩,rfl,sD.trans (Zi hD _),Zd,Qp _⟩
   ·rintro i zs σ H2 ⟨_,_,s2,_⟩
    exact⟨SqL.of (s2 _ _ hp),SqL.of (s2 _ _ hq)⟩
   ·rintro i zs σ H2 x' y' r hx' hy' ⟨⟨v1,v2,rfl⟩,rfl,s2,hD2,hiz⟩ hr
    have hil:i<xs.length:=(Qe.mp hx').1
    have nDr:D≠r:=Zb hD2 hr
    have s3:ZH H (upd H2 r (.tup [x',y'])):=s2.trans (Zi hr _)
    refine⟨r,_,rfl,SqT.of Zd,rfl,_,_,rfl,_,_,rfl,rfl,?_⟩
    refine⟨_,rfl,_,rfl,x',y',rfl,(hi i x' y' hx' hy').mono s3,fun H' s'=>?_⟩
    have hD':H' D=some (.lst (List.replicate i (.bl true))):=s' _ _ (by rw[Zc nDr];exact hD2)
    refine⟨hD',(by rw[Qay];exact Z2 (by omega)),⟨_,_,rfl⟩,?_,?_,Zd,hil⟩
    ·rw[List.replicate_succ']
    ·intro b o e
     have e1:=s' b o (s3 b o e)
     rw[Zc (fun z=>by subst z;exact nomatch (sD b o e).symm.trans hD)]
     exact e1
   ·rintro zs σ H2 ⟨_,rfl,s2,hD2,_⟩
    refine⟨D,List.replicate (min xs.length ys.length) true,rfl,SqL.of (by rw[List.map_replicate];exact hD2),?_⟩
    have e:(List.replicate (min xs.length ys.length) true).all id=true:=by rw[Qa4];intro b hb;exact(List.eq_of_mem_replicate hb)
    rw[e]
    exact q H2 s2
  ·have hxT:(upd H tp (.tup (["list", "tuple"].map V.ty))) p=some (.tup xs):=by rw[Zc (Zb hp htp)];exact hp
   have hyT:(upd H tp (.tup (["list", "tuple"].map V.ty))) q2=some (.tup ys):=by rw[Zc (Zb hq htp)];exact hq
   refine⟨_,tp,["list", "tuple"],_,_,rfl,Zd,.tup hyT,Zkn K,_,rfl,ZfN ?_⟩
   refine⟨_,rfl,_, "list",_,_,rfl,.tup hxT,Zgr K,_,rfl,_, "list",_,_,rfl,.tup hyT,Zgr K,rfl,_,rfl,Zfn rfl ?_⟩
   refine⟨_,rfl,_, "tuple",_,_,rfl,.tup hxT,Zgv K,_,rfl,_, "tuple",_,_,rfl,.tup hyT,Zgv K,rfl,_,rfl,Zfn rfl ?_⟩
   refine⟨_,rfl,p,xs,rfl,.inr (SqT.of hxT),_,rfl,q2,ys,rfl,.inr (SqT.of hyT),rfl,_,rfl,ZdI (by rw[hl]) ?_⟩
   refine⟨_,rfl,_,rfl,.t p,.t q2,xs,ys,rfl,SqT.of hxT,SqT.of hyT,fun D hD=>?_⟩
   have sD:ZH H (upd H tp (.tup (["list", "tuple"].map V.ty))):=Zi htp _
   refine Zhl (K:=K) (xs:=xs) (ys:=ys) (fun i zs σ H2=>(∃v1 v2,σ=[some (.ref p),some (.ref q2),v1,v2])∧zs=List.replicate i (.bl true)∧ZH H H2∧H2 D=some (.lst zs)∧i≤xs.length) ?_ ?_ ?_ ?_
   ·exact⟨⟨none,none,rfl⟩,rfl,sD.trans (Zi hD _),Zd,Qp _⟩
   ·rintro i zs σ H2 ⟨_,_,s2,_⟩
    exact⟨SqT.of (s2 _ _ hp),SqT.of (s2 _ _ hq)⟩
   ·rintro i zs σ H2 x' y' r hx' hy' ⟨⟨v1,v2,rfl⟩,rfl,s2,hD2,hiz⟩ hr
    have hil:i<xs.length:=(Qe.mp hx').1
    have nDr:D≠r:=Zb hD2 hr
    have s3:ZH H (upd H2 r (.tup [x',y'])):=s2.trans (Zi hr _)
    refine⟨r,_,rfl,SqT.of Zd,rfl,_,_,rfl,_,_,rfl,rfl,?_⟩
    refine⟨_,rfl,_,rfl,x',y',rfl,(hi i x' y' hx' hy').mono s3,fun H' s'=>?_⟩
    have hD':H' D=some (.lst (List.replicate i (.bl true))):=s' _ _ (by rw[Zc nDr];exact hD2)
    refine⟨hD',(by rw[Qay];exact Z2 (by omega)),⟨_,_,rfl⟩,?_,?_,Zd,hil⟩
    ·rw[List.replicate_succ']
    ·intro b o e
     have e1:=s' b o (s3 b o e)
     rw[Zc (fun z=>by subst z;exact nomatch (sD b o e).symm.trans hD)]
     exact e1
   ·rintro zs σ H2 ⟨_,rfl,s2,hD2,_⟩
    refine⟨D,List.replicate (min xs.length ys.length) true,rfl,SqL.of (by rw[List.map_replicate];exact hD2),?_⟩
    have e:(List.replicate (min xs.length ys.length) true).all id=true:=by rw[Qa4];intro b hb;exact(List.eq_of_mem_replicate hb)
    rw[e]
    exact q H2 s2
theorem ZaQ.new{H:Hp}{p l:Addr}{c:Int}{o:HO}(h:ZaQ H p c)(n:H l=none):ZaQ (upd H l o) p c:=by
 obtain⟨a,b,hp,c0⟩:=h
 exact⟨a,b,by rw[Zc (Zb hp n)];exact hp,c0⟩
theorem ZaQ.ge{H:Hp}{p:Addr}{c:Int}(h:ZaQ H p c):0≤c:=by obtain⟨a,b,hp,c0⟩:=h;exact c0
theorem ZaQ.here{H:Hp}{p:Addr}{c:Int}(h:ZaQ H p c):∃o,H p=some o:=by obtain⟨a,b,hp,c0⟩:=h;exact⟨_,hp⟩
theorem ZaQ.at{H:Hp}{p l:Addr}{c:Int}{o:HO}(h:ZaQ H p c)(n:p≠l):ZaQ (upd H l o) p c:=by
 obtain⟨a,b,hp,c0⟩:=h
 exact⟨a,b,by rw[Zc n];exact hp,c0⟩
theorem Ze4:∀ss:List Str,(∀s∈ss,AZ s)→PyData.canLayAll0 (ss.map PyData.str)=true
 | [],_=>rfl
 | x::r,h=>by simp[PyData.canLayAll0,PyData.canLay0,(h x (by simp)).ok,Ze4 r fun s hs=>h s (List.mem_cons_of_mem _ hs)]
theorem Zds:∀ss:List Str,PyData.depthAll (ss.map PyData.str)=0
 | []=>rfl
 | _::r=>by simp[PyData.depthAll,PyData.depth,Zds r]
theorem Zh1(ss:List Str)(h:∀s∈ss,AZ s):SeqAt.shaped (.list (ss.map PyData.str))=true:=by simp[SeqAt.shaped,PyData.canLay0,PyData.depth,Ze4 ss h,Zds]
theorem Zhc{K:PySem.W.Frag}{H:Hp}:∀ss:List Str,DVs K H (ss.map V.str) (ss.map PyData.str)
 | []=>.nil
 | s::r=>.cons (.str s) (Zhc r)
def ZiN:Sp:=fun vs H Q _=>∃ (p l:Addr) (c most:Int) (ss:List Str),vs=[.ref p,.ref l,.int most]∧ZaQ H p c∧c<2 ^ 40∧0≤most∧most≤60∧H l=some (.lst (ss.map V.str))∧1≤ss.length∧ss.length≤4∧(∀s∈ss,s.length≤24∧AZ s) ∧
 ∀ (r:Addr) (ts:List Str) (c':Int) (H':Hp),H r=none→H' r=some (.lst (ts.map V.str))→(ts.length:Int)≤most→(∀s∈ts,s.length≤28∧AZ s)→ZaQ H' p c'→c≤c'→c'≤c+600→But p H H'→Q (.ref r) H'
theorem ZmS(T:Zaq K mg cRow cMerge)(f_l_pick:Df P w K mg base 2 "_law_pick" ["_law_left_here", "_law_many_here"] ZdB)(f_l_key:Df P w K mg base 3 "_law_key" ["_law_left_here", "_law_stems_here"] ZkF):Df P w K mg base 4 "_law_keys" ["_law_left_here", "_law_stems_here", "_law_most"] ZiN:=by
 refine T.t_l_keys.df Zcb (fun vs H Q E h=>?_) (fun cdv f A outer s H vs Q E hr h=>?_)
 ·obtain⟨p,l,c,most,ss,rfl,_⟩:=h
  rfl
 obtain⟨p,l,c,most,ss,rfl,hL,c1,m0,m1,hl,n1,n4,h24,q⟩:=h
 refine⟨_,#[Zg,#[Zv,3,Zcb.nd,(Or.inl rfl),#[ZaN,#[Ze]]],#[Zg,#[Zct,PassesOwn.never,#[Zbh,T.b.n_range,#[Za,#[ZB,f_l_pick,hr,#[Za,‹0›,#[Za,#[ZI,Zax,‹2›,#[Zh]],#[Ze]]],(by rfl)],#[Ze]]],#[ZP,4,Zcb.nd,(Or.inl rfl)],#[Zg,#[Zv,5,Zcb.nd,(Or.inl rfl),#[ZB,f_l_key,hr,#[Za,‹0›,#[Za,‹1›,#[Ze]]],(by rfl)]],#[Zg,#[Zaw,(@PW.pt _ _ _ #[Zem,#[Zs,(@neD _ K _ hr (by rfl)),‹3›,#[ZaN,#[Ze]],(Zu _)],(@ZdQ _ _ _ _ #[Zs,Zbx,#[ZB,f_l_pick,hr,#[Za,‹0›,#[Za,#[Zh],#[Ze]]],(by rfl)],#[Zh],(Zu _)])]),#[Zj,#[Zv,5,Zcb.nd,(Or.inl rfl),#[ZF,(ixL K),‹3›,#[ZB,f_l_pick,hr,#[Za,‹0›,#[Za,#[Zk,(Zb5 K),(by rfl),T.b.n_len,Qt,#[Za,‹3›,#[Ze]]],#[Ze]]],(by rfl)]]]],#[ZQ]],#[Zj,#[Za0,#[ZeD,QW,Q6,Q7,Za4,‹3›,#[Za,‹5›,#[Ze]]]]]]]],#[Zj,#[Zr,‹3›]]]],?_⟩
 have c0:=hL.ge
 refine⟨(by show 0≤sizeLine;decide),fun r hr0=>?_⟩
 have npr:p≠r:=by obtain⟨o,ho⟩:=hL.here;exact Zb ho hr0
 have nlr:l≠r:=Zb hl hr0
 have npl:p≠l:=by
  obtain⟨a,b,hp,_⟩:=hL
  refine Zk2 hp hl fun e=>?_
  cases ss with
  | nil=>exact absurd (congrArg List.length (HO.lst.inj e)) (by simp)
  | cons x r=>exact absurd (HO.lst.inj e) (by intro z;cases z)
 refine⟨_,rfl,_,rfl,_,_,rfl,rfl,p,c,_,rfl,hL.new hr0,by omega,by omega,by omega,fun n H1 w0 w1 L1 B1=>?_⟩
 refine⟨_,rfl,by omega,by omega,?_⟩
 have hr1:H1 r=some (.lst []):=B1 r _ Zd npr.symm
 have B01:But p H H1:=(But.same (Zi hr0 _)).trans B1
 refine Zdc (fun i σ H2=>∃ (ts:List Str) (v1 v2:Option V) (c2:Int),σ=[some (.ref p),some (.ref l),some (.int most),some (.ref r),v1,v2]∧H2 r=some (.lst (ts.map V.str))∧ts.length=i∧(∀s∈ts,s.length≤28∧AZ s)∧ZaQ H2 p c2∧c+1≤c2∧c2≤c+1+8*i∧(∀b o,H b=some o→b≠p→H2 b=some o)) ⟨[],none,none,c+1,rfl,hr1,rfl,(fun s hs=>by cases hs),L1,by omega,by omega,B01⟩ ?_ ?_
 ·rintro i σ H2 hi ⟨ts,v1,v2,c2,rfl,hr2,hn,h28,L2,a1,a2,B2⟩
  have hi60:(i:Int)<61:=by omega
  have hl2:=B2 l _ hl npl.symm
  refine⟨_,rfl,_,rfl,p,l,c2,ss,rfl,L2,by omega,hl2,n1,n4,h24,fun key c3 H3 hkey hkaz L3 a3 a4 B3=>?_⟩
  have hr3:=B3 r _ hr2 npr.symm
  have fin:∀ (k2:Str) (c4:Int) (H4:Hp),k2.length≤28∧AZ k2→ZaQ H4 p c4→c2≤c4→c4≤c2+8→H4 r=some (.lst (ts.map V.str))→(∀b o,H b=some o→b≠p→H4 b=some o) →
    ∃ (ts':List Str) (v1 v2:Option V) (c5:Int),[some (V.ref p),some (V.ref l),some (V.int most),some (V.ref r),some (V.int (0+(i:Int))),some (V.str k2)]=[some (.ref p),some (.ref l),some (.int most),some (.ref r),v1,v2] ∧
     (upd H4 r (.lst (ts.map V.str++[.str k2]))) r=some (.lst (ts'.map V.str))∧ts'.length=i+1∧(∀s∈ts',s.length≤28∧AZ s)∧ZaQ (upd H4 r (.lst (ts.map V.str++[.str k2]))) p c5∧c+1≤c5∧c5≤c+1+8*((i+1:Nat):Int) ∧
     (∀b o,H b=some o→b≠p→(upd H4 r (.lst (ts.map V.str++[.str k2]))) b=some o):=fun k2 c4 H4 hk L4 b1 b2 hr4 B4=>by
   refine⟨ts++[k2],_,_,c4,rfl,?_,by rw[Qd,hn];rfl,?_,L4.at npr,by omega,by omega,fun b o e n=>?_⟩
   ·rw[Zd,Qh];rfl
   ·intro x hx
    rcases Qm.mp hx with hx|hx
    ·exact h28 x hx
    ·rw[Qk.mp hx];exact hk
   ·rw[Zc (Zb e hr0)]
    exact B4 b o e n
  have hlt:(ts.map V.str).length<sizeLine:=by rw[Qa,hn];exact Z2 (by omega)
  refine⟨_,rfl,(by show 0≤sizeLine;decide),fun e he=>?_⟩
  have hr3':(upd H3 e (.lst [])) r=some (.lst (ts.map V.str)):=by rw[Zc (Zb hr3 he)];exact hr3
  refine⟨.list (ts.map PyData.str),.list [],.lst (SqL.of hr3') (Zhc ts),.lst (SqL.of Zd) .nil,Zh1 ts (fun s h=>(h28 s h).2),(by ac_rfl),_,rfl,?_⟩
  have B3':∀b o,H b=some o→b≠p→(upd H3 e (.lst [])) b=some o:=fun b o z n=>Zi he _ b o (B3 b o (B2 b o z n) n)
  cases ts with
  | nil =>
   have ev:(if true=true then !PyData.eqv (.list (([]:List Str).map PyData.str)) (.list []) else PyData.eqv (.list (([]:List Str).map PyData.str)) (.list []))=false:=by ac_rfl
   rw[ev]
   refine Zcz (Zcz ?_)
   refine⟨_,rfl,.inl ⟨rfl,_,SqL.of hr3'⟩,_,rfl,r,_,_,rfl,rfl,hr3',hlt,?_⟩
   exact fin key c3 _ ⟨hkey,hkaz⟩ (L3.new he) (by omega) (by omega) hr3' B3'
  | cons t0 tr =>
   have ev:(if true=true then !PyData.eqv (.list ((t0::tr).map PyData.str)) (.list []) else PyData.eqv (.list ((t0::tr).map PyData.str)) (.list []))=true:=by simp[PyData.eqv,PyData.eqvAll]
   rw[ev]
   refine ZfN ⟨_,rfl,p,c3,_,rfl,L3.new he,by omega,by decide,by decide,fun d H5 d0 d1 L5 B5=>?_⟩
   have hr5:=B5 r _ hr3' npr.symm
   refine⟨rfl,_,rfl,Zbo (fun _=>?_) (fun _=>?_)⟩
   ·have hlen:((((t0::tr).map V.str).length:Nat):Int)=((t0::tr).length:Int):=by rw[Qa]
    have hpos:(0:Int)<((t0::tr).length:Int):=by simp
    refine⟨_,rfl,_,rfl,_,rfl,r,_,rfl,.inl (SqL.of hr5),p,c3+1,_,rfl,L5,by omega,by omega,by omega,fun d' H6 d0' d1' L6 B6=>?_⟩
    obtain⟨st,hs1,hs2⟩:=ZiL (ss:=t0::tr) d0' (by omega)
    have hr6:=B6 r _ hr5 npr.symm
    refine(xw4 r _ _ _ ⟨rfl,rfl,SqL.of hr6,hs2,?_⟩)
    refine⟨_,rfl,.inl ⟨rfl,_,SqL.of hr6⟩,_,rfl,r,_,_,rfl,rfl,hr6,hlt,?_⟩
    exact fin st _ _ (h28 st hs1) L6 (by omega) (by omega) hr6 fun b o z n=>B6 b o (B5 b o (B3' b o z n) n) n
   ·refine⟨_,rfl,.inl ⟨rfl,_,SqL.of hr5⟩,_,rfl,r,_,_,rfl,rfl,hr5,hlt,?_⟩
    exact fin key _ _ ⟨hkey,hkaz⟩ L5 (by omega) (by omega) hr5 fun b o z n=>B5 b o (B3' b o z n) n
 ·rintro σ H2 ⟨ts,v1,v2,c2,rfl,hr2,hn,h28,L2,a1,a2,B2⟩
  exact⟨_,rfl,q r ts c2 H2 hr0 hr2 (by omega) h28 L2 (by omega) (by omega) B2⟩
def Zb6(ss:List Str)(i:Nat):Int:=if i=0 then 0 else (lcp (cds (ss.getD (i-1) "")) (cds (ss.getD i "")):Nat)
def Zfu(K:PySem.W.Frag):Sp:=fun vs H Q _=>∃ (a:Addr) (ss:List Str),vs=[.ref a]∧SqL K H a (ss.map V.str)∧ss.length≤100∧(∀s∈ss,s.length≤1000) ∧
 ∀ (r:Addr) (H':Hp),H r=none→H' r=some (.lst ((List.range ss.length).map fun j=>.int (Zb6 ss j)))→ZH H H'→Q (.ref r) H'
theorem Zkk(T:Zaq K mg cRow cMerge)(f_alike:Df P w K mg base 2 "alike" ["one", "other"] ZeQ):Df P w K mg base 3 "alikes" ["row"] (Zfu K):=by
 refine T.t_alikes.df Zdg (fun vs H Q E h=>?_) (fun cdv f A outer s H vs Q E hr h=>?_)
 ·obtain⟨a,ss,rfl,_⟩:=h
  rfl
 obtain⟨a,ss,rfl,hS,hn,hlen,q⟩:=h
 refine⟨_,#[Zg,#[Zv,1,Zdg.nd,(Or.inl rfl),#[ZaN,#[Ze]]],#[Zg,#[Zct,PassesOwn.never,#[iE,K,T.b.n_enumerate,#[Za,‹0›,#[Ze]]],#[gT,K,2,#[Zw,#[ZP,2,Zdg.nd,(Or.inl rfl)],#[Zw,#[ZP,3,Zdg.nd,(Or.inl rfl)],(@ZaT _)]]],#[Zj,#[Za0,#[ZeD,QW,Q6,Q7,Za4,‹1›,#[Za,#[Zbe,#[Zs,Zbx,‹2›,#[Zh],(Zu _)],#[Zh],#[ZB,f_alike,hr,#[Za,#[ZF,(ixL K),‹0›,#[ZI,Zc4,‹2›,#[Zh]]],#[Za,‹3›,#[Ze]]],(by rfl)]],#[Ze]]]]]],#[Zj,#[Zr,‹1›]]]],?_⟩
 refine⟨(by show 0≤sizeLine;decide),fun r hr0=>?_⟩
 have s1:ZH H (upd H r (.lst [])):=Zi hr0 _
 refine⟨_,rfl,a,ss.map V.str,rfl,s1.seq hS,?_⟩
 refine Zfc (K:=K) (a:=a) (xs:=ss.map V.str) (fun i σ H2=>(∃v1 v2:Option V,σ=[some (.ref a),some (.ref r),v1,v2])∧H2 r=some (.lst ((List.range i).map fun j=>.int (Zb6 ss j)))∧ZH H H2∧i≤ss.length) ⟨⟨none,none,rfl⟩,Zd,s1,Qp _⟩ (fun _ _ _ hq=>by obtain⟨_,_,s2,_⟩:=hq;exact s2.seq hS) ?_ ?_
 ·rintro i x σ H2 p hx ⟨⟨v1,v2,rfl⟩,hr2,s2,hi⟩ hp
  rw[Qs]at hx
  cases hy:ss[i]? with
  | none=>rw[hy]at hx;cases hx
  | some y =>
   rw[hy]at hx
   cases hx
   have hil:i<ss.length:=(Qe.mp hy).1
   have npr:r≠p:=Zb hr2 hp
   have s3:ZH H (upd H2 p (.tup [.int i,.str y])):=s2.trans (Zi hp _)
   have hr3:(upd H2 p (.tup [.int i,.str y])) r=some (.lst ((List.range i).map fun j=>.int (Zb6 ss j))):=by rw[Zc npr];exact hr2
   have hlt:((List.range i).map fun j=>V.int (Zb6 ss j)).length<sizeLine:=by rw[Qa,QaE];exact Z2 (by omega)
   have fin:∀z:Int,z=Zb6 ss i→(∃v1 v2:Option V,[some (V.ref a),some (V.ref r),some (V.int i),some (V.str y)]=[some (.ref a),some (.ref r),v1,v2]) ∧
     (upd (upd H2 p (.tup [.int i,.str y])) r (.lst (((List.range i).map fun j=>.int (Zb6 ss j))++[.int z]))) r=some (.lst ((List.range (i+1)).map fun j=>.int (Zb6 ss j))) ∧
     ZH H (upd (upd H2 p (.tup [.int i,.str y])) r (.lst (((List.range i).map fun j=>.int (Zb6 ss j))++[.int z])))∧i+1≤ss.length:=fun z e=>by
    refine⟨⟨_,_,rfl⟩,?_,fun b o h=>?_,hil⟩
    ·rw[Zd,List.range_succ,Qh,e];rfl
    ·rw[Zc (Zb h hr0)];exact s3 b o h
   refine⟨p,_,rfl,SqT.of Zd,rfl,_,_,rfl,_,_,rfl,rfl,?_⟩
   refine⟨_,rfl,.inl ⟨rfl,_,SqL.of hr3⟩,_,rfl,rfl,_,rfl,?_⟩
   by_cases e0:i=0
   ·subst e0
    exact ZdI rfl ⟨r,_,_,rfl,rfl,hr3,hlt,fin 0 rfl⟩
   ·have hprev:i-1<ss.length:=by omega
    have ei:((i:Int)-1)=((i-1:Nat):Int):=by omega
    have hat:atI (ss.map V.str) ((i:Int)-1)=some (.str ss[i-1]):=by rw[ei];exact ZaB (by rw[Qs,Qb hprev]<;>rfl)
    refine Zcn (fun z=>by injection z with z;omega) ⟨_,rfl,_,rfl,_,_,rfl,rfl,xw4 a _ _ _ ⟨rfl,rfl,s3.seq hS,hat,_,rfl,ss[i-1],y,rfl,hlen _ (QV hprev),hlen _ (Qw hy),r,_,_,rfl,rfl,hr3,hlt,fin _ ?_⟩⟩
    unfold Zb6
    rw[if_neg e0,QF,QF,Qb hprev,hy]
    rfl
 ·rintro σ H2 ⟨⟨v1,v2,rfl⟩,hr2,s2,hi⟩
  rw[Qa]at hr2
  exact⟨_,rfl,q r H2 hr0 hr2 s2⟩
def ZG:List Nat→List Nat→Int
 | [],[]=>0
 | [],_::_ =>-1
 | _::_,[]=>1
 | a::r,b::s=>if a=b then ZG r s else if a<b then -1 else 1
theorem Zgq:∀ (x y:List Nat),Spec.ltCps y x=false→ZG x y≤0
 | [],[],_=>by unfold ZG;omega
 | [],_::_,_=>by unfold ZG;omega
 | _::_,[],h=>by unfold Spec.ltCps at h;cases h
 | a::r,b::s,h=>by
  have ih:=Zgq r s
  unfold Spec.ltCps at h
  unfold ZG
  rw[Bool.or_eq_false_iff,Bool.and_eq_false_iff]at h
  obtain⟨h1,h2⟩:=h
  have h1':¬ b<a:=of_decide_eq_false h1
  by_cases e:a=b
  ·rw[if_pos e]
   rcases h2 with z|z
   ·rw[e]at z;simp at z
   ·exact ih z
  ·rw[if_neg e,if_pos (by omega)]
   omega
theorem Zcs:∀ (x y z:List Nat),ZG x y≤0→ZG y z≤0→ZG x z≤0
 | [],_,[],_,_=>by unfold ZG;omega
 | [],_,_::_,_,_=>by unfold ZG;omega
 | _::_,[],_,h,_=>by unfold ZG at h;omega
 | _::_,_::_,[],_,h=>by unfold ZG at h;omega
 | a::r,b::s,c::t,h1,h2=>by
  unfold ZG at h1 h2 ⊢
  have ih:=Zcs r s t
  by_cases e1:a=b
  ·rw[if_pos e1]at h1
   by_cases e2:b=c
   ·rw[if_pos e2]at h2
    rw[if_pos (e1.trans e2)]
    exact ih h1 h2
   ·rw[if_neg e2]at h2
    rw[if_neg (fun e=>e2 (e1.symm.trans e))]
    split at h2
    ·rw[if_pos (by omega)];omega
    ·omega
  ·rw[if_neg e1]at h1
   split at h1
   ·by_cases e2:b=c
    ·rw[if_neg (fun e=>e1 (e.trans e2.symm)),if_pos (by omega)];omega
    ·rw[if_neg e2]at h2
     split at h2
     ·rw[if_neg (by omega),if_pos (by omega)];omega
     ·omega
   ·omega
theorem Zf6:∀ (ss:List Str) (p:Str),risingS p ss=true→∀ (k:Nat) (x y:Str),(p::ss)[k]? = some x→ss[k]? = some y→ZG (cds x) (cds y)≤0
 | [],p,_,k,x,y,_,h=>by simp at h
 | z::r,p,h,0,x,y,h1,h2=>by
  unfold risingS at h
  rw[QaI]at h
  simp at h1 h2
  subst h1 h2
  exact Zgq _ _ (by simpa using h.1)
 | z::r,p,h,k+1,x,y,h1,h2=>by
  unfold risingS at h
  rw[QaI]at h
  exact Zf6 r z h.2 k x y (by simpa using h1) (by simpa using h2)
theorem Zf5{ss:List Str}(h:sortedS ss=true)(k:Nat)(x y:Str)(h1:ss[k]? = some x)(h2:ss[k+1]? = some y):ZG (cds x) (cds y)≤0:=by
 cases ss with
 | nil=>simp at h1
 | cons p r=>exact Zf6 r p h k x y h1 (by simpa using h2)
theorem ZiR{ss:List Str}{k:Nat}(h:k<ss.length):atI (ss.map V.str) (k:Int)=some (.str ss[k]):=ZaB (by rw[Qs,Qb h]<;>rfl)
theorem ZaQ.same{H H':Hp}{p:Addr}{c:Int}(h:ZaQ H p c)(s:ZH H H'):ZaQ H' p c:=by obtain⟨b1,b2,hb,c0⟩:=h;exact⟨b1,b2,s _ _ hb,c0⟩
def mid(ns:List Int):Nat:=(ns.length+1) / 2
def Zdl(ns:List Int):List Int:=ns.take (mid ns)
def ZfM(ns:List Int):List Int:=ns.drop (mid ns)
theorem ZmQ(ns:List Int):((((ns.map V.int).length:Nat):Int)+1) / 2=((mid ns:Nat):Int):=by
 rw[Qa];unfold mid;omega
theorem Zjf{ns:List Int}{k:Int}(h0:0≤k)(h:k<(ns.length:Int)):∃v∈ns,atI (ns.map V.int) k=some (.int v):=by
 have hk:k.toNat<ns.length:=by omega
 have ek:k=((k.toNat:Nat):Int):=by omega
 have q:atI (ns.map V.int) ((k.toNat:Nat):Int)=some (.int ns[k.toNat]):=ZaB (by rw[Qs,Qb hk]<;>rfl)
 rw[← ek]at q
 exact⟨_,QV hk,q⟩
theorem ZoP(ns:List Int)(m:Nat)(h:m≤ns.length):ZgW (ns.map V.int) none (some (m:Int))=(ns.take m).map V.int:=by
 unfold ZgW
 have e:HT.sIx (ns.map V.int).length (ns.map V.int).length (some (m:Int))=m:=by
  unfold HT.sIx
  simp only[List.length_map]
  rw[if_neg (by omega)]
  omega
 have e0:HT.sIx (ns.map V.int).length 0 none=0:=rfl
 rw[e,e0,List.drop_zero,Nat.sub_zero,List.map_take]
theorem ZlN(ns:List Int)(m:Nat)(h:m≤ns.length):ZgW (ns.map V.int) (some (m:Int)) none=(ns.drop m).map V.int:=by
 unfold ZgW
 have e:HT.sIx (ns.map V.int).length 0 (some (m:Int))=m:=by
  unfold HT.sIx
  simp only[List.length_map]
  rw[if_neg (by omega)]
  omega
 have e0:HT.sIx (ns.map V.int).length (ns.map V.int).length none=(ns.map V.int).length:=rfl
 rw[e,e0,List.map_drop,Qu (by rw[QI,Qa];omega)]
theorem ZeN(z:Str):(cds z).length=z.length:=by simp[Str.length]
theorem Zjs:∀ (x y:List Nat),(lcp x y=x.length→lcp x y=y.length→ZG x y=0)∧(lcp x y=x.length→lcp x y≠y.length→ZG x y = -1)∧(lcp x y≠x.length→lcp x y=y.length→ZG x y=1) ∧
  ∀a b,x[lcp x y]? = some a→y[lcp x y]? = some b→ZG x y=if a<b then -1 else 1
 | [],[]=>⟨fun _ _=>rfl,fun _ h=>absurd rfl h,fun h _=>absurd rfl h,fun a b h _=>by simp at h⟩
 | [],_::_=>⟨fun _ h=>by unfold lcp at h;simp at h,fun _ _=>rfl,fun h _=>absurd rfl h,fun a b h _=>by simp at h⟩
 | _::_,[]=>⟨fun h _=>by unfold lcp at h;simp at h,fun h _=>by unfold lcp at h;simp at h,fun _ _=>rfl,fun a b _ h=>by simp at h⟩
 | a::r,b::s=>by
  obtain⟨h1,h2,h3,h4⟩:=Zjs r s
  unfold lcp ZG
  by_cases e:a=b
  ·rw[if_pos e,if_pos e]
   simp only[List.length_cons,List.getElem?_cons_succ]
   exact⟨fun p q=>h1 (by omega) (by omega),fun p q=>h2 (by omega) (by omega),fun p q=>h3 (by omega) (by omega),h4⟩
  ·rw[if_neg e,if_neg e]
   simp only[List.length_cons,List.getElem?_cons_zero]
   refine⟨fun p=>by omega,fun p=>by omega,fun _ p=>by omega,fun c d p q=>?_⟩
   cases p;cases q
   rfl
theorem Zbf:∀ (x y:List Nat),ZG y x =-ZG x y
 | [],[]=>rfl
 | [],_::_=>rfl
 | _::_,[]=>rfl
 | a::r,b::s=>by
  have ih:=Zbf r s
  unfold ZG
  by_cases e:a=b
  ·rw[if_pos e,if_pos e.symm,ih]
  ·rw[if_neg e,if_neg fun z=>e z.symm]
   by_cases l:a<b
   ·rw[if_pos l,if_neg (by omega)];rfl
   ·rw[if_neg l,if_pos (by omega)]
theorem Zon(a b:Nat):decide ((⟨#[a]⟩:Str).cps.toList<(⟨#[b]⟩:Str).cps.toList)=decide (a<b):=by
 have e:([a]:List Nat)<[b]↔a<b:=by
  constructor
  ·intro h
   cases h with
   | rel h=>exact h
   | cons h=>cases h
  ·exact fun h=>List.Lex.rel h
 exact decide_eq_decide.mpr e
theorem Zex:∀x:List Nat,ZG x x=0
 | []=>rfl
 | a::r=>by unfold ZG;rw[if_pos rfl];exact Zex r
theorem Zer:∀ (x y:List Nat),ZG x y=0→x=y
 | [],[],_=>rfl
 | [],_::_,h=>by unfold ZG at h;omega
 | _::_,[],h=>by unfold ZG at h;omega
 | a::r,b::s,h=>by
  unfold ZG at h
  by_cases e:a=b
  ·rw[if_pos e]at h
   rw[e,Zer r s h]
  ·rw[if_neg e]at h
   split at h<;>omega
def ZgA:Sp:=fun vs H Q _=>∃x y:Str,vs=[.str x,.str y]∧x.length≤1000∧y.length≤1000∧Q (.int (ZG (cds x) (cds y))) H
def ZeP:Sp:=fun vs H Q _=>∃x y:Str,vs=[.str x,.str y,.int (lcp (cds x) (cds y):Nat)]∧x.length≤1000∧y.length≤1000∧Q (.int (ZG (cds x) (cds y))) H
theorem ZkR(T:Zaq K mg cRow cMerge):Df P w K mg base 1 "order_at" ["one", "other", "at"] ZeP:=by
 refine T.t_order_at.df ZhV (fun vs H Q E h=>?_) (fun cdv f A outer s H vs Q E hr h=>?_)
 ·obtain⟨x,y,rfl,_⟩:=h
  rfl
 obtain⟨x,y,rfl,hx,hy,q⟩:=h
 refine⟨_,#[Zg,#[Zaw,(@PW.pt _ _ _ #[Zem,#[Zs,Zbx,‹2›,#[Zk,Z0,(by rfl),T.b.n_len,Qt,#[Za,‹0›,#[Ze]]],(Zu _)],(@ZdQ _ _ _ _ #[Zs,Zbx,‹2›,#[Zk,Z0,(by rfl),T.b.n_len,Qt,#[Za,‹1›,#[Ze]]],(Zu _)])]),#[Zj,#[Zr,#[Zh]]],#[ZQ]],#[Zg,#[Zaw,#[Zs,Zbx,‹2›,#[Zk,Z0,(by rfl),T.b.n_len,Qt,#[Za,‹0›,#[Ze]]],(Zu _)],#[Zj,#[Zr,(@Zjx _ _ _ _ _ _ Zg2 #[Zh])]],#[ZQ]],#[Zg,#[Zaw,#[Zs,Zbx,‹2›,#[Zk,Z0,(by rfl),T.b.n_len,Qt,#[Za,‹1›,#[Ze]]],(Zu _)],#[Zj,#[Zr,#[Zh]]],#[ZQ]],#[Zj,#[Zr,#[Zbe,#[Zs,ZjU,#[ZF,ZeZ,‹0›,‹2›],#[ZF,ZeZ,‹1›,‹2›],(Zu _)],(@Zjx _ _ _ _ _ _ Zg2 #[Zh]),#[Zh]]]]]]],?_⟩
 obtain⟨o1,o2,o3,o4⟩:=Zjs (cds x) (cds y)
 have ll:=ZcM (cds x) (cds y)
 have lx:=ZeN x
 have ly:=ZeN y
 have inj:∀ {m n:Nat},V.int (m:Int)=V.int (n:Int)→m=n:=fun {m n} e=>by injection e with e;omega
 refine⟨_,rfl,_,rfl,x,rfl,ZcG hx,rfl,_,rfl,Zbo (fun d=>?_) (fun d=>?_)⟩
 ·have d1:=inj (of_decide_eq_true d)
  refine⟨_,rfl,_,rfl,y,rfl,ZcG hy,rfl,_,rfl,Zbo (fun d2=>?_) (fun d2=>?_)⟩
  ·have d2':=inj (of_decide_eq_true d2)
   rw[o1 (by omega) (by omega)]at q
   exact q
  ·have d2':¬ lcp (cds x) (cds y)=y.length:=fun e=>d2 (by rw[e];exact decide_eq_true rfl)
   refine⟨_,rfl,_,rfl,x,rfl,ZcG hx,rfl,_,rfl,ZdI (by rw[d1]) ?_⟩
   rw[o2 (by omega) (by omega)]at q
   exact⟨_,rfl,q⟩
 ·have d1:¬ lcp (cds x) (cds y)=x.length:=fun e=>d (by rw[e];exact decide_eq_true rfl)
  refine Zcz ⟨_,rfl,_,rfl,x,rfl,ZcG hx,rfl,_,rfl,Zcn (fun e=>d1 (inj e)) ?_⟩
  refine⟨_,rfl,_,rfl,y,rfl,ZcG hy,rfl,_,rfl,Zbo (fun d2=>?_) (fun d2=>?_)⟩
  ·have d2':=inj (of_decide_eq_true d2)
   rw[o3 (by omega) (by omega)]at q
   exact q
  ·have d2':¬ lcp (cds x) (cds y)=y.length:=fun e=>d2 (by rw[e];exact decide_eq_true rfl)
   obtain⟨a,ha,ha'⟩:=ZdZ (z:=x) (k:=(lcp (cds x) (cds y):Nat)) (by omega) (by omega)
   obtain⟨b,hb,hb'⟩:=ZdZ (z:=y) (k:=(lcp (cds x) (cds y):Nat)) (by omega) (by omega)
   rw[Int.toNat_natCast]at ha hb
   refine⟨_,rfl,_,rfl,x,_,a,rfl,rfl,ZcG hx,ha',_,rfl,_,rfl,y,_,b,rfl,rfl,ZcG hy,hb',_,_,rfl,rfl,_,rfl,?_⟩
   rw[Zon]
   rw[o4 a b ha hb]at q
   refine Zbo (fun e=>?_) (fun e=>?_)
   ·rw[if_pos (of_decide_eq_true e)]at q
    exact⟨_,rfl,q⟩
   ·rw[if_neg (fun z=>e (decide_eq_true z))]at q
    exact q
theorem ZkI(T:Zaq K mg cRow cMerge)(f_alike:Df P w K mg base 2 "alike" ["one", "other"] ZeQ)(f_order_at:Df P w K mg base 1 "order_at" ["one", "other", "at"] ZeP):Df P w K mg base 3 "liken" ["one", "other"] ZgA:=by
 refine T.t_liken.df Zmq (fun vs H Q E h=>?_) (fun cdv f A outer s H vs Q E hr h=>?_)
 ·obtain⟨x,y,rfl,_⟩:=h
  rfl
 obtain⟨x,y,rfl,hx,hy,q⟩:=h
 refine⟨_,#[Zj,#[Zr,#[ZB,f_order_at,hr,#[Za,‹0›,#[Za,‹1›,#[Za,#[ZB,f_alike,hr,#[Za,‹0›,#[Za,‹1›,#[Ze]]],(by rfl)],#[Ze]]]],(by rfl)]]],?_⟩
 exact⟨_,rfl,_,rfl,_,rfl,_,rfl,x,y,rfl,hx,hy,x,y,rfl,hx,hy,q⟩
theorem ZlW{c A B:Prop}[Decidable c](hc:¬ c)(h:A):if (!decide c)=true then A else B:=by
 rw[if_pos (by rw[decide_eq_false hc];rfl)]
 exact h
def ZcK:Sp:=fun vs H Q _=>∃ (x y:Str) (far:Nat),vs=[.str x,.str y,.int far]∧x.length≤1000∧y.length≤1000∧far≤lcp (cds x) (cds y) ∧
 ∀t,H t=none→Q (.ref t) (upd H t (.tup [.int (ZG (cds x) (cds y)),.int (lcp (cds x) (cds y):Nat),.int ((lcp (cds x) (cds y):Nat)-(far:Int)+1)]))
theorem ZfK(T:Zaq K mg cRow cMerge)(f_alike_from:Df P w K mg base 1 "alike_from" ["one", "other", "far"] ZbR)(f_order_at:Df P w K mg base 1 "order_at" ["one", "other", "at"] ZeP):Df P w K mg base 2 "liken_from" ["one", "other", "far"] ZcK:=by
 refine T.t_liken_from.df Zdm (fun vs H Q E h=>?_) (fun cdv f A outer s H vs Q E hr h=>?_)
 ·obtain⟨x,y,far,rfl,_⟩:=h
  rfl
 obtain⟨x,y,far,rfl,hx,hy,hf,q⟩:=h
 refine⟨_,#[Zg,#[Zv,3,Zdm.nd,(Or.inl rfl),#[ZB,f_alike_from,hr,#[Za,‹0›,#[Za,‹1›,#[Za,‹2›,#[Ze]]]],(by rfl)]],#[Zj,#[Zr,#[Zay,#[Za,#[ZB,f_order_at,hr,#[Za,‹0›,#[Za,‹1›,#[Za,‹3›,#[Ze]]]],(by rfl)],#[Za,‹3›,#[Za,#[ZI,Zax,#[ZI,Zc4,‹3›,‹2›],#[Zh]],#[Ze]]]]]]]],?_⟩
 refine⟨_,rfl,_,rfl,_,rfl,x,y,far,rfl,hx,hy,hf,?_⟩
 refine⟨_,rfl,_,rfl,_,rfl,x,y,rfl,hx,hy,?_⟩
 refine⟨_,rfl,_,rfl,_,rfl,_,_,rfl,rfl,_,_,rfl,rfl,(by show 3≤sizeLine;decide),fun t ht=>?_⟩
 exact q t ht
def Zhk(ss:List Str)(v:V):Prop :=
 (v=.non∧∀i x y,ss[i+1]? = some x→ss[i]? = some y→0≤ZG (cds x) (cds y)) ∨
 ∃k:Nat,v=.int ((k+1:Nat):Int)∧k+1<ss.length∧(∀x y,ss[k+1]? = some x→ss[k]? = some y→ZG (cds x) (cds y)<0)∧∀i,i<k→∀x y,ss[i+1]? = some x→ss[i]? = some y→0≤ZG (cds x) (cds y)
theorem Zm6{ss:List Str}{v v':V}(h:Zhk ss v)(h':Zhk ss v'):v=v':=by
 rcases h with⟨rfl,a⟩|⟨k,rfl,l,b,c⟩
 ·rcases h' with⟨rfl,_⟩|⟨k',rfl,l',b',_⟩
  ·rfl
  ·have:=a k' _ _ (Qb l') (Qb (by omega))
   have:=b' _ _ (Qb l') (Qb (by omega))
   omega
 ·rcases h' with⟨rfl,a⟩|⟨k',rfl,l',b',c'⟩
  ·have:=a k _ _ (Qb l) (Qb (by omega))
   have:=b _ _ (Qb l) (Qb (by omega))
   omega
  ·have e:k=k':=by
    rcases Nat.lt_trichotomy k k' with h|h|h
    ·have:=c' k h _ _ (Qb l) (Qb (by omega))
     have:=b _ _ (Qb l) (Qb (by omega))
     omega
    ·exact h
    ·have:=c k' h _ _ (Qb l') (Qb (by omega))
     have:=b' _ _ (Qb l') (Qb (by omega))
     omega
   rw[e]
def Zll(K:PySem.W.Frag):Sp:=fun vs H Q _=>∃ (a:Addr) (ss:List Str),vs=[.ref a]∧SqL K H a (ss.map V.str)∧ss.length≤200∧(∀s∈ss,s.length≤1000)∧∀ (v:V) (H':Hp),Zhk ss v→ZH H H'→Q v H'
theorem Zk1(T:Zaq K mg cRow cMerge)(f_liken:Df P w K mg base 3 "liken" ["one", "other"] ZgA):Df P w K mg base 4 "first_break" ["keys"] (Zll K):=by
 refine T.t_first_break.df Zc5 (fun vs H Q E h=>?_) (fun cdv f A outer s H vs Q E hr h=>?_)
 ·obtain⟨a,ss,rfl,_⟩:=h
  rfl
 obtain⟨a,ss,rfl,hS,hn,hlen,q⟩:=h
 refine⟨_,#[Zg,#[Zct,PassesOwn.never,(@ZjA _ _ _ _ _ _ _ rfl T.b.n_range #[Za,#[Zh],#[Za,#[Zk,(Zb5 K),(by rfl),T.b.n_len,Qt,#[Za,‹0›,#[Ze]]],#[Ze]]] (by rfl) (by rfl)),#[ZP,1,Zc5.nd,(Or.inl rfl)],#[Zj,#[Zaw,#[Zs,Ze2,#[ZB,f_liken,hr,#[Za,#[ZF,(ixL K),‹0›,‹1›],#[Za,#[ZF,(ixL K),‹0›,#[ZI,Zc4,‹1›,#[Zh]]],#[Ze]]],(by rfl)],#[Zh],(Zu _)],#[Zj,#[Zr,‹1›]],#[ZQ]]]],#[Zj,#[Zr,#[Zaj]]]],?_⟩
 have hl:(((ss.map V.str).length:Nat):Int)=(ss.length:Int):=by rw[Qa]
 refine⟨_,rfl,a,_,rfl,.inl hS,_,_,rfl,⟨by omega,by omega,by omega,by omega⟩,?_⟩
 refine Zdc (fun i σ H2=>(∃v:Option V,σ=[some (.ref a),v])∧ZH H H2∧∀j,j<i→∀x y,ss[j+1]? = some x→ss[j]? = some y→0≤ZG (cds x) (cds y)) ⟨⟨none,rfl⟩,ZH.refl H,fun j h=>by omega⟩ ?_ ?_
 ·rintro i σ H2 hi ⟨⟨v,rfl⟩,s2,h2⟩
  have hi1:i+1<ss.length:=by omega
  have e1:(1+(i:Int))=((i+1:Nat):Int):=by omega
  have e0:(1+(i:Int)-1)=((i:Nat):Int):=by omega
  refine⟨_,rfl,_,rfl,xw4 a _ _ _ ⟨rfl,rfl,s2.seq hS,(by rw[e1];exact ZiR hi1),_,rfl,_,rfl,_,_,rfl,rfl,xw4 a _ _ _ ⟨rfl,rfl,s2.seq hS,(by rw[e0];exact ZiR (by omega)),ss[i+1],ss[i],rfl,hlen _ (QV hi1),hlen _ (QV (by omega)),_,_,rfl,rfl,_,rfl,?_⟩⟩⟩
  refine Zbo (fun d=>?_) (fun d=>?_)
  ·have d':ZG (cds ss[i+1]) (cds ss[i])<0:=of_decide_eq_true d
   refine⟨_,rfl,q _ H2 (.inr ⟨i,by rw[e1],hi1,fun x y h1 h0=>?_,h2⟩) s2⟩
   rw[Qb hi1]at h1
   rw[Qb (by omega)]at h0
   cases h1;cases h0
   omega
  ·have d':¬ ZG (cds ss[i+1]) (cds ss[i])<0:=fun z=>d (decide_eq_true z)
   refine⟨⟨_,rfl⟩,s2,fun j hj x y h1 h0=>?_⟩
   by_cases ej:j=i
   ·subst ej
    rw[Qb hi1]at h1
    rw[Qb (by omega)]at h0
    cases h1;cases h0
    omega
   ·exact h2 j (by omega) x y h1 h0
 ·rintro σ H2 ⟨⟨v,rfl⟩,s2,h2⟩
  refine q _ H2 (.inl ⟨rfl,fun j x y h1 h0=>?_⟩) s2
  have:=(Qe.mp h1).1
  exact h2 j (by omega) x y h1 h0
def ZdJ(K:PySem.W.Frag)(tup:Bool):Sp:=fun vs H Q _=>∃ (a:Addr) (ns:List Int),vs=[.ref a]∧SqL K H a (ns.map V.int)∧ns.length≤100 ∧
 ∀ (t f r:Addr) (H':Hp),H t=none→H f=none→H r=none→f≠r→H' t=some (if tup=true then .tup [.ref f,.ref r] else .lst [.ref f,.ref r])→H' f=some (.lst ((Zdl ns).map V.int))→H' r=some (.lst ((ZfM ns).map V.int))→ZH H H'→t≠f→t≠r→Q (.ref t) H'
theorem Zkz{H:Hp}{f r t:Addr}{A B T:HO}(hf:H f=none)(hr:(upd H f A) r=none)(ht:(upd (upd H f A) r B) t=none) :
  H r=none∧H t=none∧f≠r∧t≠f∧t≠r∧(upd (upd (upd H f A) r B) t T) f=some A∧(upd (upd (upd H f A) r B) t T) r=some B∧ZH H (upd (upd (upd H f A) r B) t T):=by
 have n1:f≠r:=Zb (H:=upd H f A) (o:=A) Zd hr
 have e1:(upd (upd H f A) r B) f=some A:=by rw[Zc n1];exact Zd
 have n2:f≠t:=Zb e1 ht
 have n3:r≠t:=Zb (H:=upd (upd H f A) r B) (o:=B) Zd ht
 have s1:ZH H (upd H f A):=Zi hf _
 have s2:=s1.trans (Zi hr B)
 have s3:=s2.trans (Zi ht T)
 exact⟨s1.free hr,s2.free ht,n1,n2.symm,n3.symm,by rw[Zc n2];exact e1,by rw[Zc n3];exact Zd,s3⟩
theorem ZjG(T:Zaq K mg cRow cMerge):Df P w K mg base 1 "halves" ["numbers"] (ZdJ K true):=by
 refine T.t_halves.df ZfX (fun vs H Q E h=>?_) (fun cdv f A outer s H vs Q E hr h=>?_)
 ·obtain⟨a,ns,rfl,_⟩:=h
  rfl
 obtain⟨a,ns,rfl,hS,hn,q⟩:=h
 refine⟨_,#[Zg,#[Zv,1,ZfX.nd,(Or.inl rfl),#[ZI,ZgJ,#[ZI,Zax,#[Zk,(Zb5 K),(by rfl),T.b.n_len,Qt,#[Za,‹0›,#[Ze]]],#[Zh]],#[Zh]]],#[Zj,#[Zr,#[Zay,#[Za,(@Ze5 _ _ _ _ _ _ _ _ _ _ (slL K) ‹0› (@ZgE _) (@ZgP _ _ _ ‹1›)),#[Za,(@Ze5 _ _ _ _ _ _ _ _ _ _ (slL K) ‹0› (@ZgP _ _ _ ‹1›) (@ZgE _)),#[Ze]]]]]]],?_⟩
 refine⟨_,rfl,a,_,rfl,.inl hS,_,_,rfl,rfl,_,_,rfl,rfl,⟨by decide,by decide⟩,?_⟩
 have hm:mid ns≤ns.length∨ns=[]:=by
  cases ns with
  | nil=>exact .inr rfl
  | cons x r=>left;unfold mid;rw[QC];omega
 have hml:mid ns≤ns.length:=by
  rcases hm with h|h
  ·exact h
  ·subst h;decide
 have em:=ZmQ ns
 simp only[em]
 refine⟨_,rfl,_,rfl,_,rfl,a,_,rfl,hS,fun l hl=>?_⟩
 refine⟨_,rfl,_,rfl,_,rfl,a,_,rfl,(Zi hl _).seq hS,fun r hr0=>⟨(by show 2≤sizeLine;decide),fun t ht=>?_⟩⟩
 rw[ZoP ns _ hml]at hr0 ht ⊢
 rw[ZlN ns _ hml]at ht ⊢
 obtain⟨z1,z2,z3,z4,z5,z6,z7,z8⟩:=Zkz (T:=.tup [.ref l,.ref r]) hl hr0 ht
 exact q t l r _ z2 hl z1 z3 Zd z6 z7 z8 z4 z5
def Ziq:Sp:=fun vs H Q _=>∃ (p:Addr) (c:Int),vs=[.ref p]∧ZaQ H p c∧c<2 ^ 50∧∀ (v c':Int) (H':Hp),0≤v→v≤12→ZaQ H' p c'→c≤c'→c'≤c+3→But p H H'→Q (.int v) H'
theorem Znn(T:Zaq K mg cRow cMerge)(f_l_pick:Df P w K mg base 2 "_law_pick" ["_law_left_here", "_law_many_here"] ZdB):Df P w K mg base 3 "_law_many" ["_law_left_here"] Ziq:=by
 refine T.t_l_many.df Zf9 (fun vs H Q E h=>?_) (fun cdv f A outer s H vs Q E hr h=>?_)
 ·obtain⟨p,c,rfl,_⟩:=h
  rfl
 obtain⟨p,c,rfl,hL,c1,q⟩:=h
 refine⟨_,#[Zg,#[Zv,1,Zf9.nd,(Or.inl rfl),#[ZB,f_l_pick,hr,#[Za,‹0›,#[Za,#[Zh],#[Ze]]],(by rfl)]],#[Zj,#[Zr,#[ZF,(ixL K),#[ZaN,#[Za,#[Zh],#[Za,#[Zh],#[Za,#[Zh],#[Za,#[Zh],#[Za,#[Zh],#[Za,#[Zh],#[Za,#[ZB,f_l_pick,hr,#[Za,‹0›,#[Za,#[Zh],#[Ze]]],(by rfl)],#[Za,#[ZI,Zax,#[Zh],#[ZB,f_l_pick,hr,#[Za,‹0›,#[Za,#[Zh],#[Ze]]],(by rfl)]],#[Ze]]]]]]]]]],‹1›]]]],?_⟩
 have c0:=hL.ge
 refine⟨_,rfl,p,c,_,rfl,hL,by omega,by decide,by decide,fun wy H1 w0 w1 L1 B1=>?_⟩
 refine⟨_,rfl,p,c+1,_,rfl,L1,by omega,by decide,by decide,fun d1 H2 d10 d11 L2 B2=>?_⟩
 refine⟨_,rfl,p,c+1+1,_,rfl,L2,by omega,by decide,by decide,fun d2 H3 d20 d21 L3 B3=>⟨_,_,rfl,rfl,(by show 8≤sizeLine;decide),fun e he=>?_⟩⟩
 obtain⟨v,hv,hat⟩:=Zjf (ns:=[2,3,4,5,6,3,d1,7+d2]) w0 w1
 have hv1:0≤v∧v≤12:=by
  simp only[List.mem_cons,List.not_mem_nil,or_false]at hv
  omega
 exact⟨_,rfl,xw4 e _ _ _ ⟨rfl,rfl,SqL.of Zd,hat,q v _ _ hv1.1 hv1.2 (L3.new he) (by omega) (by omega) (((B1.trans B2).trans B3).trans (But.same (Zi he _)))⟩⟩
theorem Zbp(f:Str)(v:V):∀fs:List (Str×V),(Zm f v fs).length≤fs.length+1
 | []=>Qg _
 | p::r=>by
  unfold Zm
  split
  ·exact Qaj _
  ·exact Nat.succ_le_succ (Zbp f v r)
def ZbY(k f:Addr)(g:Int):List (Str×V):=Zm "gone" (.int g) (Zm "fars" (.ref f) (Zm "all_keys" (.ref k) []))
theorem nGF:¬ (("fars" : Str) = "gone"):=by ac_rfl
theorem nGK:¬ (("all_keys" : Str) = "gone"):=by ac_rfl
theorem nFK:¬ (("all_keys" : Str) = "fars"):=by ac_rfl
theorem Zei(k f:Addr)(g:Int):(ZbY k f g).lookup ("all_keys" : Str)=some (.ref k):=by
 unfold ZbY
 rw[Zl,if_neg nGK,Zl,if_neg nFK,Zl,if_pos rfl]
theorem Zcf(k f:Addr)(g:Int):(ZbY k f g).lookup ("gone" : Str)=some (.int g):=by
 unfold ZbY
 rw[Zl,if_pos rfl]
theorem Zi7(k f:Addr)(g:Int){m:Str}(h1:¬ m = "gone")(h2:¬ m = "fars")(h3:¬ m = "all_keys"):(ZbY k f g).lookup m=none:=by
 unfold ZbY
 rw[Zl,if_neg h1,Zl,if_neg h2,Zl,if_neg h3]
 rfl
structure Zjn (C:Addr) (H:Hp) (p k f:Addr) (ss:List Str) (g:Nat):Prop where
 ob:∃dx,H p=some (.ins C dx (ZbY k f g))
 ks:H k=some (.lst (ss.map V.str))
 fs:H f=some (.lst ((List.range ss.length).map fun j=>.int (Zb6 ss j)))
def Zk0(C:Addr):Sp:=fun vs H Q _=>∃ (p k f:Addr) (ss:List Str) (g:Nat),vs=[.ref p]∧Zjn C H p k f ss g∧Q (.int ((ss.length:Int)-(g:Int))) H
theorem Zm9(T:Zaq K mg cRow cMerge):Mf P w K mg base 1 cRow "to_go" ["self"] (Zk0 cRow):=by
 refine T.t_Row_to_go.mf ZgK (fun vs H Q E h=>?_) (fun cdv f A outer s H vs Q E hr h=>?_)
 ·obtain⟨p,k,f,ss,g,rfl,_⟩:=h
  rfl
 obtain⟨p,k,f,ss,g,rfl,R,q⟩:=h
 refine⟨_,#[Zj,#[Zr,#[ZI,Zc4,#[Zk,(Zb5 K),(by rfl),T.b.n_len,Qt,#[Za,#[ZW,‹0›],#[Ze]]],#[ZW,‹0›]]]],?_⟩
 obtain⟨⟨dx,ho⟩,hk,hf⟩:=R
 refine⟨_,rfl,xw5 p cRow dx _ _ ⟨rfl,ho,T.cl_Row,T.na_Row_all_keys,Zei _ _ _,k,_,rfl,.inl (SqL.of hk),_,rfl,xw5 p cRow dx _ _ ⟨rfl,ho,T.cl_Row,T.na_Row_gone,Zcf _ _ _,_,_,rfl,rfl,?_⟩⟩⟩
 rw[Qa]
 exact q
def ZdP(ss:List Str)(g:Nat):V:=match ss[g]? with
 | some z=>.str z
 | none=>.non
def Zek(C:Addr):Sp:=fun vs H Q _=>∃ (p k f:Addr) (ss:List Str) (g:Nat),vs=[.ref p]∧Zjn C H p k f ss g∧Q (ZdP ss g) H
theorem ZmN(T:Zaq K mg cRow cMerge)(f_Row_to_go:Mf P w K mg base 1 cRow "to_go" ["self"] (Zk0 cRow)):Mf P w K mg base 2 cRow "head" ["self"] (Zek cRow):=by
 refine T.t_Row_head.mf ZhQ (fun vs H Q E h=>?_) (fun cdv f A outer s H vs Q E hr h=>?_)
 ·obtain⟨p,k,f,ss,g,rfl,_⟩:=h
  rfl
 obtain⟨p,k,f,ss,g,rfl,R,q⟩:=h
 refine⟨_,#[Zj,#[Zr,#[Zbe,#[Zs,ZdK,#[ZaU,f_Row_to_go,T.cl_Row,hr,‹0›],#[Zh],(Zu _)],#[ZF,(ixL K),#[ZW,‹0›],#[ZW,‹0›]],#[Zaj]]]],?_⟩
 obtain⟨⟨dx,ho⟩,hk,hf⟩:=id R
 refine⟨_,rfl,p,dx,_,rfl,ho,Zi7 _ _ _ (by ac_rfl) (by ac_rfl) (by ac_rfl),p,k,f,ss,g,rfl,R,_,_,rfl,rfl,_,rfl,?_⟩
 refine Zbo (fun d=>?_) (fun d=>?_)
 ·have d':(0:Int)<(ss.length:Int)-(g:Int):=of_decide_eq_true d
  have hg:g<ss.length:=by omega
  refine⟨_,rfl,xw5 p cRow dx _ _ ⟨rfl,ho,T.cl_Row,T.na_Row_all_keys,Zei _ _ _,_,rfl,xw5 p cRow dx _ _ ⟨rfl,ho,T.cl_Row,T.na_Row_gone,Zcf _ _ _,k,_,_,_,rfl,rfl,SqL.of hk,ZaB (by rw[Qs,Qb hg]<;>rfl),?_⟩⟩⟩
  unfold ZdP at q
  rw[Qb hg]at q
  exact q
 ·have d':¬ (0:Int)<(ss.length:Int)-(g:Int):=fun z=>d (decide_eq_true z)
  unfold ZdP at q
  rw[Qab (by omega)]at q
  exact q
def Zgo(C:Addr):Sp:=fun vs H Q _=>∃ (p dx a:Addr) (ss:List Str),vs=[.ref p,.ref a]∧H p=some (.ins C dx [])∧H a=some (.lst (ss.map V.str))∧ss.length≤100∧(∀s∈ss,s.length≤1000) ∧
 ∀ (k f:Addr) (H':Hp),H k=none→H f=none→k≠f→Zjn C H' p k f ss 0→(∀b o,H b=some o→b≠p→H' b=some o)→Q .non H'
theorem Ziw(T:Zaq K mg cRow cMerge)(f_alikes:Df P w K mg base 3 "alikes" ["row"] (Zfu K)):Cf P w K mg base 4 cRow "Row" ["self", "keys"] (Zgo cRow):=by
 refine T.t_Row_init.cf Zhm (fun vs H Q E h=>?_) (fun cdv f A outer s H vs Q E hr h=>?_)
 ·obtain⟨p,dx,a,ss,rfl,_⟩:=h
  rfl
 obtain⟨p,dx,a,ss,rfl,hp,ha,hn,hz,q⟩:=h
 refine⟨_,#[Zg,#[Zbw,‹0›,#[Zb9,(ZnI K),(by rfl),T.b.n_list,boot_list,#[Za,‹1›,#[Ze]]]],#[Zg,#[Zbw,‹0›,#[ZB,f_alikes,hr,#[Za,‹1›,#[Ze]],(by rfl)]],#[Zj,#[Zbw,‹0›,#[Zh]]]]],?_⟩
 refine⟨_,rfl,a,_,rfl,.inl (SqL.of ha),fun k hk=>?_⟩
 have npk:p≠k:=Zb hp hk
 have nap:a≠p:=fun e=>by rw[e,hp]at ha;cases ha
 have nak:a≠k:=Zb ha hk
 refine⟨_,rfl,p,cRow,dx,[],rfl,(by rw[Zc npk];exact hp),T.cl_Row,T.na_Row_all_keys,(by show 0<1000;decide),?_⟩
 have ha2:(upd (upd H k (.lst (ss.map V.str))) p (.ins cRow dx (Zm "all_keys" (.ref k) []))) a=some (.lst (ss.map V.str)):=by rw[Zc nap,Zc nak];exact ha
 have hp2:(upd (upd H k (.lst (ss.map V.str))) p (.ins cRow dx (Zm "all_keys" (.ref k) []))) p=some (.ins cRow dx (Zm "all_keys" (.ref k) [])):=Zd
 have hk2:(upd (upd H k (.lst (ss.map V.str))) p (.ins cRow dx (Zm "all_keys" (.ref k) []))) k=some (.lst (ss.map V.str)):=by rw[Zc npk.symm];exact Zd
 have s2:∀b o,H b=some o→b≠p→(upd (upd H k (.lst (ss.map V.str))) p (.ins cRow dx (Zm "all_keys" (.ref k) []))) b=some o:=fun b o h n=>by rw[Zc n,Zc (Zb h hk)];exact h
 refine⟨_,rfl,a,ss,rfl,SqL.of ha2,hn,hz,fun f H3 hf0 hf3 s3=>?_⟩
 have hHf:H f=none:=by
  cases w':H f with
  | none=>rfl
  | some u =>
   by_cases e:f=p
   ·rw[e,hp2]at hf0;cases hf0
   ·rw[s2 f u w' e]at hf0;cases hf0
 have nkf:k≠f:=Zb hk2 hf0
 have npf:p≠f:=Zb hp2 hf0
 refine⟨_,rfl,xw4 p cRow dx _ ⟨rfl,s3 _ _ hp2,T.cl_Row,T.na_Row_fars,(by show 1<1000;decide),?_⟩⟩
 refine⟨_,rfl,xw4 p cRow dx _ ⟨rfl,Zd,T.cl_Row,T.na_Row_gone,?_,?_⟩⟩
 ·have h1:=Zbp "all_keys" (V.ref k) []
  have h2:=Zbp "fars" (V.ref f) (Zm "all_keys" (V.ref k) [])
  have h3:([]:List (Str×V)).length=0:=rfl
  omega
 ·refine q k f _ hk hHf nkf ⟨⟨dx,Zd⟩,?_,?_⟩ fun b o h n=>?_
  ·rw[Zc npk.symm,Zc npk.symm];exact s3 _ _ hk2
  ·rw[Zc npf.symm,Zc npf.symm];exact hf3
  ·rw[Zc n,Zc n];exact s3 _ _ (s2 b o h n)
theorem Ziy{K:PySem.W.Frag}{a:Addr}{xs:List V}{k:Nat}{D:Addr}{σ:L2.St}{H1:Hp}{g:TG}{tc:TT}{te:TE}{Q:VK}(Pv:Nat→List V→L2.St→Hp→Prop)(h0:Pv 0 [] (σ++List.replicate k none) (upd H1 D (.lst [])))
  (hl:∀i ys σ H,Pv i ys σ H→SqL K H a xs)
  (hs:∀i x ys σ H,xs[i]? = some x→Pv i ys σ H→g x σ H fun σ4 H4=>tc σ4 H4 fun b H5=>if b=true then te σ4 H5 fun y H6=>H6 D=some (.lst ys)∧ys.length<sizeLine∧Pv (i+1) (ys++[y]) σ4 (upd H6 D (.lst (ys++[y]))) else Pv (i+1) ys σ4 H5)
  (hd:∀ys σ H,Pv xs.length ys σ H→Q (.ref D) H):ZdG (Itl K a) D k σ H1 g tc te Q:=by
 refine⟨fun i m ys σ H=>m=xs.length-i∧i≤xs.length∧Pv i ys σ H,⟨xs.length,by simp,Qp _,h0⟩,?_⟩
 rintro i m ys σ H ⟨rfl,hi,p⟩
 have q1:=hl i ys σ H p
 by_cases hlt:i<xs.length
 ·refine .inr ⟨⟨xs,xs[i],q1,Qb hlt⟩,Pv (i+1),fun ys' σ' H' p'=>⟨xs.length-(i+1),by omega,rfl,hlt,p'⟩,fun x H' y=>?_⟩
  obtain⟨rfl,e⟩:=y
  exact hs i x ys σ _ (e xs q1) p
 ·have e:i=xs.length:=by omega
  exact .inl ⟨⟨xs,q1,by omega⟩,hd ys σ H (e ▸ p)⟩
theorem Zc7{K:PySem.W.Frag}{a:Addr}{xs:List V}{k:Nat}{D:Addr}{σ:L2.St}{H1:Hp}{g:TG}{te:TE}{Q:VK}(Pv:Nat→List V→L2.St→Hp→Prop)(h0:Pv 0 [] (σ++List.replicate k none) (upd H1 D (.lst [])))
  (hl:∀i ys σ H,Pv i ys σ H→SqL K H a xs)
  (hs:∀i x ys σ H,xs[i]? = some x→Pv i ys σ H→g x σ H fun σ4 H4=>te σ4 H4 fun y H6=>H6 D=some (.lst ys)∧ys.length<sizeLine∧Pv (i+1) (ys++[y]) σ4 (upd H6 D (.lst (ys++[y]))))
  (hd:∀ys σ H,Pv xs.length ys σ H→Q (.ref D) H):ZdG (Itl K a) D k σ H1 g ZiA te Q:=by
 refine⟨fun i m ys σ H=>m=xs.length-i∧i≤xs.length∧Pv i ys σ H,⟨xs.length,by simp,Qp _,h0⟩,?_⟩
 rintro i m ys σ H ⟨rfl,hi,p⟩
 have q1:=hl i ys σ H p
 by_cases hlt:i<xs.length
 ·refine .inr ⟨⟨xs,xs[i],q1,Qb hlt⟩,Pv (i+1),fun ys' σ' H' p'=>⟨xs.length-(i+1),by omega,rfl,hlt,p'⟩,fun x H' y=>?_⟩
  obtain⟨rfl,e⟩:=y
  simp only[ZiA,↓reduceIte]
  exact hs i x ys σ _ (e xs q1) p
 ·have e:i=xs.length:=by omega
  exact .inl ⟨⟨xs,q1,by omega⟩,hd ys σ H (e ▸ p)⟩
theorem Ze1:∀x y:List Nat,x<y↔ZG x y<0
 | [],[]=>by unfold ZG;exact⟨fun h=>absurd h (by simp),fun h=>absurd h (by omega)⟩
 | [],_::_=>by unfold ZG;exact⟨fun _=>by omega,fun _=>List.nil_lt_cons _ _⟩
 | _::_,[]=>by unfold ZG;exact⟨fun h=>absurd h (List.not_lt_nil _),fun h=>absurd h (by omega)⟩
 | a::r,b::s=>by
  have ih:=Ze1 r s
  unfold ZG
  rw[List.cons_lt_cons_iff]
  by_cases e:a=b
  ·rw[if_pos e,← ih]
   exact⟨fun h=>h.elim (fun z=>by omega) (fun z=>z.2),fun h=>.inr ⟨e,h⟩⟩
  ·rw[if_neg e]
   by_cases l:a<b
   ·rw[if_pos l];exact⟨fun _=>by omega,fun _=>.inl l⟩
   ·rw[if_neg l];exact⟨fun h=>h.elim (fun z=>absurd z l) (fun z=>absurd z.1 e),fun h=>absurd h (by omega)⟩
abbrev Hd:=Int→Option (List Nat)
def Btr(x:List Nat)(a:Int)(y:List Nat)(b:Int):Prop:=ZG x y<0∨(ZG x y=0∧a<b)
def Win(hd:Hd)(N:List Int):Option Int→Prop
 | none=>∀n∈N,hd n=none
 | some a=>a∈N∧∃x,hd a=some x∧∀b∈N,∀y,hd b=some y→b=a∨Btr x a y b
theorem Btr.asym{x y:List Nat}{a b:Int}(h:Btr x a y b)(g:Btr y b x a):False:=by
 have e:=Zbf x y
 rcases h with h|⟨h,h2⟩<;>rcases g with g|⟨g,g2⟩<;>omega
theorem Btr.total{x y:List Nat}{a b:Int}(h:a≠b):Btr x a y b∨Btr y b x a:=by
 have e:=Zbf x y
 unfold Btr
 omega
theorem Btr.trans{x y z:List Nat}{a b c:Int}(h:Btr x a y b)(g:Btr y b z c):Btr x a z c:=by
 have t1:=Zcs x y z
 have t2:=Zcs z x y
 have t3:=Zcs y z x
 have e1:=Zbf x y
 have e2:=Zbf y z
 have e3:=Zbf x z
 unfold Btr at *
 omega
theorem Win.one{hd:Hd}{N:List Int}{v w:Option Int}(h:Win hd N v)(g:Win hd N w):v=w:=by
 cases v with
 | none =>
  cases w with
  | none=>rfl
  | some b=>obtain⟨hb,y,hy,_⟩:=g;rw[h b hb]at hy;cases hy
 | some a =>
  obtain⟨ha,x,hx,h2⟩:=h
  cases w with
  | none=>rw[g a ha]at hx;cases hx
  | some b =>
   obtain⟨hb,y,hy,g2⟩:=g
   rcases h2 b hb y hy with e|e
   ·rw[e]
   ·rcases g2 a ha x hx with e'|e'
    ·rw[e']
    ·exact(e.asym e').elim
theorem Win.nil(hd:Hd):Win hd [] none:=fun n h=>by cases h
theorem Win.sing{hd:Hd}{n:Int}:Win hd [n] (if (hd n).isSome then some n else none):=by
 cases h:hd n with
 | none=>intro m hm;rw[Qk.mp hm];exact h
 | some x=>exact⟨by simp,x,h,fun b hb y hy=>.inl (Qk.mp hb)⟩
theorem Win.both{hd:Hd}{A B:List Int}{a b:Int}{x y:List Nat}(ha:Win hd A (some a))(hb:Win hd B (some b))(hx:hd a=some x)(hy:hd b=some y)(h:Btr x a y b):Win hd (A++B) (some a):=by
 obtain⟨a1,x',hx',a2⟩:=ha
 obtain⟨b1,y',hy',b2⟩:=hb
 rw[hx]at hx';cases hx'
 rw[hy]at hy';cases hy'
 refine⟨Qv _ a1,x,hx,fun c hc z hz=>?_⟩
 rcases Qm.mp hc with hc|hc
 ·exact a2 c hc z hz
 ·rcases b2 c hc z hz with e|e
  ·subst e;rw[hy]at hz;cases hz;exact .inr h
  ·exact .inr (h.trans e)
theorem Win.both'{hd:Hd}{A B:List Int}{a b:Int}{x y:List Nat}(ha:Win hd A (some a))(hb:Win hd B (some b))(hx:hd a=some x)(hy:hd b=some y)(h:Btr y b x a):Win hd (A++B) (some b):=by
 have:=Win.both hb ha hy hx h
 obtain⟨h1,z,h2,h3⟩:=this
 exact⟨by rcases Qm.mp h1 with h|h<;>simp[h],z,h2,fun c hc=>h3 c (by rcases Qm.mp hc with h|h<;>simp[h])⟩
theorem Win.left{hd:Hd}{A B:List Int}{w:Option Int}(ha:Win hd A w)(hb:Win hd B none):Win hd (A++B) w:=by
 cases w with
 | none=>intro n hn;rcases Qm.mp hn with h|h;exact ha n h;exact hb n h
 | some a =>
  obtain⟨a1,x,hx,a2⟩:=ha
  refine⟨Qv _ a1,x,hx,fun c hc z hz=>?_⟩
  rcases Qm.mp hc with hc|hc
  ·exact a2 c hc z hz
  ·rw[hb c hc]at hz;cases hz
theorem Win.right{hd:Hd}{A B:List Int}{w:Option Int}(ha:Win hd A none)(hb:Win hd B w):Win hd (A++B) w:=by
 cases w with
 | none=>intro n hn;rcases Qm.mp hn with h|h;exact ha n h;exact hb n h
 | some a =>
  obtain⟨a1,x,hx,a2⟩:=hb
  refine⟨Qf _ a1,x,hx,fun c hc z hz=>?_⟩
  rcases Qm.mp hc with hc|hc
  ·rw[ha c hc]at hz;cases hz
  ·exact a2 c hc z hz
theorem Win.ex(hd:Hd):∀N:List Int,N.Nodup→∃w,Win hd N w
 | [],_=>⟨none,Win.nil hd⟩
 | n::N,hn=>by
  obtain⟨n1,n2⟩:=Q8.mp hn
  obtain⟨w,hw⟩:=Win.ex hd N n2
  have hs:Win hd [n] (if (hd n).isSome then some n else none):=Win.sing
  cases h:hd n with
  | none =>
   rw[h]at hs
   exact⟨w,Win.right (A:=[n]) hs hw⟩
  | some x =>
   rw[h]at hs
   cases w with
   | none=>exact⟨some n,Win.left (A:=[n]) hs hw⟩
   | some b =>
    obtain⟨b1,y,hy,b2⟩:=id hw
    have hne:n≠b:=fun e=>n1 (e ▸ b1)
    rcases Btr.total (x:=x) (y:=y) hne with e|e
    ·exact⟨some n,Win.both (A:=[n]) hs hw h hy e⟩
    ·exact⟨some b,Win.both' (A:=[n]) hs hw h hy e⟩
theorem Win.sub{hd:Hd}{A B:List Int}{a:Int}(h:Win hd (A++B) (some a))(ha:a∈A):Win hd A (some a):=by
 obtain⟨_,x,hx,h2⟩:=h
 exact⟨ha,x,hx,fun b hb=>h2 b (Qv _ hb)⟩
theorem Win.sub'{hd:Hd}{A B:List Int}{a:Int}(h:Win hd (A++B) (some a))(ha:a∈B):Win hd B (some a):=by
 obtain⟨_,x,hx,h2⟩:=h
 exact⟨ha,x,hx,fun b hb=>h2 b (Qf _ hb)⟩
theorem Win.congr{hd hd':Hd}{N:List Int}(h:∀n∈N,hd' n=hd n){w:Option Int}(hw:Win hd N w):Win hd' N w:=by
 cases w with
 | none=>intro n hn;rw[h n hn];exact hw n hn
 | some a =>
  obtain⟨a1,x,hx,a2⟩:=hw
  exact⟨a1,x,by rw[h a a1];exact hx,fun b hb y hy=>a2 b hb y (by rw[← h b hb];exact hy)⟩
def lo(N:List Int):List Int:=N.take (mid N)
def up(N:List Int):List Int:=N.drop (mid N)
theorem Za7(N:List Int):lo N++up N=N:=QY _ _
theorem ZbH{N:List Int}(h:2≤N.length):(lo N).length<N.length∧1≤(lo N).length:=by
 unfold lo mid
 rw[Qq]
 omega
theorem ZbT{N:List Int}(h:2≤N.length):(up N).length<N.length∧1≤(up N).length:=by
 unfold up mid
 rw[QI]
 omega
def ZK(N:List Int):Int×Int:=(N.headD 0,N.getLastD 0)
abbrev StL:=List ((Int×Int)×Option (Addr×Int×Int))
def stV:Option (Addr×Int×Int)→V
 | none=>.non
 | some t=>.ref t.1
def kvS(s:StL):List (List Key×V):=s.map fun e=>([.inl e.1.1,.inl e.1.2],stV e.2)
def AtS(H:Hp)(s:StL):Prop:=∀e∈s,∀t,e.2=some t→H t.1=some (.tup [.int t.2.1,.int t.2.2])
def ZO(s:StL)(k:Int×Int):Option (Option (Addr×Int×Int)):=(s.find? fun e=>decide (e.1=k)).map (·.2)
def Zb2(s:StL)(k:Int×Int)(v:Option (Addr×Int×Int)):StL:=if s.any (fun e=>decide (e.1=k)) then s.map (fun e=>if e.1=k then (e.1,v) else e) else s++[(k,v)]
theorem AtS.mono{H H':Hp}{s:StL}(h:AtS H s)(k:∀a xs,H a=some (.tup xs)→H' a=some (.tup xs)):AtS H' s:=fun e he t ht=>k _ _ (h e he t ht)
theorem ZiP{a b:Int×Int}(h:([.inl a.1,.inl a.2]:List Key)=[.inl b.1,.inl b.2]):a=b:=by
 obtain⟨a1,a2⟩:=a
 obtain⟨b1,b2⟩:=b
 injection h with h1 h2
 injection h2 with h2 _
 have e1:=Sum.inl.inj h1
 have e2:=Sum.inl.inj h2
 simp only at e1 e2
 rw[e1,e2]
theorem ZhG(k:Int×Int):∀s:StL,ZbX (kvS s) [.inl k.1,.inl k.2]=(ZO s k).map stV
 | []=>rfl
 | e::s=>by
  have ih:=ZhG k s
  by_cases h:e.1=k
  ·unfold kvS ZO
   rw[Qi,ZcS (by rw[h])]
   simp[List.find?_cons,h]
  ·unfold kvS at ih ⊢
   rw[Qi,Zc2 (fun z=>h (ZiP z)),ih]
   unfold ZO
   simp[List.find?_cons,h]
theorem Zno(k:Int×Int)(s:StL):((kvS s).any fun kv=>decide (kv.1=([.inl k.1,.inl k.2]:List Key)))=s.any fun e=>decide (e.1=k):=by
 unfold kvS
 rw[List.any_map]
 congr 1
 funext e
 simp only[Function.comp]
 by_cases h:e.1=k
 ·rw[decide_eq_true h,decide_eq_true (by rw[h])]
 ·rw[decide_eq_false h,decide_eq_false (fun z=>h (ZiP z))]
theorem ZeM(s:StL)(k:Int×Int)(v:Option (Addr×Int×Int)):Zdh (kvS s) [.inl k.1,.inl k.2] (stV v)=kvS (Zb2 s k v):=by
 unfold Zdh Zb2
 rw[Zno]
 split
 ·unfold kvS
  rw[Qy,Qy]
  congr 1
  funext e
  simp only[Function.comp]
  by_cases h:e.1=k
  ·rw[if_pos h,if_pos (by rw[h])]
  ·rw[if_neg h,if_neg (fun z=>h (ZiP z))]
 ·unfold kvS;rw[Qh];rfl
theorem Zlc(s:StL)(k:Int×Int)(v:Option (Addr×Int×Int)):(Zb2 s k v).length≤s.length+1:=by
 unfold Zb2
 split
 ·rw[Qa];omega
 ·rw[Qd];exact Qg _
theorem ZaG(s:StL)(k j:Int×Int)(v:Option (Addr×Int×Int)):ZO (Zb2 s k v) j=if j=k then some v else ZO s j:=by
 unfold Zb2
 split
 ·rename_i h
  induction s with
  | nil=>simp at h
  | cons e s ih =>
   unfold ZO at ih ⊢
   by_cases hek:e.1=k
   ·by_cases hj:j=k
    ·subst hj;simp[List.find?_cons,hek]
    ·have hj':¬ k=j:=fun z=>hj z.symm
     rw[Qi,if_pos hek,Qar (by simp[hek,hj']),Qar (by simp[hek,hj']),if_neg hj]
     by_cases ha:s.any (fun e=>decide (e.1=k))=true
     ·have:=ih ha;rw[if_neg hj]at this;exact this
     ·have:s.map (fun e=>if e.1=k then (e.1,v) else e)=s:=by
       rw[List.map_eq_iff]
       intro i
       cases hi:s[i]? with
       | none=>rfl
       | some x =>
        have hx:¬ x.1=k:=fun z=>ha (List.any_eq_true.mpr ⟨x,Qw hi,by simpa using z⟩)
        simp[hx]
      rw[this]
   ·have ha:s.any (fun e=>decide (e.1=k))=true:=by simpa [hek] using h
    rw[Qi,if_neg hek]
    by_cases hj:e.1=j
    ·have:¬ j=k:=fun z=>hek (hj.trans z)
     rw[List.find?_cons_of_pos (by simpa using hj),List.find?_cons_of_pos (by simpa using hj),if_neg this]
    ·rw[Qar (by simpa using hj),Qar (by simpa using hj)]
     exact ih ha
 ·rename_i h
  unfold ZO
  rw[List.find?_append]
  by_cases hj:j=k
  ·subst hj
   have:s.find? (fun e=>decide (e.1=j))=none:=by
    rw[List.find?_eq_none]
    intro x hx z
    exact h (List.any_eq_true.mpr ⟨x,hx,z⟩)
   rw[this];simp
  ·have hj':¬ k=j:=fun z=>hj z.symm
   rw[if_neg hj]
   simp[hj']
theorem AtS.put{H:Hp}{s:StL}{k:Int×Int}{v:Option (Addr×Int×Int)}(h:AtS H s)(hv:∀t,v=some t→H t.1=some (.tup [.int t.2.1,.int t.2.2])):AtS H (Zb2 s k v):=by
 unfold Zb2
 split
 ·intro e he t ht
  obtain⟨x,hx,rfl⟩:=QJ.mp he
  split at ht
  ·exact hv t ht
  ·exact h x hx t ht
 ·intro e he t ht
  rcases Qm.mp he with he|he
  ·exact h e he t ht
  ·rw[Qk.mp he]at ht;exact hv t ht
theorem Zgx{s:StL}{k:Int×Int}{v:Option (Addr×Int×Int)}(h:ZO s k=some v):(k,v)∈s:=by
 unfold ZO at h
 obtain⟨e,he,rfl⟩:=QaZ.mp h
 have h1:=List.find?_some he
 have:e.1=k:=by simpa using h1
 rw[← this];exact List.mem_of_find?_eq_some he
def ZpT(hd:Hd)(s:StL)(N:List Int):Prop :=
 (∀a b x y,Win hd (lo N) (some a)→Win hd (up N) (some b)→hd a=some x→hd b=some y→∃t,ZO s (ZK N)=some (some (t,if ZG x y<0∨(ZG x y=0∧a<b) then b else a,((lcp x y:Nat):Int)))) ∧
 ((Win hd (lo N) none∨Win hd (up N) none)→ZO s (ZK N)=none∨ZO s (ZK N)=some none)
def Zee(hd:Hd)(s:StL):Nat→List Int→Prop
 | 0,_=>True
 | n+1,N=>2≤N.length→Zee hd s n (lo N)∧Zee hd s n (up N)∧ZpT hd s N
def ZdL:Nat→List Int→Int×Int→Prop
 | 0,_,_=>False
 | n+1,N,k=>2≤N.length∧(ZdL n (lo N) k∨ZdL n (up N) k∨k=ZK N)
abbrev ZV(N:List Int):Prop:=N.Pairwise (·<·)
theorem Zdd{N:List Int}(h:ZV N):ZV (lo N):=h.sublist (Qaz _ _)
theorem Zdf{N:List Int}(h:ZV N):ZV (up N):=h.sublist (QaD _ _)
theorem Z6{N:List Int}(h:ZV N):N.Nodup:=h.imp fun {a b} hab e=>by omega
theorem ZE{N:List Int}(h:ZV N){a b:Int}(ha:a∈lo N)(hb:b∈up N):a<b:=by
 have:ZV (lo N++up N):=by rw[Za7];exact h
 exact(QaF.mp this).2.2 a ha b hb
theorem ZbF{N:List Int}(h:N≠[]):N.headD 0∈N:=by
 cases N with
 | nil=>exact absurd rfl h
 | cons a r=>simp
theorem ZbD{N:List Int}(h:N≠[]):N.getLastD 0∈N:=by
 rw[Qam,QaT h]
 exact List.getLast_mem h
theorem Z8{N:List Int}(h:1≤N.length):N≠[]:=fun z=>by rw[z]at h;simp at h
theorem Zel{N:List Int}(h:2≤N.length):(ZK N).2=(up N).getLastD 0:=by
 have hu:=Z8 (ZbT h).2
 show N.getLastD 0=_
 rw[Qam,Qam]
 conv=>lhs;rw[← Za7 N]
 rw[List.getLast?_append,QaT hu];rfl
theorem Zew{N:List Int}(h:2≤N.length):(ZK N).1=(lo N).headD 0:=by
 have hl:=Z8 (ZbH h).2
 show N.headD 0=_
 conv=>lhs;rw[← Za7 N]
 cases hc:lo N with
 | nil=>exact absurd hc hl
 | cons a r=>rfl
theorem Zdb:∀ (n:Nat) (N:List Int) (k:Int×Int),ZdL n N k→k.1∈N∧k.2∈N
 | 0,_,_,h=>h.elim
 | n+1,N,k,⟨h2,h⟩=>by
  rcases h with h|h|rfl
  ·have:=Zdb n _ k h
   rw[← Za7 N]
   exact⟨Qv _ this.1,Qv _ this.2⟩
  ·have:=Zdb n _ k h
   rw[← Za7 N]
   exact⟨Qf _ this.1,Qf _ this.2⟩
  ·have hn:N≠[]:=Z8 (by omega)
   exact⟨ZbF hn,ZbD hn⟩
theorem ZgG{N:List Int}(hr:ZV N)(h2:2≤N.length){n:Nat}{k:Int×Int}(h:ZdL n (lo N) k):k≠ZK N∧∀m,¬ ZdL m (up N) k:=by
 have:=Zdb n _ k h
 refine⟨fun z=>?_,fun m hm=>?_⟩
 ·have h1:=Zel h2
  rw[z,h1]at this
  have:=ZE hr this.2 (ZbD (Z8 (ZbT h2).2))
  omega
 ·have:=ZE hr this.1 (Zdb m _ k hm).1
  omega
theorem ZgT{N:List Int}(hr:ZV N)(h2:2≤N.length){n:Nat}{k:Int×Int}(h:ZdL n (up N) k):k≠ZK N∧∀m,¬ ZdL m (lo N) k:=by
 have:=Zdb n _ k h
 refine⟨fun z=>?_,fun m hm=>?_⟩
 ·have h1:=Zew h2
  rw[z,h1]at this
  have:=ZE hr (ZbF (Z8 (ZbH h2).2)) this.1
  omega
 ·have:=ZE hr (Zdb m _ k hm).1 this.1
  omega
theorem Zee.congr{hd hd':Hd}{s s':StL}:∀ (n:Nat) (N:List Int),(∀m∈N,hd' m=hd m)→(∀k,ZdL n N k→ZO s' k=ZO s k)→Zee hd s n N→Zee hd' s' n N
 | 0,_,_,_,_=>True.intro
 | n+1,N,hh,hk,h=>fun h2=>by
  obtain⟨a,b,c1,c2⟩:=h h2
  have hl:∀m∈lo N,hd' m=hd m:=fun m hm=>hh m (by rw[← Za7 N];exact Qv _ hm)
  have hu:∀m∈up N,hd' m=hd m:=fun m hm=>hh m (by rw[← Za7 N];exact Qf _ hm)
  have hl':∀m∈lo N,hd m=hd' m:=fun m hm=>(hl m hm).symm
  have hu':∀m∈up N,hd m=hd' m:=fun m hm=>(hu m hm).symm
  refine⟨Zee.congr n _ hl (fun k hkk=>hk k ⟨h2,.inl hkk⟩) a,Zee.congr n _ hu (fun k hkk=>hk k ⟨h2,.inr (.inl hkk)⟩) b,fun a b x y ha hb hx hy=>?_,fun hw=>?_⟩
  ·rw[hk _ ⟨h2,.inr (.inr rfl)⟩]
   exact c1 a b x y (Win.congr hl' ha) (Win.congr hu' hb) (by rw[← hl a ha.1];exact hx) (by rw[← hu b hb.1];exact hy)
  ·rw[hk _ ⟨h2,.inr (.inr rfl)⟩]
   refine c2 ?_
   rcases hw with hw|hw
   ·exact .inl (Win.congr hl' hw)
   ·exact .inr (Win.congr hu' hw)
inductive Zbs (hd:Hd):Nat→List Int→Int→Int→Prop
 | few {n:Nat} {N:List Int}:N.length<2→Zbs hd n N 0 0
 | none {n:Nat} {N:List Int} {k l k' l':Int}:2≤N.length→Zbs hd n (lo N) k l→Zbs hd n (up N) k' l'→(Win hd (lo N) none∨Win hd (up N) none)→Zbs hd (n+1) N (k+k') (l+l')
 | both {n:Nat} {N:List Int} {k l k' l':Int} {a b:Int} {x y:List Nat}:2≤N.length→Zbs hd n (lo N) k l→Zbs hd n (up N) k' l'→Win hd (lo N) (some a)→Win hd (up N) (some b)→hd a=some x→hd b=some y→Zbs hd (n+1) N (k+k'+1) (l+l'+(lcp x y:Nat)+1)
theorem Zbs.one{hd:Hd}:∀ {n m:Nat} {N:List Int} {k l k' l':Int},Zbs hd n N k l→Zbs hd m N k' l'→k=k'∧l=l'
 | _,_,_,_,_,_,_,.few h,p=>by
  cases p with
  | few _=>exact⟨rfl,rfl⟩
  | none h2 _ _ _=>omega
  | both h2 _ _ _ _ _ _=>omega
 | _,_,_,_,_,_,_,.none h2 a b hw,p=>by
  cases p with
  | few h=>omega
  | none _ a' b' _ =>
   obtain⟨e1,e2⟩:=Zbs.one a a'
   obtain⟨e3,e4⟩:=Zbs.one b b'
   exact⟨by omega,by omega⟩
  | both _ a' b' wa wb hx hy =>
   rcases hw with hw|hw
   ·exact nomatch hw.one wa
   ·exact nomatch hw.one wb
 | _,_,_,_,_,_,_,.both h2 a b wa wb hx hy,p=>by
  cases p with
  | few h=>omega
  | none _ a' b' hw =>
   rcases hw with hw|hw
   ·exact nomatch hw.one wa
   ·exact nomatch hw.one wb
  | both _ a' b' wa' wb' hx' hy' =>
   obtain⟨e1,e2⟩:=Zbs.one a a'
   obtain⟨e3,e4⟩:=Zbs.one b b'
   have ea:=Qj (wa.one wa')
   have eb:=Qj (wb.one wb')
   subst ea eb
   rw[hx]at hx';cases hx'
   rw[hy]at hy';cases hy'
   exact⟨by omega,by omega⟩
def kk(e:Str×Int):List Key:=[.inr e.1,.inl e.2]
def oV:Option Str→V
 | none=>.non
 | some s=>.str s
def Zdj:Option Int→V
 | none=>.non
 | some a=>.int a
def kvH(E:List (Int×Option Str)):List (Key×V):=E.map fun e=>(.inl e.1,oV e.2)
def lk(E:List (Int×Option Str))(n:Int):Option Str:=(E.find? fun e=>decide (e.1=n)).bind (·.2)
structure Hds (H:Hp) (D:Addr) (E:List (Int×Option Str)):Prop where
 at':H D=some (.dK (kvH E))
 nd:(E.map (·.1)).Nodup
 ok:∀e∈E,∀s,e.2=some s→s.length≤1000∧AZ s
theorem Zox(N:List Int):Zdl N=lo N:=rfl
theorem Zn1(N:List Int):ZfM N=up N:=rfl
abbrev ZcO:=Int×Addr×List Str×Nat
def kvR(L:List ZcO):List (Key×V):=L.map fun e=>(.inl e.1,.ref e.2.1)
def kvG(L:List ZcO):List (Key×V):=L.map fun e=>(.inl e.1,.int (e.2.2.2:Int))
def Zqf(ra ga:Addr)(nb li lo:Int):List (Key×V):=[(.inr "rows",.ref ra),(.inr "gone",.ref ga),(.inr "number",.int nb),(.inr "likenings",.int li),(.inr "looks",.int lo)]
structure Own (H:Hp) (o ra ga:Addr) (L:List ZcO) (nb li lo:Int):Prop where
 at':H o=some (.dK (Zqf ra ga nb li lo))
 rows:H ra=some (.dK (kvR L))
 gone:H ga=some (.dK (kvG L))
 nd:(L.map (·.1)).Nodup
 few:L.length≤60
 lst:∀e∈L,H e.2.1=some (.lst (e.2.2.1.map V.str))∧e.2.2.1.length≤100∧e.2.2.2≤e.2.2.1.length∧∀s∈e.2.2.1,s.length≤1000∧AZ s
theorem Zoh{ns:List Int}(h:ns.Nodup):(ns.map (Sum.inl:Int→Key)).Nodup:=List.Pairwise.map _ (fun a b hab z=>hab (Sum.inl.inj z)) h
theorem ZcJ.k'{H:Hp}{a:Addr}{kvs:List (Key×V)}{k:Key}{r:Option V}(e:H a=some (.dK kvs))(h:ZbX kvs k=r):ZcJ H a (kV k) r:=by rw[← h];exact ZcJ.k e
structure HdOf (L:List ZcO) (E:List (Int×Option Str)):Prop where
 per:(E.map (·.1)).Perm (L.map (·.1))
 up:(E.map (·.1)).Pairwise (·<·)
 hd:∀e∈L,(e.1,e.2.2.1[e.2.2.2]?)∈E
def hdL(L:List ZcO):Hd:=fun n=>((L.find? fun e=>decide (e.1=n)).bind fun e=>e.2.2.1[e.2.2.2]?).map cds
theorem ZiI:∀ {L:List ZcO},(L.map (·.1)).Nodup→∀ {e:ZcO},e∈L→hdL L e.1=(e.2.2.1[e.2.2.2]?).map cds
 | [],_,_,h=>by cases h
 | x::r,nd,e,h=>by
  rw[Qi,Q8]at nd
  unfold hdL
  rw[Qan]
  rcases QH.mp h with rfl|h
  ·rw[decide_eq_true rfl];rfl
  ·rw[decide_eq_false (fun z:x.1=e.1=>nd.1 (by rw[z];exact Qn (f:=fun x:ZcO=>x.1) h))]
   exact ZiI nd.2 h
theorem Win.perm{hd:Hd}{N M:List Int}{v:Option Int}(h:Win hd N v)(p:N.Perm M):Win hd M v:=by
 cases v with
 | none=>exact fun n hn=>h n (p.mem_iff.mpr hn)
 | some a=>obtain⟨ha,x,hx,hb⟩:=h;exact⟨p.mem_iff.mp ha,x,hx,fun b hbm=>hb b (p.mem_iff.mpr hbm)⟩
def ZoZ(L:List ZcO)(H:Hp)(x:V):Prop:=(x=.non∧Win (hdL L) (L.map (·.1)) none)∨∃ (t:Addr) (e:ZcO) (z:Str),x=.ref t∧e∈L∧e.2.2.1[e.2.2.2]? = some z∧H t=some (.tup [.int e.1,.int (e.2.2.2:Int),.str z])∧Win (hdL L) (L.map (·.1)) (some e.1)
structure Za1 (H:Hp) (r:Addr) (rs:List (Addr×List Str)):Prop where
 at':H r=some (.lst (rs.map fun x=>V.ref x.1))
 few:rs.length≤60
 lst:∀x∈rs,H x.1=some (.lst (x.2.map V.str))∧x.2.length≤100∧∀s∈x.2,s.length≤1000∧AZ s
theorem Za1.same{H H':Hp}{r:Addr}{rs:List (Addr×List Str)}(h:Za1 H r rs)(s:ZH H H'):Za1 H' r rs:=⟨s _ _ h.at',h.few,fun x hx=>let ⟨a,b⟩:=h.lst x hx;⟨s _ _ a,b⟩⟩
theorem ZfG(n:Nat):(ZbM 0 n).Pairwise (·<·):=by
 unfold ZbM
 exact List.Pairwise.map _ (fun a b h=>by omega) (List.pairwise_lt_range)
def Zip:Sp:=fun vs H Q _=>∃ (p l:Addr) (c most:Int) (ss:List Str),vs=[.ref p,.ref l,.int most]∧ZaQ H p c∧c<2 ^ 40∧0≤most∧most≤60∧H l=some (.lst (ss.map V.str))∧1≤ss.length∧ss.length≤4∧(∀s∈ss,s.length≤24∧AZ s) ∧
 ∀ (r:Addr) (ts:List Str) (c':Int) (H':Hp),H r=none→H' r=some (.lst (ts.map V.str))→(ts.length:Int)≤most→sortedS ts=true→(∀s∈ts,s.length≤28∧AZ s)→ZaQ H' p c'→c≤c'→c'≤c+600→But p H H'→Q (.ref r) H'
theorem ZmG(T:Zaq K mg cRow cMerge)(f_l_keys:Df P w K mg base 4 "_law_keys" ["_law_left_here", "_law_stems_here", "_law_most"] ZiN):Df P w K mg base 5 "_law_row" ["_law_left_here", "_law_stems_here", "_law_most"] Zip:=by
 refine T.t_l_row.df Zme (fun vs H Q E h=>?_) (fun cdv f A outer s H vs Q E hr h=>?_)
 ·obtain⟨p,l,c,most,ss,rfl,_⟩:=h
  rfl
 obtain⟨p,l,c,most,ss,rfl,hL,hc,h0,h60,hl,h1,h4,h24,q⟩:=h
 refine⟨_,#[Zj,#[Zr,#[Zk,(Zp1 K),(by rfl),T.b.n_sorted,boot_sorted,#[Za,#[ZB,f_l_keys,hr,#[Za,‹0›,#[Za,‹1›,#[Za,‹2›,#[Ze]]]],(by rfl)],#[Ze]]]]],?_⟩
 refine⟨_,rfl,_,rfl,_,rfl,p,l,c,most,ss,rfl,hL,hc,h0,h60,hl,h1,h4,h24,fun r ts c' H1 hr0 hr1 hts h28 L1 a1 a2 B1=>?_⟩
 refine⟨r,ts,rfl,SqL.of hr1,by omega,fun l2 ts' hl2 hper hsrt=>?_⟩
 obtain⟨ob,hob⟩:=hL.here
 have hl20:H l2=none:=by
  cases e:H l2 with
  | none=>rfl
  | some x =>
   by_cases z:l2=p
   ·obtain⟨o1,ho1⟩:=L1.here;rw[z,ho1]at hl2;cases hl2
   ·have:=B1 l2 x e z;rw[this]at hl2;cases hl2
 exact q l2 ts' c' _ hl20 Zd (by rw[hper.length_eq];exact hts) hsrt (fun s hs=>h28 s (hper.mem_iff.mp hs)) (L1.new hl2) a1 a2 (B1.trans (But.same (Zi hl2 _)))
def Zi6:Sp:=fun vs H Q _=>∃ (p:Addr) (c:Int),vs=[.ref p]∧ZaQ H p c∧c<2 ^ 30 ∧
 ∀ (r:Addr) (rs:List (Addr×List Str)) (c':Int) (H':Hp),H r=none→Za1 H' r rs→(∀x∈rs,H x.1=none∧x.1≠r∧x.1≠p∧sortedS x.2=true∧x.2.length≤60)→rs.length≤12→ZaQ H' p c'→c≤c'→c'≤c+10000→But p H H'→Q (.ref r) H'
theorem ZlJ(T:Zaq K mg cRow cMerge)(f_l_pick:Df P w K mg base 2 "_law_pick" ["_law_left_here", "_law_many_here"] ZdB)(f_l_stems:Df P w K mg base 3 "_law_stems" ["_law_left_here"] Zg4)(f_l_many:Df P w K mg base 3 "_law_many" ["_law_left_here"] Ziq)(f_l_row:Df P w K mg base 5 "_law_row" ["_law_left_here", "_law_stems_here", "_law_most"] Zip):Df P w K mg base 6 "_law_rows" ["_law_left_here"] Zi6:=by
 refine T.t_l_rows.df Zeg (fun vs H Q E h=>?_) (fun cdv f A outer s H vs Q E hr h=>?_)
 ·obtain⟨p,c,rfl,_⟩:=h
  rfl
 obtain⟨p,c,rfl,hL,c1,q⟩:=h
 refine⟨_,#[Zg,#[Zv,1,Zeg.nd,(Or.inr rfl),#[ZB,f_l_stems,hr,#[Za,#[pv,0,(Or.inr (Or.inl rfl))],#[Ze]],(by rfl)]],#[Zg,#[Zv,2,Zeg.nd,(Or.inr rfl),#[ZF,(ixL K),#[ZaN,#[Za,#[Zh],#[Za,#[Zh],#[Za,#[Zh],#[Za,#[Zh],#[Za,#[Zh],#[Za,#[Zh],#[Za,#[Zh],#[Za,#[Zh],#[Ze]]]]]]]]]],#[ZB,f_l_pick,hr,#[Za,#[pv,0,(Or.inr (Or.inl rfl))],#[Za,#[Zh],#[Ze]]],(by rfl)]]],#[Zj,#[Zr,#[Zbl,ZjS,#[Zbh,T.b.n_range,#[Za,#[ZB,f_l_many,hr,#[Za,#[pv,0,(Or.inr (Or.inl rfl))],#[Ze]],(by rfl)],#[Ze]]],(fun _ _ _ _=>#[cg,3,ZjS]),(fun _ _ _ _=>(@Za9 _)),(fun _ _ _ _=>#[ZB,f_l_row,hr,#[Za,#[cv,0,ZjS],#[Za,#[cv,1,ZjS],#[Za,#[cv,2,ZjS],#[Ze]]]],(ZaR ZjS rfl (by ac_rfl))])]]]]],?_⟩
 have c0:=hL.ge
 refine⟨_,rfl,p,c,rfl,hL,by omega,fun l ss c2 H1 hl0 hl1 n1 n4 h24 L1 a1 a2 B1=>?_⟩
 have npl:p≠l:=by obtain⟨o,ho⟩:=hL.here;exact Zb ho hl0
 refine⟨(by show 8≤sizeLine;decide),fun e he=>?_⟩
 have npe:p≠e:=by obtain⟨o,ho⟩:=L1.here;exact Zb ho he
 refine⟨_,rfl,p,c2,_,rfl,L1.new he,by omega,by decide,by decide,fun i H2 i0 i1 L2 B2=>?_⟩
 obtain⟨m,hm,hat⟩:=Zjf (ns:=[5,5,4,6,3,7,5,20]) i0 i1
 have he2:H2 e=some (.lst (([5,5,4,6,3,7,5,20]:List Int).map V.int)):=B2 e _ Zd npe.symm
 have hm1:0≤m∧m≤20:=by
  simp only[List.mem_cons,List.not_mem_nil,or_false]at hm
  omega
 have hl2:H2 l=some (.lst (ss.map V.str)):=B2 l _ (Zi he _ _ _ hl1) npl.symm
 have B02:But p H H2:=(B1.trans (But.same (Zi he _))).trans B2
 refine(xw4 e _ _ _ ⟨rfl,rfl,SqL.of he2,hat,?_⟩)
 refine⟨_,rfl,p,_,rfl,L2,by omega,fun mn c3 H3 m0 m12 L3 a3 a4 B3=>?_⟩
 have hl3:=B3 l _ hl2 npl.symm
 have B03:=B02.trans B3
 refine⟨_,rfl,by omega,by omega,fun D hD=>?_⟩
 have hD0:H D=none:=by
  cases e':H D with
  | none=>rfl
  | some x =>
   by_cases z:D=p
   ·obtain⟨o1,ho1⟩:=L3.here;rw[z,ho1]at hD;cases hD
   ·have:=B03 D x e' z;rw[this]at hD;cases hD
 have npD:p≠D:=by obtain⟨o,ho⟩:=L3.here;exact Zb ho hD
 have nlD:l≠D:=Zb hl3 hD
 refine ZcA (fun i zs σ H4=>(∃v:Option V,σ=[some (.ref p),some (.ref l),some (.int m),v])∧(∃rs:List (Addr×List Str),zs=rs.map (fun x=>V.ref x.1)∧rs.length=i∧∀x∈rs,H4 x.1=some (.lst (x.2.map V.str))∧H x.1=none∧x.1≠D∧x.1≠p∧sortedS x.2=true∧x.2.length≤60∧∀s∈x.2,s.length≤28∧AZ s)∧H4 D=some (.lst zs)∧(∃c4:Int,ZaQ H4 p c4∧c3≤c4∧c4≤c3+600*i)∧But p H3 H4) ?_ ?_ ?_
 ·exact⟨⟨none,rfl⟩,⟨[],rfl,rfl,(fun x h=>by cases h)⟩,Zd,⟨c3,L3.new hD,by omega,by omega⟩,But.same (Zi hD _)⟩
 ·rintro i zs σ H4 hi ⟨⟨v,rfl⟩,⟨rs,rfl,hrl,hrs⟩,hD4,⟨c4,L4,b1,b2⟩,B4⟩
  have hi12:i<12:=by omega
  refine⟨_,rfl,_,rfl,_,rfl,xw5 p l c4 m ss ⟨rfl,L4,by omega,hm1.1,by omega,B4 l _ hl3 npl.symm,n1,n4,h24,fun r ts c5 H5 hr0 hr5 hts hsrt h28 L5 d1 d2 B5=>?_⟩⟩
  have hD5:=B5 D _ hD4 npD.symm
  have nDr:D≠r:=Zb hD4 hr0
  have npr:p≠r:=by obtain⟨o,ho⟩:=L4.here;exact Zb ho hr0
  have hr00:H r=none:=by
   cases e':H r with
   | none=>rfl
   | some x=>have:=B4 r x (B03 r x e' npr.symm) npr.symm;rw[this]at hr0;cases hr0
  refine⟨hD5,(by rw[Qa];exact Z2 (by omega)),⟨_,rfl⟩,⟨rs++[(r,ts)],by rw[Qh];rfl,by rw[Qd,QD];omega,fun x hx=>?_⟩,Zd,⟨c5,L5.at npD,by omega,by omega⟩,fun b x hb nb=>?_⟩
  ·rcases Qm.mp hx with hx|hx
   ·obtain⟨g1,g2,g3,g4,g5⟩:=hrs x hx
    exact⟨by rw[Zc g3];exact B5 _ _ g1 g4,g2,g3,g4,g5⟩
   ·rw[Qk.mp hx]
    exact⟨by rw[Zc nDr.symm];exact hr5,hr00,nDr.symm,npr.symm,hsrt,by show ts.length≤60;omega,h28⟩
  ·rw[Zc (Zb hb hD)];exact B5 b x (B4 b x hb nb) nb
 rintro zs σ H4 ⟨⟨v,rfl⟩,⟨rs,rfl,hrl,hrs⟩,hD4,⟨c4,L4,b1,b2⟩,B4⟩
 refine q D rs c4 H4 hD0 ⟨hD4,by omega,fun x hx=>?_⟩ (fun x hx=>?_) (by omega) L4 (by omega) (by omega) (B03.trans B4)
 ·obtain⟨g1,_,_,_,_,g6,g7⟩:=hrs x hx
  exact⟨g1,by omega,fun s hs=>⟨by have:=(g7 s hs).1;omega,(g7 s hs).2⟩⟩
 ·obtain⟨_,g2,g3,g4,g5,g6,_⟩:=hrs x hx
  exact⟨g2,g3,g4,g5,g6⟩
def Zff(K:PySem.W.Frag):Sp:=fun vs H Q _=>∃ (n:Int) (a:Addr) (ss:List Str),vs=[.int n,.ref a]∧SqL K H a (ss.map V.str)∧ss.length≤200∧(∀s∈ss,s.length≤1000)∧Zhk ss .non∧∀H',ZH H H'→Q .non H'
theorem ZjF(T:Zaq K mg cRow cMerge)(f_first_break:Df P w K mg base 4 "first_break" ["keys"] (Zll K)):Df P w K mg base 5 "refuse_break" ["number", "keys"] (Zff K):=by
 refine T.t_refuse_break.df ZcE (fun vs H Q E h=>?_) (fun cdv f A outer s H vs Q E hr h=>?_)
 ·obtain⟨n,a,ss,rfl,_⟩:=h
  rfl
 obtain⟨n,a,ss,rfl,hS,h200,h1000,hnon,q⟩:=h
 refine⟨_,#[Zg,#[Zv,2,ZcE.nd,(Or.inl rfl),#[ZB,f_first_break,hr,#[Za,‹1›,#[Ze]],(by rfl)]],#[Zj,#[Zaw,#[Zs,ZeR,‹2›,#[Zaj],(Zu _)],#[Zj,(@ZmT _ _)],#[ZQ]]]],?_⟩
 refine⟨_,rfl,a,ss,rfl,hS,h200,h1000,fun v H1 hb s1=>?_⟩
 have e:=Zm6 hb hnon
 subst e
 exact⟨_,rfl,rfl,_,rfl,Zcz (q H1 s1)⟩
structure Zz where
 n:Int
 p:Addr
 k:Addr
 f:Addr
 ss:List Str
 g:Nat
def toL(e:Zz):ZcO:=(e.n,e.p,e.ss,e.g)
def hdM(L:List Zz):Hd:=hdL (L.map toL)
def Zx(L:List Zz):List Int:=L.map (·.n)
theorem Zd7(L:List Zz):(L.map toL).map (·.1)=Zx L:=by rw[Qy];rfl
def kvM(L:List Zz):List (Key×V):=L.map fun e=>(.inl e.n,.ref e.p)
theorem ZdD{L:List Zz}(nd:(Zx L).Nodup){e:Zz}(he:e∈L):hdM L e.n=(e.ss[e.g]?).map cds :=
 ZiI (L:=L.map toL) (by rw[Zd7];exact nd) (Qn (f:=toL) he)
theorem ZlS(L:List Zz):(kvM L).map (·.1)=(Zx L).map (Sum.inl:Int→Key):=by unfold kvM Zx;rw[Qy,Qy];rfl
theorem Zfe{L:List Zz}(nd:(Zx L).Nodup){e:Zz}(he:e∈L):ZbX (kvM L) (.inl e.n)=some (.ref e.p):=ZhR (by rw[ZlS];exact Zoh nd) (Qn (f:=fun e:Zz=>((.inl e.n:Key),V.ref e.p)) he)
theorem Zc0{L:List Zz}{n:Int}(h:n∈Zx L):∃e∈L,e.n=n:=QJ.mp h
def mgF(rd:Addr)(nb li lo:Int)(sd:Addr)(best:V):List (Str×V):=[("rows",.ref rd),("next_number",.int nb),("likened",.int li),("looked",.int lo),("stays",.ref sd),("best",best)]
theorem Zpz:¬ (("rows" : Str) = "next_number"):=by ac_rfl
theorem Zn4:¬ (("rows" : Str) = "likened"):=by ac_rfl
theorem ZoK:¬ (("rows" : Str) = "looked"):=by ac_rfl
theorem Zob:¬ (("rows" : Str) = "stays"):=by ac_rfl
theorem ZoR:¬ (("rows" : Str) = "best"):=by ac_rfl
theorem Zpk:¬ (("next_number" : Str) = "likened"):=by ac_rfl
theorem ZoU:¬ (("next_number" : Str) = "looked"):=by ac_rfl
theorem ZpD:¬ (("next_number" : Str) = "stays"):=by ac_rfl
theorem Zph:¬ (("next_number" : Str) = "best"):=by ac_rfl
theorem Zoz:¬ (("likened" : Str) = "looked"):=by ac_rfl
theorem Zor:¬ (("likened" : Str) = "stays"):=by ac_rfl
theorem ZoA:¬ (("likened" : Str) = "best"):=by ac_rfl
theorem Zn7:¬ (("looked" : Str) = "stays"):=by ac_rfl
theorem Zn3:¬ (("looked" : Str) = "best"):=by ac_rfl
theorem ZoO:¬ (("stays" : Str) = "best"):=by ac_rfl
theorem ZcL(f:Str)(v x:V)(r:List (Str×V)):Zm f v ((f,x)::r)=(f,v)::r:=by unfold Zm;rw[if_pos rfl]
theorem Zq{f g:Str}(h:¬ g=f)(v x:V)(r:List (Str×V)):Zm f v ((g,x)::r)=(g,x)::Zm f v r:=by
 show (if g=f then (g,v)::r else (g,x)::Zm f v r)=_
 rw[if_neg h]
theorem Zbd(f:Str)(v:V):Zm f v []=[(f,v)]:=rfl
theorem Zbk(rd:Addr)(nb li lo:Int)(sd:Addr)(best:V):mgF rd nb li lo sd best=Zm "best" best (Zm "stays" (.ref sd) (Zm "looked" (.int lo) (Zm "likened" (.int li) (Zm "next_number" (.int nb) (Zm "rows" (.ref rd) []))))):=by
 rw[Zbd,Zq Zpz,Zbd,Zq Zn4,Zq Zpk,Zbd,Zq ZoK,Zq ZoU,Zq Zoz,Zbd,Zq Zob,Zq ZpD,Zq Zor,Zq Zn7,Zbd,Zq ZoR,Zq Zph,Zq ZoA,Zq Zn3,Zq ZoO,Zbd]
 rfl
section
variable (rd:Addr) (nb li lo:Int) (sd:Addr) (best:V)
theorem Zbb:(mgF rd nb li lo sd best).lookup ("rows" : Str)=some (.ref rd):=by
 rw[Zbk,Zl,if_neg ZoR,Zl,if_neg Zob,Zl,if_neg ZoK,Zl,if_neg Zn4,Zl,if_neg Zpz,Zl,if_pos rfl]
theorem ZcR:(mgF rd nb li lo sd best).lookup ("likened" : Str)=some (.int li):=by
 rw[Zbk,Zl,if_neg ZoA,Zl,if_neg Zor,Zl,if_neg Zoz,Zl,if_pos rfl]
theorem Zfw:(mgF rd nb li lo sd best).lookup ("looked" : Str)=some (.int lo):=by
 rw[Zbk,Zl,if_neg Zn3,Zl,if_neg Zn7,Zl,if_pos rfl]
theorem Zcd:(mgF rd nb li lo sd best).lookup ("stays" : Str)=some (.ref sd):=by
 rw[Zbk,Zl,if_neg ZoO,Zl,if_pos rfl]
theorem ZcW:(mgF rd nb li lo sd best).lookup ("best" : Str)=some best:=by
 rw[Zbk,Zl,if_pos rfl]
theorem Zbu{m:Str}(h1:¬ m = "rows")(h2:¬ m = "next_number")(h3:¬ m = "likened")(h4:¬ m = "looked")(h5:¬ m = "stays")(h6:¬ m = "best"):(mgF rd nb li lo sd best).lookup m=none:=by
 rw[Zbk,Zl,if_neg h6,Zl,if_neg h5,Zl,if_neg h4,Zl,if_neg h3,Zl,if_neg h2,Zl,if_neg h1]
 rfl
theorem ZcF(v:Int):Zm "likened" (.int v) (mgF rd nb li lo sd best)=mgF rd nb v lo sd best:=by unfold mgF;rw[Zq Zn4,Zq Zpk,ZcL]
theorem Zfk(v:Int):Zm "looked" (.int v) (mgF rd nb li lo sd best)=mgF rd nb li v sd best:=by unfold mgF;rw[Zq ZoK,Zq ZoU,Zq Zoz,ZcL]
theorem ZfJ(x:Addr):Zm "stays" (.ref x) (mgF rd nb li lo sd best)=mgF rd nb li lo x best:=by unfold mgF;rw[Zq Zob,Zq ZpD,Zq Zor,Zq Zn7,ZcL]
theorem Zbz(x:V):Zm "best" x (mgF rd nb li lo sd best)=mgF rd nb li lo sd x:=by unfold mgF;rw[Zq ZoR,Zq Zph,Zq ZoA,Zq Zn3,Zq ZoO,ZcL]
theorem ZbO:(mgF rd nb li lo sd best).length<1000:=by show 6<1000;decide
end
structure Zdp (C:Addr) (H:Hp) (e:Zz):Prop where
 at':Zjn C H e.p e.k e.f e.ss e.g
 le:e.g≤e.ss.length
 len:e.ss.length≤100
 srt:sortedS e.ss=true
 str:∀s∈e.ss,s.length≤1000∧AZ s
structure Z3 (cR cM:Addr) (H:Hp) (m rd sd:Addr) (L:List Zz) (s:StL) (nb li lo:Int) (best:V):Prop where
 ob:∃dx,H m=some (.ins cM dx (mgF rd nb li lo sd best))
 rows:H rd=some (.dK (kvM L))
 stays:H sd=some (.dT (kvS s))
 ats:AtS H s
 each:∀e∈L,Zdp cR H e
 up:ZV (Zx L)
 pd:(L.map (·.p)).Nodup
 few:L.length≤60
 sfew:s.length≤100
def Fp(m rd sd:Addr)(L:List Zz)(b:Addr):Prop:=b=m∨b=rd∨b=sd∨∃e∈L,b=e.p∨b=e.k∨b=e.f
theorem Zdp.keep{C:Addr}{H H':Hp}{e:Zz}(h:Zdp C H e)(hp:H' e.p=H e.p)(hk:H' e.k=H e.k)(hf:H' e.f=H e.f):Zdp C H' e :=
 ⟨⟨by rw[hp];exact h.at'.ob,by rw[hk];exact h.at'.ks,by rw[hf];exact h.at'.fs⟩,h.le,h.len,h.srt,h.str⟩
section
variable {cR cM:Addr} {H H':Hp} {m rd sd:Addr} {L:List Zz} {s:StL} {nb li lo:Int} {best:V}
theorem Z3.nd(h:Z3 cR cM H m rd sd L s nb li lo best):(Zx L).Nodup:=Z6 h.up
theorem Z3.keep(h:Z3 cR cM H m rd sd L s nb li lo best)(k:∀b o,H b=some o→Fp m rd sd L b∨(∃xs,o=.tup xs)→H' b=some o):Z3 cR cM H' m rd sd L s nb li lo best:=by
 refine⟨?_,k _ _ h.rows (.inl (.inr (.inl rfl))),k _ _ h.stays (.inl (.inr (.inr (.inl rfl)))),fun e he t ht=>k _ _ (h.ats e he t ht) (.inr ⟨_,rfl⟩),fun e he=>?_,h.up,h.pd,h.few,h.sfew⟩
 ·obtain⟨dx,hd⟩:=h.ob
  exact⟨dx,k _ _ hd (.inl (.inl rfl))⟩
 ·have r:=h.each e he
  obtain⟨dx,hd⟩:=r.at'.ob
  exact⟨⟨⟨dx,k _ _ hd (.inl (.inr (.inr (.inr ⟨e,he,.inl rfl⟩))))⟩,k _ _ r.at'.ks (.inl (.inr (.inr (.inr ⟨e,he,.inr (.inl rfl)⟩)))),k _ _ r.at'.fs (.inl (.inr (.inr (.inr ⟨e,he,.inr (.inr rfl)⟩))))⟩,r.le,r.len,r.srt,r.str⟩
theorem Z3.same(h:Z3 cR cM H m rd sd L s nb li lo best)(k:ZH H H'):Z3 cR cM H' m rd sd L s nb li lo best:=h.keep fun b o hb _=>k b o hb
theorem Z3.ne_p(h:Z3 cR cM H m rd sd L s nb li lo best){e:Zz}(he:e∈L):m≠e.p∧m≠e.k∧m≠e.f:=by
 obtain⟨dx,hd⟩:=h.ob
 have r:=h.each e he
 obtain⟨dy,hy⟩:=r.at'.ob
 refine⟨fun z=>?_,fun z=>?_,fun z=>?_⟩
 ·rw[z,hy]at hd
  injection hd with hd
  injection hd with _ _ hd
  have a:=Zei e.k e.f (e.g:Int)
  rw[hd,Zbu _ _ _ _ _ _ (by ac_rfl) (by ac_rfl) (by ac_rfl) (by ac_rfl) (by ac_rfl) (by ac_rfl)]at a
  cases a
 ·rw[z,r.at'.ks]at hd;cases hd
 ·rw[z,r.at'.fs]at hd;cases hd
theorem Z3.ne_m(h:Z3 cR cM H m rd sd L s nb li lo best):m≠rd∧m≠sd∧rd≠sd:=by
 obtain⟨dx,hd⟩:=h.ob
 refine⟨fun z=>?_,fun z=>?_,fun z=>?_⟩
 ·rw[z,h.rows]at hd;cases hd
 ·rw[z,h.stays]at hd;cases hd
 ·have:=h.rows;rw[z,h.stays]at this;cases this
theorem Z3.ne_sd(h:Z3 cR cM H m rd sd L s nb li lo best){e:Zz}(he:e∈L):sd≠e.p∧sd≠e.k∧sd≠e.f∧rd≠e.p∧rd≠e.k∧rd≠e.f:=by
 have r:=h.each e he
 obtain⟨dy,hy⟩:=r.at'.ob
 have a:=h.stays
 have b:=h.rows
 refine⟨fun z=>?_,fun z=>?_,fun z=>?_,fun z=>?_,fun z=>?_,fun z=>?_⟩
 ·rw[z,hy]at a;cases a
 ·rw[z,r.at'.ks]at a;cases a
 ·rw[z,r.at'.fs]at a;cases a
 ·rw[z,hy]at b;cases b
 ·rw[z,r.at'.ks]at b;cases b
 ·rw[z,r.at'.fs]at b;cases b
theorem Z3.obj(h:Z3 cR cM H m rd sd L s nb li lo best){nb' li' lo':Int}{best':V}{dx:Addr}:Z3 cR cM (upd H m (.ins cM dx (mgF rd nb' li' lo' sd best'))) m rd sd L s nb' li' lo' best':=by
 obtain⟨n1,n2,n3⟩:=h.ne_m
 obtain⟨dy,hd⟩:=h.ob
 refine⟨⟨dx,Zd⟩,by rw[Zc n1.symm];exact h.rows,by rw[Zc n2.symm];exact h.stays,fun e he t ht=>?_,fun e he=>?_,h.up,h.pd,h.few,h.sfew⟩
 ·have:=h.ats e he t ht
  rw[Zc (fun z=>by rw[z,hd]at this;cases this)];exact this
 ·obtain⟨a,b,c⟩:=h.ne_p he
  exact(h.each e he).keep (Zc a.symm) (Zc b.symm) (Zc c.symm)
theorem Z3.put(h:Z3 cR cM H m rd sd L s nb li lo best){k:Int×Int}{v:Option (Addr×Int×Int)}(hv:∀t,v=some t→H t.1=some (.tup [.int t.2.1,.int t.2.2]))(hs:(Zb2 s k v).length≤100):Z3 cR cM (upd H sd (.dT (kvS (Zb2 s k v)))) m rd sd L (Zb2 s k v) nb li lo best:=by
 obtain⟨n1,n2,n3⟩:=h.ne_m
 obtain⟨dy,hd⟩:=h.ob
 have tup:∀a xs,H a=some (.tup xs)→(upd H sd (.dT (kvS (Zb2 s k v)))) a=some (.tup xs):=fun a xs ha=>by rw[Zc (fun z=>by rw[z,h.stays]at ha;cases ha)];exact ha
 refine⟨⟨dy,by rw[Zc n2];exact hd⟩,by rw[Zc n3];exact h.rows,Zd,(h.ats.put hv).mono tup,fun e he=>?_,h.up,h.pd,h.few,hs⟩
 obtain⟨a,b,c,_⟩:=h.ne_sd he
 exact(h.each e he).keep (Zc a.symm) (Zc b.symm) (Zc c.symm)
end
def ZiF(cR cM:Addr):Sp:=fun vs H Q _=>∃ (m rd sd:Addr) (L:List Zz) (s:StL) (nb li lo:Int) (best:V) (a b:Zz) (x y:Str) (far:Nat),vs=[.ref m,.int a.n,.int b.n,.int (far:Int)]∧Z3 cR cM H m rd sd L s nb li lo best∧a∈L∧b∈L∧a.ss[a.g]? = some x∧b.ss[b.g]? = some y∧far≤lcp (cds x) (cds y) ∧
 ∀ (t:Addr) (wi lz:Int) (H':Hp),(Btr (cds x) a.n (cds y) b.n∧wi=a.n∧lz=b.n∨¬ Btr (cds x) a.n (cds y) b.n∧wi=b.n∧lz=a.n)→H t=none→H' t=some (.tup [.int wi,.int lz,.int ((lcp (cds x) (cds y):Nat):Int)]) →
  Z3 cR cM H' m rd sd L s nb (li+1) (lo+((lcp (cds x) (cds y):Nat)-(far:Int)+1)) best→(∀b o,H b=some o→b≠m→H' b=some o)→Q (.ref t) H'
theorem ZdN{ss:List Str}{g:Nat}{x:Str}(h:ss[g]? = some x):ZdP ss g=.str x:=by unfold ZdP;rw[h]
theorem Za5(k f:Addr)(g:Int):(ZbY k f g).lookup ("head" : Str)=none:=Zi7 _ _ _ (by ac_rfl) (by ac_rfl) (by ac_rfl)
theorem Znd(T:Zaq K mg cRow cMerge)(f_Row_head:Mf P w K mg base 2 cRow "head" ["self"] (Zek cRow))(f_liken_from:Df P w K mg base 2 "liken_from" ["one", "other", "far"] ZcK):Mf P w K mg base 3 cMerge "meet" ["self", "one", "other", "far"] (ZiF cRow cMerge):=by
 refine T.t_Merge_meet.mf Zbm (fun vs H Q E h=>?_) (fun cdv f A outer s H vs Q E hr h=>?_)
 ·obtain⟨m,rd,sd,L,s,nb,li,lo,best,a,b,x,y,far,rfl,_⟩:=h
  rfl
 obtain⟨m,rd,sd,L,s,nb,li,lo,best,a,b,x,y,far,rfl,M,ha,hb,hx,hy,hf,q⟩:=h
 refine⟨_,#[Zg,#[Zbt,#[ZB,f_liken_from,hr,#[Za,#[ZaU,f_Row_head,T.cl_Row,hr,#[ZF,(ixG hr),#[ZW,‹0›],‹1›]],#[Za,#[ZaU,f_Row_head,T.cl_Row,hr,#[ZF,(ixG hr),#[ZW,‹0›],‹2›]],#[Za,‹3›,#[Ze]]]],(by rfl)],#[gT,K,3,#[Zw,#[ZP,4,Zbm.nd,(Or.inl rfl)],#[Zw,#[ZP,5,Zbm.nd,(Or.inl rfl)],#[Zw,#[ZP,6,Zbm.nd,(Or.inl rfl)],(@ZaT _)]]]]],#[Zg,(@Zc8 _ _ _ _ _ _ _ _ _ _ ‹0› #[Zh] Zg9),#[Zg,(@Zc8 _ _ _ _ _ _ _ _ _ _ ‹0› ‹6› Zg9),#[Zg,#[Zaw,(@PW.pt _ _ _ (@ZhX _ _ _ _ _ _ _ #[Zs,Ze2,‹4›,#[Zh],(Zu _)] (@Zgy _ _ _ _ (@PW.pt _ _ _ #[Zem,#[Zs,Zbx,‹4›,#[Zh],(Zu _)],(@ZdQ _ _ _ _ #[Zs,Ze2,‹1›,‹2›,(Zu _)])])))),#[Zj,#[Zr,#[Zay,#[Za,‹1›,#[Za,‹2›,#[Za,‹5›,#[Ze]]]]]]],#[ZQ]],#[Zj,#[Zr,#[Zay,#[Za,‹2›,#[Za,‹1›,#[Za,‹5›,#[Ze]]]]]]]]]]],?_⟩
 obtain⟨dx,hm⟩:=M.ob
 have Ra:=M.each a ha
 have Rb:=M.each b hb
 obtain⟨da,hpa⟩:=Ra.at'.ob
 obtain⟨db,hpb⟩:=Rb.at'.ob
 have lx:=(Ra.str x (Qw hx)).1
 have ly:=(Rb.str y (Qw hy)).1
 refine⟨_,rfl,xw5 m cMerge dx _ _ ⟨rfl,hm,T.cl_Merge,T.na_Merge_rows,Zbb ..,_,rfl,rd,_,rfl,ZcJ.k' (k:=.inl a.n) M.rows (Zfe M.nd ha),a.p,da,_,rfl,hpa,Za5 ..,xw5 a.p a.k a.f a.ss a.g ⟨rfl,Ra.at',?_⟩⟩⟩
 refine⟨_,rfl,xw5 m cMerge dx _ _ ⟨rfl,hm,T.cl_Merge,T.na_Merge_rows,Zbb ..,_,rfl,rd,_,rfl,ZcJ.k' (k:=.inl b.n) M.rows (Zfe M.nd hb),b.p,db,_,rfl,hpb,Za5 ..,xw5 b.p b.k b.f b.ss b.g ⟨rfl,Rb.at',?_⟩⟩⟩
 rw[ZdN hx,ZdN hy]
 refine⟨_,rfl,x,y,far,rfl,lx,ly,hf,fun t ht=>?_⟩
 have s1:=Zi ht (.tup [.int (ZG (cds x) (cds y)),.int (lcp (cds x) (cds y):Nat),.int ((lcp (cds x) (cds y):Nat)-(far:Int)+1)])
 have ht1:(upd H t (.tup [.int (ZG (cds x) (cds y)),.int (lcp (cds x) (cds y):Nat),.int ((lcp (cds x) (cds y):Nat)-(far:Int)+1)])) t=some (.tup [.int (ZG (cds x) (cds y)),.int (lcp (cds x) (cds y):Nat),.int ((lcp (cds x) (cds y):Nat)-(far:Int)+1)]):=Zd
 generalize upd H t (.tup [.int (ZG (cds x) (cds y)),.int (lcp (cds x) (cds y):Nat),.int ((lcp (cds x) (cds y):Nat)-(far:Int)+1)])=H1 at s1 ht1 ⊢
 have M1:=M.same s1
 refine⟨t,_,rfl,SqT.of ht1,rfl,_,_,rfl,_,_,rfl,_,_,rfl,rfl,?_⟩
 have hm1:=s1 _ _ hm
 refine⟨_,rfl,xw5 m cMerge dx _ _ ⟨rfl,hm1,T.cl_Merge,T.na_Merge_likened,ZcR ..,_,_,rfl,rfl,dx,_,hm1,ZbO ..,?_⟩⟩
 rw[ZcF]
 have M2:=M1.obj (nb':=nb) (li':=li+1) (lo':=lo) (best':=best) (dx:=dx)
 have k2:∀b o,H b=some o→b≠m→(upd H1 m (.ins cMerge dx (mgF rd nb (li+1) lo sd best))) b=some o:=fun b o hb n=>by rw[Zc n];exact s1 b o hb
 have hm2:(upd H1 m (.ins cMerge dx (mgF rd nb (li+1) lo sd best))) m=some (.ins cMerge dx (mgF rd nb (li+1) lo sd best)):=Zd
 generalize upd H1 m (.ins cMerge dx (mgF rd nb (li+1) lo sd best))=H2 at M2 k2 hm2 ⊢
 refine⟨_,rfl,xw5 m cMerge dx _ _ ⟨rfl,hm2,T.cl_Merge,T.na_Merge_looked,Zfw ..,_,rfl,_,_,rfl,rfl,dx,_,hm2,ZbO ..,?_⟩⟩
 rw[Zfk]
 have M3:=M2.obj (nb':=nb) (li':=li+1) (lo':=lo+((lcp (cds x) (cds y):Nat)-(far:Int)+1)) (best':=best) (dx:=dx)
 have k3:∀b o,H b=some o→b≠m→(upd H2 m (.ins cMerge dx (mgF rd nb (li+1) (lo+((lcp (cds x) (cds y):Nat)-(far:Int)+1)) sd best))) b=some o:=fun b o hb n=>by rw[Zc n];exact k2 b o hb n
 generalize upd H2 m (.ins cMerge dx (mgF rd nb (li+1) (lo+((lcp (cds x) (cds y):Nat)-(far:Int)+1)) sd best))=H3 at M3 k3 ⊢
 have fin:∀wi lz:Int,(Btr (cds x) a.n (cds y) b.n∧wi=a.n∧lz=b.n∨¬ Btr (cds x) a.n (cds y) b.n∧wi=b.n∧lz=a.n)→∀t2,H3 t2=none→Q (.ref t2) (upd H3 t2 (.tup [.int wi,.int lz,.int ((lcp (cds x) (cds y):Nat):Int)])):=fun wi lz hw t2 ht2=>by
  have hfree:H t2=none:=by
   cases e:H t2 with
   | none=>rfl
   | some o =>
    by_cases z:t2=m
    ·obtain⟨dz,hz⟩:=M3.ob;rw[z,hz]at ht2;cases ht2
    ·rw[k3 t2 o e z]at ht2;cases ht2
  exact q t2 wi lz _ hw hfree Zd (M3.same (Zi ht2 _)) (fun b o hb n=>Zi ht2 _ _ _ (k3 b o hb n))
 have sz3:3≤sizeLine:=by decide
 refine⟨_,rfl,_,_,rfl,rfl,_,rfl,Zbo (fun d=>?_) (fun d=>?_)⟩
 ·have d':ZG (cds x) (cds y)<0:=of_decide_eq_true d
  exact ZfN ⟨_,rfl,_,rfl,_,rfl,sz3,fun t2 ht2=>fin _ _ (.inl ⟨.inl d',rfl,rfl⟩) t2 ht2⟩
 have d1:¬ ZG (cds x) (cds y)<0:=fun z=>d (decide_eq_true z)
 refine⟨_,rfl,rfl,_,rfl,Zbo (fun e=>?_) (fun e=>?_)⟩
 ·have e':ZG (cds x) (cds y)=0:=by have:=of_decide_eq_true e;injection this
  refine⟨_,rfl,_,rfl,_,_,rfl,rfl,_,rfl,Zbo (fun g=>?_) (fun g=>?_)⟩
  ·have g':a.n<b.n:=of_decide_eq_true g
   exact⟨_,rfl,_,rfl,_,rfl,sz3,fun t2 ht2=>fin _ _ (.inl ⟨.inr ⟨e',g'⟩,rfl,rfl⟩) t2 ht2⟩
  ·have g':¬ a.n<b.n:=fun z=>g (decide_eq_true z)
   exact⟨_,rfl,_,rfl,_,rfl,sz3,fun t2 ht2=>fin _ _ (.inr ⟨fun z=>by rcases z with z|z;exact d1 z;exact g' z.2,rfl,rfl⟩) t2 ht2⟩
 ·have e':ZG (cds x) (cds y)≠0:=fun z=>e (decide_eq_true (by rw[z]))
  exact Zcz ⟨_,rfl,_,rfl,_,rfl,sz3,fun t2 ht2=>fin _ _ (.inr ⟨fun z=>by rcases z with z|z;exact d1 z;exact e' z.1,rfl,rfl⟩) t2 ht2⟩
theorem Z3.cast{cR cM:Addr}{H:Hp}{m rd sd:Addr}{L:List Zz}{s:StL}{nb li lo li' lo':Int}{best:V}(h:Z3 cR cM H m rd sd L s nb li lo best)(e1:li=li')(e2:lo=lo'):Z3 cR cM H m rd sd L s nb li' lo' best:=by subst e1;subst e2;exact h
theorem Zhg{N:List Int}(h:N≠[]):atI (N.map V.int) (-1)=some (.int (N.getLastD 0)):=by
 have e:N=N.dropLast++[N.getLast h]:=(Qax h).symm
 have:=Zl9 (N.dropLast.map V.int) (V.int (N.getLast h))
 rw[Qam,QaT h]
 conv=>lhs;rw[e,Qh]
 exact this
theorem Zhz{N:List Int}(h:N≠[]):atI (N.map V.int) 0=some (.int (N.headD 0)):=by
 cases N with
 | nil=>exact absurd rfl h
 | cons a r=>exact ZaB (j:=0) rfl
theorem ZdF(rd:Addr)(nb li lo:Int)(sd:Addr)(best:V):(mgF rd nb li lo sd best).lookup ("play" : Str)=none:=Zbu _ _ _ _ _ _ (by ac_rfl) (by ac_rfl) (by ac_rfl) (by ac_rfl) (by ac_rfl) (by ac_rfl)
theorem ZeT(rd:Addr)(nb li lo:Int)(sd:Addr)(best:V):(mgF rd nb li lo sd best).lookup ("meet" : Str)=none:=Zbu _ _ _ _ _ _ (by ac_rfl) (by ac_rfl) (by ac_rfl) (by ac_rfl) (by ac_rfl) (by ac_rfl)
def Zk9(K:PySem.W.Frag)(cR cM:Addr)(n:Nat):Sp:=fun vs H Q _=>∃ (m rd sd:Addr) (L:List Zz) (s:StL) (nb li lo:Int) (best:V) (l:Addr) (N:List Int),vs=[.ref m,.ref l]∧Z3 cR cM H m rd sd L s nb li lo best∧H l=some (.lst (N.map V.int))∧1≤N.length∧N.length≤60∧0<n∧N.length≤2 ^ (n-1)∧(∀x∈N,x∈Zx L)∧ZV N∧(∀k,ZdL n N k→ZO s k=none)∧s.length+N.length≤100 ∧
 ∀ (w:Option Int) (s':StL) (k q:Int) (H':Hp),Win (hdM L) N w→Zee (hdM L) s' n N→Zbs (hdM L) n N k q→(∀j,¬ ZdL n N j→ZO s' j=ZO s j)→s'.length+1≤s.length+N.length→Z3 cR cM H' m rd sd L s' nb (li+k) (lo+q) best→(∀b o,H b=some o→b≠m→b≠sd→H' b=some o)→Q (Zdj w) H'
theorem ZiQ(T:Zaq K mg cRow cMerge)(f_Row_head:Mf P w K mg base 2 cRow "head" ["self"] (Zek cRow))(f_halves:Df P w K mg base 1 "halves" ["numbers"] (ZdJ K true))(f_Merge_meet:Mf P w K mg base 3 cMerge "meet" ["self", "one", "other", "far"] (ZiF cRow cMerge)) :
  ∀n:Nat,Mf P w K mg base (n+4) cMerge "play" ["self", "numbers"] (Zk9 K cRow cMerge n)
 | 0=>by
  refine T.t_Merge_play.mf Z9 (fun vs H Q E h=>?_) (fun cdv f A outer s H vs Q E hr h=>?_)
  ·obtain⟨m,rd,sd,L,s,nb,li,lo,best,l,N,rfl,_⟩:=h
   rfl
  obtain⟨m,rd,sd,L,s,nb,li,lo,best,l,N,rfl,_,_,_,_,z,_⟩:=h
  exact absurd z (by omega)
 | n+1=>by
  have f_Merge_play:=ZiQ T f_Row_head f_halves f_Merge_meet n
  refine T.t_Merge_play.mf Z9 (fun vs H Q E h=>?_) (fun cdv f A outer s H vs Q E hr h=>?_)
  ·obtain⟨m,rd,sd,L,s,nb,li,lo,best,l,N,rfl,_⟩:=h
   rfl
  obtain⟨m,rd,sd,L,s,nb,li,lo',best,l,N,rfl,M,hl,h1,h60,_,hp2,hmem,hup,hfree,hsz,q⟩:=h
  rw[Qas]at hp2
  refine⟨_,#[Zg,#[Zaw,#[Zs,Zbx,#[Zk,(Zb5 K),(by rfl),T.b.n_len,Qt,#[Za,‹1›,#[Ze]]],#[Zh],(Zu _)],#[Zj,#[Zr,#[Zbe,#[Zs,Zcq,#[ZaU,f_Row_head,T.cl_Row,hr,#[ZF,(ixG hr),#[ZW,‹0›],#[ZF,(ixL K),‹1›,#[Zh]]]],#[Zaj],(Zu _)],#[Zaj],#[ZF,(ixL K),‹1›,#[Zh]]]]],#[ZQ]],#[Zg,#[Zbt,#[ZB,f_halves,hr,#[Za,‹1›,#[Ze]],(by rfl)],#[gT,K,2,#[Zw,#[ZP,2,Z9.nd,(Or.inl rfl)],#[Zw,#[ZP,3,Z9.nd,(Or.inl rfl)],(@ZaT _)]]]],#[Zg,#[Zv,4,Z9.nd,(Or.inl rfl),#[ZeA,f_Merge_play,T.cl_Merge,hr,‹0›,#[Za,‹2›,#[Ze]]]],#[Zg,#[Zv,5,Z9.nd,(Or.inl rfl),#[ZeA,f_Merge_play,T.cl_Merge,hr,‹0›,#[Za,‹3›,#[Ze]]]],#[Zg,#[Zaw,#[Zs,Zcq,‹4›,#[Zaj],(Zu _)],#[Zj,#[Zr,‹5›]],#[ZQ]],#[Zg,#[Zaw,#[Zs,Zcq,‹5›,#[Zaj],(Zu _)],#[Zj,#[Zr,‹4›]],#[ZQ]],#[Zg,#[Zbt,#[ZeA,f_Merge_meet,T.cl_Merge,hr,‹0›,#[Za,‹4›,#[Za,‹5›,#[Za,#[Zh],#[Ze]]]]],#[gT,K,3,#[Zw,#[ZP,6,Z9.nd,(Or.inl rfl)],#[Zw,#[ZP,7,Z9.nd,(Or.inl rfl)],#[Zw,#[ZP,8,Z9.nd,(Or.inl rfl)],(@ZaT _)]]]]],#[Zg,#[Zbt,#[Zay,#[Za,‹7›,#[Za,‹8›,#[Ze]]]],#[ZdA,#[ZW,‹0›],#[Zay,#[Za,#[ZF,(ixL K),‹1›,#[Zh]],#[Za,#[ZF,(ixL K),‹1›,(@Zjx _ _ _ _ _ _ Zg2 #[Zh])],#[Ze]]]],(Zk6 hr)]],#[Zj,#[Zr,‹6›]]]]]]]]]],?_⟩
  obtain⟨dx,hm⟩:=M.ob
  have hN:N≠[]:=Z8 h1
  have nml:l≠m:=fun z=>by rw[z,hm]at hl;cases hl
  have nsl:l≠sd:=fun z=>by rw[z,M.stays]at hl;cases hl
  have hll:(((N.map V.int).length:Nat):Int)=(N.length:Int):=by rw[Qa]
  refine⟨_,rfl,l,_,rfl,.inl (SqL.of hl),rfl,_,rfl,Zbo (fun d=>?_) (fun d=>?_)⟩
  ·have hone:N.length=1:=by have:=of_decide_eq_true d;injection this with this;rw[hll]at this;omega
   obtain⟨n0,rfl⟩:∃n0,N=[n0]:=Qat.mp hone
   obtain⟨e,he,rfl⟩:=Zc0 (hmem n0 (by simp))
   have R:=M.each e he
   obtain⟨dp,hp⟩:=R.at'.ob
   have hat:atI (([e.n]:List Int).map V.int) 0=some (.int e.n):=ZaB (j:=0) rfl
   refine⟨_,rfl,xw5 m cMerge dx _ _ ⟨rfl,hm,T.cl_Merge,T.na_Merge_rows,Zbb ..,_,rfl,xw4 l _ _ _ ⟨rfl,rfl,SqL.of hl,hat,rd,_,rfl,ZcJ.k' (k:=.inl e.n) M.rows (Zfe M.nd he),e.p,dp,_,rfl,hp,Za5 ..,xw5 e.p e.k e.f e.ss e.g ⟨rfl,R.at',rfl,_,rfl,?_⟩⟩⟩⟩
   have hst:Zee (hdM L) s (n+1) [e.n]:=fun h2=>by simp at h2
   have hpl:Zbs (hdM L) (n+1) [e.n] 0 0:=.few (by show 1<2;decide)
   have hwin:=Win.sing (hd:=hdM L) (n:=e.n)
   have hd:=ZdD M.nd he
   have M':=M.cast (li':=li+0) (lo':=lo'+0) (by omega) (by omega)
   cases hx:e.ss[e.g]? with
   | none =>
    rw[show ZdP e.ss e.g=.non by unfold ZdP;rw[hx]]
    rw[hd,hx]at hwin
    exact ZdI rfl (q none s 0 0 H hwin hst hpl (fun _ _=>rfl) (Qg _) M' (fun b o h _ _=>h))
   | some x =>
    rw[ZdN hx]
    rw[hd,hx]at hwin
    exact Zcn (fun z=>nomatch z) ⟨_,rfl,xw4 l _ _ _ ⟨rfl,rfl,SqL.of hl,hat,q (some e.n) s 0 0 H hwin hst hpl (fun _ _=>rfl) (Qg _) M' (fun b o h _ _=>h)⟩⟩
  have hge:2≤N.length:=by
   have:¬ ((N.length:Int)=1):=fun z=>d (decide_eq_true (by rw[hll,z]))
   omega
  have hn1:1≤n:=by
   cases n with
   | zero=>simp at hp2;omega
   | succ m=>omega
  have hpow:2 ^ n=2*2 ^ (n-1):=by
   obtain⟨m,rfl⟩:∃m,n=m+1:=⟨n-1,by omega⟩
   rw[Nat.pow_succ,Qas];omega
  have hlo:(lo N).length≤2 ^ (n-1)∧(lo N).length≤60:=by unfold lo mid;rw[Qq];omega
  have hupl:(up N).length≤2 ^ (n-1)∧(up N).length≤60:=by unfold up mid;rw[QI];omega
  have hsum:(lo N).length+(up N).length=N.length:=by rw[← Qd,Za7]
  have hmlo:∀x∈lo N,x∈Zx L:=fun x hx=>hmem x (Q0 hx)
  have hmup:∀x∈up N,x∈Zx L:=fun x hx=>hmem x (QZ hx)
  refine⟨_,rfl,l,N,rfl,SqL.of hl,by omega,fun t f r H2 ht hf hr' nfr ht2 hf2 hr2 s2 ntf ntr=>?_⟩
  rw[if_pos rfl]at ht2
  rw[Zox]at hf2
  rw[Zn1]at hr2
  refine⟨t,_,rfl,SqT.of ht2,rfl,_,_,rfl,_,_,rfl,rfl,?_⟩
  have M2:=M.same s2
  have hm2:=s2 _ _ hm
  have nfm:r≠m:=(Zb hm hr').symm
  have nfs:r≠sd:=(Zb M.stays hr').symm
  refine⟨_,rfl,m,dx,_,rfl,hm2,ZdF ..,_,rfl,m,rd,sd,L,s,nb,li,lo',best,f,lo N,rfl,M2,hf2,(ZbH hge).2,hlo.2,hn1,hlo.1,hmlo,Zdd hup,fun k hk=>hfree k ⟨hge,.inl hk⟩,by omega,fun w1 s1 k1 q1 H3 W1 S1 P1 o1 l1 M3 b3=>?_⟩
  have hr3:=b3 _ _ hr2 nfm nfs
  obtain⟨dx3,hm3⟩:=M3.ob
  refine⟨_,rfl,m,dx3,_,rfl,hm3,ZdF ..,_,rfl,m,rd,sd,L,s1,nb,_,_,best,r,up N,rfl,M3,hr3,(ZbT hge).2,hupl.2,hn1,hupl.1,hmup,Zdf hup,fun k hk=>?_,by omega,fun w2 s2' k2 q2 H4 W2 S2 P2 o2 l2 M4 b4=>?_⟩
  ·rw[o1 k ((ZgT hup hge hk).2 n)]
   exact hfree k ⟨hge,.inr (.inl hk)⟩
  have key_n:¬ ZdL n (lo N) (ZK N)∧¬ ZdL n (up N) (ZK N):=⟨fun z=>(ZgG hup hge z).1 rfl,fun z=>(ZgT hup hge z).1 rfl⟩
  have S1':Zee (hdM L) s2' n (lo N):=S1.congr n _ (fun _ _=>rfl) (fun k hk=>o2 k ((ZgG hup hge hk).2 n))
  have hk2:ZO s2' (ZK N)=none:=by rw[o2 _ key_n.2,o1 _ key_n.1];exact hfree _ ⟨hge,.inr (.inr rfl)⟩
  have oth:∀j,¬ ZdL (n+1) N j→ZO s2' j=ZO s j:=fun j hj=>by
   rw[o2 j (fun z=>hj ⟨hge,.inr (.inl z)⟩),o1 j (fun z=>hj ⟨hge,.inl z⟩)]
  have b04:∀b o,H b=some o→b≠m→b≠sd→H4 b=some o:=fun b o hb n1 n2=>b4 b o (b3 b o (s2 b o hb) n1 n2) n1 n2
  have none':∀wn,Win (hdM L) N wn→(Win (hdM L) (lo N) none∨Win (hdM L) (up N) none)→Q (Zdj wn) H4:=fun wn hw hno=>by
   refine q wn s2' (k1+k2) (q1+q2) H4 hw (fun _=>⟨S1',S2,fun a b x y wa wb _ _=>?_,fun _=>.inl hk2⟩) (.none hge P1 P2 hno) oth (by omega) (M4.cast (by omega) (by omega)) b04
   rcases hno with z|z
   ·exact nomatch z.one wa
   ·exact nomatch z.one wb
  cases w1 with
  | none=>exact⟨_,rfl,rfl,_,rfl,ZdI rfl ⟨_,rfl,none' w2 (by have:=Win.right W1 W2;rwa [Za7]at this) (.inl W1)⟩⟩
  | some a =>
  refine⟨_,rfl,rfl,_,rfl,Zcn (fun z=>nomatch z) ?_⟩
  cases w2 with
  | none=>exact⟨_,rfl,rfl,_,rfl,ZdI rfl ⟨_,rfl,none' (some a) (by have:=Win.left W1 W2;rwa [Za7]at this) (.inr W2)⟩⟩
  | some b =>
  refine⟨_,rfl,rfl,_,rfl,Zcn (fun z=>nomatch z) ?_⟩
  obtain⟨ea,hea,ea'⟩:=Zc0 (hmlo a W1.1)
  obtain⟨eb,heb,eb'⟩:=Zc0 (hmup b W2.1)
  subst ea'
  subst eb'
  have hda:=ZdD M.nd hea
  have hdb:=ZdD M.nd heb
  cases hx:ea.ss[ea.g]? with
  | none=>obtain⟨_,z,hz,_⟩:=W1;rw[hda,hx]at hz;cases hz
  | some x =>
  cases hy:eb.ss[eb.g]? with
  | none=>obtain⟨_,z,hz,_⟩:=W2;rw[hdb,hy]at hz;cases hz
  | some y =>
  rw[hx]at hda
  rw[hy]at hdb
  obtain⟨dx4,hm4⟩:=M4.ob
  refine⟨_,rfl,m,dx4,_,rfl,hm4,ZeT ..,_,rfl,_,rfl,m,rd,sd,L,s2',nb,_,_,best,ea,eb,x,y,0,rfl,M4,hea,heb,hx,hy,Qp _,fun t5 wi lz H5 hw ht5 ht5' M5 b5=>?_⟩
  refine⟨t5,_,rfl,SqT.of ht5',rfl,_,_,rfl,_,_,rfl,_,_,rfl,rfl,?_⟩
  have sz2:2≤sizeLine:=by decide
  refine⟨_,rfl,_,rfl,sz2,fun t6 ht6=>?_⟩
  have s6:=Zi ht6 (.tup [.int lz,.int ((lcp (cds x) (cds y):Nat):Int)])
  have ht66:(upd H5 t6 (.tup [.int lz,.int ((lcp (cds x) (cds y):Nat):Int)])) t6=some (.tup [.int lz,.int ((lcp (cds x) (cds y):Nat):Int)]):=Zd
  have M6:=M5.same s6
  generalize upd H5 t6 (.tup [.int lz,.int ((lcp (cds x) (cds y):Nat):Int)])=H6 at s6 ht66 M6 ⊢
  obtain⟨dx6,hm6⟩:=M6.ob
  have hl6:H6 l=some (.lst (N.map V.int)):=s6 _ _ (b5 _ _ (b04 _ _ hl nml nsl) nml)
  refine⟨_,rfl,xw5 m cMerge dx6 _ _ ⟨rfl,hm6,T.cl_Merge,T.na_Merge_stays,Zcd ..,_,rfl,xw4 l _ _ _ ⟨rfl,rfl,SqL.of hl6,Zhz hN,_,rfl,_,rfl,xw4 l _ _ _ ⟨rfl,rfl,SqL.of hl6,Zhg hN,sz2,fun t7 ht7=>?_⟩⟩⟩⟩
  have s7:=Zi ht7 (.tup [.int (N.headD 0),.int (N.getLastD 0)])
  have ht77:(upd H6 t7 (.tup [.int (N.headD 0),.int (N.getLastD 0)])) t7=some (.tup ([.inl (ZK N).1,.inl (ZK N).2].map kV)):=Zd
  have M7:=M6.same s7
  generalize upd H6 t7 (.tup [.int (N.headD 0),.int (N.getLastD 0)])=H7 at s7 ht77 M7 ⊢
  have hsl:(kvS s2').length<sizeLine:=by unfold kvS;rw[Qa];exact Z2 (by omega)
  refine⟨sd,_,rfl,ZeX.t (k:=[.inl (ZK N).1,.inl (ZK N).2]) M7.stays ht77 hsl,?_⟩
  rw[show V.ref t6=stV (some (t6,lz,((lcp (cds x) (cds y):Nat):Int))) from rfl,ZeM]
  have hpl:=Zlc s2' (ZK N) (some (t6,lz,((lcp (cds x) (cds y):Nat):Int)))
  have l1':=(ZbH hge).2
  have M8:=M7.put (k:=ZK N) (v:=some (t6,lz,((lcp (cds x) (cds y):Nat):Int))) (fun t ht=>by injection ht with ht;rw[← ht];exact s7 _ _ ht66) (by omega)
  have hne:ea.n≠eb.n:=fun z=>by have:=ZE hup W1.1 W2.1;omega
  have b08:∀b o,H b=some o→b≠m→b≠sd→(upd H7 sd (.dT (kvS (Zb2 s2' (ZK N) (some (t6,lz,((lcp (cds x) (cds y):Nat):Int))))))) b=some o:=fun b o hb n1 n2=>by
   rw[Zc n2];exact s7 _ _ (s6 _ _ (b5 _ _ (b04 _ _ hb n1 n2) n1))
  have hwin:Win (hdM L) N (some wi):=by
   rcases hw with⟨w0,rfl,_⟩|⟨w0,rfl,_⟩
   ·have:=Win.both W1 W2 hda hdb w0;rwa [Za7]at this
   ·have:=Win.both' W1 W2 hda hdb ((Btr.total hne).resolve_left w0);rwa [Za7]at this
  have hlz:lz=if ZG (cds x) (cds y)<0∨(ZG (cds x) (cds y)=0∧ea.n<eb.n) then eb.n else ea.n:=by
   rcases hw with⟨w0,_,rfl⟩|⟨w0,_,rfl⟩
   ·exact(if_pos (show ZG (cds x) (cds y)<0∨(ZG (cds x) (cds y)=0∧ea.n<eb.n) from w0)).symm
   ·exact(if_neg (show ¬ (ZG (cds x) (cds y)<0∨(ZG (cds x) (cds y)=0∧ea.n<eb.n)) from w0)).symm
  refine⟨_,rfl,q (some wi) _ (k1+k2+1) (q1+q2+(lcp (cds x) (cds y):Nat)+1) _ hwin (fun _=>⟨?_,?_,?_,fun hno=>?_⟩) (.both hge P1 P2 W1 W2 hda hdb) (fun j hj=>?_) (by omega) (M8.cast (by omega) (by omega)) b08⟩
  ·exact S1'.congr n _ (fun _ _=>rfl) (fun k hk=>by rw[ZaG,if_neg (ZgG hup hge hk).1])
  ·exact S2.congr n _ (fun _ _=>rfl) (fun k hk=>by rw[ZaG,if_neg (ZgT hup hge hk).1])
  ·intro a' b' x' y' wa wb hxa hyb
   have e1:=Qj (wa.one W1)
   have e2:=Qj (wb.one W2)
   subst e1
   subst e2
   have e3:=Qj (hxa.symm.trans hda)
   have e4:=Qj (hyb.symm.trans hdb)
   subst e3
   subst e4
   exact⟨t6,by rw[ZaG,if_pos rfl,hlz]⟩
  ·rcases hno with z|z
   ·exact nomatch z.one W1
   ·exact nomatch z.one W2
  ·rw[ZaG,if_neg (fun z=>hj ⟨hge,.inr (.inr z)⟩)]
   exact oth j hj
theorem Zdp.mono{C:Addr}{H H':Hp}{e:Zz}(h:Zdp C H e)(k:∀b o,H b=some o→b=e.p∨b=e.k∨b=e.f→H' b=some o):Zdp C H' e:=by
 obtain⟨dx,hd⟩:=h.at'.ob
 exact⟨⟨⟨dx,k _ _ hd (.inl rfl)⟩,k _ _ h.at'.ks (.inr (.inl rfl)),k _ _ h.at'.fs (.inr (.inr rfl))⟩,h.le,h.len,h.srt,h.str⟩
theorem Zmm(L:List Zz):(kvM L).map (fun kv=>kV kv.1)=(Zx L).map V.int:=by unfold kvM Zx;rw[Qy,Qy];rfl
theorem Zmk{n:Nat}{N:List Int}{k:Int×Int}(_:ZdL n N k):ZO [] k=none:=rfl
def Zga(cR cM:Addr):Sp:=fun vs H Q _=>∃ (m rd sd:Addr) (L:List Zz) (s:StL) (nb li lo:Int) (best:V),vs=[.ref m]∧Z3 cR cM H m rd sd L s nb li lo best ∧
 ∀ (sd':Addr) (s':StL) (w:Option Int) (k q:Int) (H':Hp),H sd'=none→Win (hdM L) (Zx L) w→Zee (hdM L) s' 8 (Zx L)→Zbs (hdM L) 8 (Zx L) k q→Z3 cR cM H' m rd sd' L s' nb (li+k) (lo+q) (Zdj w)→(∀b o,H b=some o→b≠m→H' b=some o)→Q .non H'
theorem Zhn(T:Zaq K mg cRow cMerge)(f_Merge_play:Mf P w K mg base 12 cMerge "play" ["self", "numbers"] (Zk9 K cRow cMerge 8)):Mf P w K mg base 13 cMerge "play_all" ["self"] (Zga cRow cMerge):=by
 refine T.t_Merge_play_all.mf Zd3 (fun vs H Q E h=>?_) (fun cdv f A outer s H vs Q E hr h=>?_)
 ·obtain⟨m,rd,sd,L,s,nb,li,lo,best,rfl,_⟩:=h
  rfl
 obtain⟨m,rd,sd,L,s,nb,li,lo',best,rfl,M,q⟩:=h
 refine⟨_,#[Zg,#[Zbw,‹0›,(@ZiZ _ _)],#[Zj,#[Zbw,‹0›,#[Zbe,#[Zs,ZdK,#[Zk,lenG,(by rfl),T.b.n_len,Qt,#[Za,#[ZW,‹0›],#[Ze]]],#[Zh],(Zu _)],#[ZeA,f_Merge_play,T.cl_Merge,hr,‹0›,#[Za,#[Zb9,Zo8,(by rfl),T.b.n_list,boot_list,#[Za,#[ZW,‹0›],#[Ze]]],#[Ze]]],#[Zaj]]]]],?_⟩
 refine fun sd' hsd=>?_
 obtain⟨dx,hm⟩:=M.ob
 have s1:=Zi hsd (.dT [])
 have hs1:(upd H sd' (.dT [])) sd'=some (.dT (kvS [])):=Zd
 have M1:=M.same s1
 have hm1:=s1 _ _ hm
 have nms:m≠sd':=Zb hm hsd
 have nrs:rd≠sd':=Zb M.rows hsd
 generalize upd H sd' (.dT [])=H1 at s1 hs1 M1 hm1 ⊢
 refine⟨_,rfl,xw4 m cMerge dx _ ⟨rfl,hm1,T.cl_Merge,T.na_Merge_stays,ZbO ..,?_⟩⟩
 rw[ZfJ]
 obtain⟨n1,n2,n3⟩:=M.ne_m
 have M2:Z3 cRow cMerge (upd H1 m (.ins cMerge dx (mgF rd nb li lo' sd' best))) m rd sd' L [] nb li lo' best:=by
  refine⟨⟨dx,Zd⟩,by rw[Zc n1.symm];exact M1.rows,by rw[Zc nms.symm];exact hs1,(fun e he=>by cases he),fun e he=>?_,M.up,M.pd,M.few,by decide⟩
  obtain⟨a,b,c⟩:=M1.ne_p he
  exact(M1.each e he).keep (Zc a.symm) (Zc b.symm) (Zc c.symm)
 have k2:∀b o,H b=some o→b≠m→(upd H1 m (.ins cMerge dx (mgF rd nb li lo' sd' best))) b=some o:=fun b o hb n=>by rw[Zc n];exact s1 b o hb
 generalize upd H1 m (.ins cMerge dx (mgF rd nb li lo' sd' best))=H2 at M2 k2 ⊢
 obtain⟨dx2,hm2⟩:=M2.ob
 have hlen:(((kvM L).length:Nat):Int)=(L.length:Int):=by unfold kvM;rw[Qa]
 have hnl:(Zx L).length=L.length:=by unfold Zx;rw[Qa]
 have hfew:=M.few
 refine⟨_,rfl,xw5 m cMerge dx2 _ _ ⟨rfl,hm2,T.cl_Merge,T.na_Merge_rows,Zbb ..,rd,_,rfl,M2.rows,_,_,rfl,rfl,_,rfl,Zbo (fun d=>?_) (fun d=>?_)⟩⟩
 ·have hpos:0<L.length:=by have:(0:Int)<(((kvM L).length:Nat):Int):=of_decide_eq_true d;omega
  refine⟨_,rfl,m,dx2,_,rfl,hm2,ZdF ..,_,rfl,xw5 m cMerge dx2 _ _ ⟨rfl,hm2,T.cl_Merge,T.na_Merge_rows,Zbb ..,rd,_,rfl,M2.rows,fun l hl=>?_⟩⟩
  rw[Zmm]
  have s3:=Zi hl (.lst ((Zx L).map V.int))
  have hl3:(upd H2 l (.lst ((Zx L).map V.int))) l=some (.lst ((Zx L).map V.int)):=Zd
  have M3:=M2.same s3
  generalize upd H2 l (.lst ((Zx L).map V.int))=H3 at s3 hl3 M3 ⊢
  refine⟨m,rd,sd',L,[],nb,li,lo',best,l,Zx L,rfl,M3,hl3,by omega,by omega,by decide,QP (by omega:(Zx L).length≤60) (by decide),fun x hx=>hx,M.up,fun k hk=>Zmk hk,by show 0+_≤_;omega,fun w1 s' k q' H4 W S Pl _ _ M4 b4=>?_⟩
  obtain⟨dx4,hm4⟩:=M4.ob
  refine⟨_,rfl,xw4 m cMerge dx4 _ ⟨rfl,hm4,T.cl_Merge,T.na_Merge_best,ZbO ..,?_⟩⟩
  rw[Zbz]
  exact q sd' s' w1 k q' _ hsd W S Pl M4.obj (fun b o hb n=>by rw[Zc n];exact b4 b o (s3 b o (k2 b o hb n)) n (Zb hb hsd))
 ·have hnil:L=[]:=by
   cases L with
   | nil=>rfl
   | cons e r=>exact absurd (decide_eq_true (show (0:Int)<(((kvM (e::r)).length:Nat):Int) by rw[hlen];simp only[List.length_cons];omega)) d
  subst hnil
  refine⟨_,rfl,xw4 m cMerge dx2 _ ⟨rfl,hm2,T.cl_Merge,T.na_Merge_best,ZbO ..,?_⟩⟩
  rw[Zbz]
  exact q sd' [] none 0 0 _ hsd (Win.nil _) (fun h2=>absurd h2 (by decide)) (.few (by decide)) (M2.obj.cast (by omega) (by omega)) (fun b o hb n=>by rw[Zc n];exact k2 b o hb n)
def ZnR(L:List Zz)(rs:List (Addr×List Str)):Prop:=Zx L=ZbM 0 rs.length∧L.map (fun e=>(e.ss,e.g))=rs.map fun x=>(x.2,0)
def ZeE(cR cM:Addr):Sp:=fun vs H Q _=>∃ (m dx r:Addr) (rs:List (Addr×List Str)),vs=[.ref m,.ref r]∧H m=some (.ins cM dx [])∧Za1 H r rs∧(∀x∈rs,sortedS x.2=true) ∧
 ∀ (rd sd:Addr) (L:List Zz) (s:StL) (w:Option Int) (k q:Int) (H':Hp),Z3 cR cM H' m rd sd L s (rs.length:Int) k q (Zdj w)→ZnR L rs→Win (hdM L) (Zx L) w→Zee (hdM L) s 8 (Zx L)→Zbs (hdM L) 8 (Zx L) k q→(∀b,Fp m rd sd L b→b=m∨H b=none)→(∀b o,H b=some o→b≠m→H' b=some o)→Q .non H'
theorem Zfd(rd:Addr)(nb li lo:Int)(sd:Addr)(best:V):(mgF rd nb li lo sd best).lookup ("play_all" : Str)=none:=Zbu _ _ _ _ _ _ (by ac_rfl) (by ac_rfl) (by ac_rfl) (by ac_rfl) (by ac_rfl) (by ac_rfl)
theorem Zmx{ss:List Str}(h:sortedS ss=true):Zhk ss .non:=by
 refine .inl ⟨rfl,fun i x y hx hy=>?_⟩
 have:=Zf5 h i y x hy hx
 have:=Zbf (cds y) (cds x)
 omega
theorem ZfL(T:Zaq K mg cRow cMerge)(f_refuse_break:Df P w K mg base 5 "refuse_break" ["number", "keys"] (Zff K))(f_Row_init:Cf P w K mg base 4 cRow "Row" ["self", "keys"] (Zgo cRow))(f_Merge_play_all:Mf P w K mg base 13 cMerge "play_all" ["self"] (Zga cRow cMerge)):Cf P w K mg base 14 cMerge "Merge" ["self", "rows"] (ZeE cRow cMerge):=by
 refine T.t_Merge_init.cf ZbV (fun vs H Q E h=>?_) (fun cdv f A outer s H vs Q E hr h=>?_)
 ·obtain⟨m,dx,r,rs,rfl,_⟩:=h
  rfl
 obtain⟨m,dx,r,rs,rfl,hm,hrs,hsrt,q⟩:=h
 refine⟨_,#[Zg,#[Zbw,‹0›,(@Zln _ _)],#[Zg,#[Zct,PassesOwn.never,#[iE,K,T.b.n_enumerate,#[Za,‹1›,#[Ze]]],#[gT,K,2,#[Zw,#[ZP,2,ZbV.nd,(Or.inl rfl)],#[Zw,#[ZP,3,ZbV.nd,(Or.inl rfl)],(@ZaT _)]]],#[Zg,#[Za0,#[ZB,f_refuse_break,hr,#[Za,‹2›,#[Za,‹3›,#[Ze]]],(by rfl)]],#[Zj,#[Zbt,#[ZkD,f_Row_init,hr,#[Za,‹3›,#[Ze]]],#[ZdA,#[ZW,‹0›],‹2›,(Zk6 hr)]]]]],#[Zg,#[Zbw,‹0›,#[Zk,(Zb5 K),(by rfl),T.b.n_len,Qt,#[Za,‹1›,#[Ze]]]],#[Zg,#[Zbw,‹0›,#[Zh]],#[Zg,#[Zbw,‹0›,#[Zh]],#[Zg,#[Zbw,‹0›,(@ZiZ _ _)],#[Zg,#[Zbw,‹0›,#[Zaj]],#[Zj,#[Za0,#[ZaU,f_Merge_play_all,T.cl_Merge,hr,‹0›]]]]]]]]]],?_⟩
 refine fun rd hrd=>?_
 have nmr:m≠rd:=Zb hm hrd
 have s1:=Zi hrd (.dK [])
 have hr1:(upd H rd (.dK [])) rd=some (.dK (kvM [])):=Zd
 have hm1:=s1 _ _ hm
 generalize upd H rd (.dK [])=H1 at s1 hr1 hm1 ⊢
 refine⟨_,rfl,xw4 m cMerge dx _ ⟨rfl,hm1,T.cl_Merge,T.na_Merge_rows,(by show 0<1000;decide),?_⟩⟩
 have nrm:r≠m:=fun z=>by have:=hrs.at';rw[z,hm]at this;cases this
 have k2:∀b o,H b=some o→b≠m→(upd H1 m (.ins cMerge dx (Zm "rows" (.ref rd) []))) b=some o:=fun b o hb n=>by rw[Zc n];exact s1 b o hb
 have hm2:(upd H1 m (.ins cMerge dx (Zm "rows" (.ref rd) []))) m=some (.ins cMerge dx (Zm "rows" (.ref rd) [])):=Zd
 have hr2:(upd H1 m (.ins cMerge dx (Zm "rows" (.ref rd) []))) rd=some (.dK (kvM [])):=by rw[Zc nmr.symm];exact hr1
 generalize upd H1 m (.ins cMerge dx (Zm "rows" (.ref rd) []))=H2 at k2 hm2 hr2 ⊢
 have hfew:=hrs.few
 have lkr:(Zm "rows" (.ref rd) []).lookup ("rows" : Str)=some (V.ref rd):=by rw[Zl,if_pos rfl]
 refine⟨_,rfl,r,_,rfl,SqL.of (k2 _ _ hrs.at' nrm),?_⟩
 refine Zfc (K:=K) (a:=r) (xs:=rs.map fun x=>V.ref x.1) (fun i σ H5=>∃ (L:List Zz) (v2 v3:Option V),σ=[some (.ref m),some (.ref r),v2,v3]∧H5 m=some (.ins cMerge dx (Zm "rows" (.ref rd) []))∧H5 rd=some (.dK (kvM L))∧(∀e∈L,Zdp cRow H5 e)∧ZnR L (rs.take i)∧(L.map (·.p)).Nodup∧(∀e∈L,H e.p=none∧H e.k=none∧H e.f=none)∧(∀b o,H b=some o→b≠m→H5 b=some o)) ⟨[],_,_,rfl,hm2,hr2,(fun e h=>by cases h),⟨rfl,rfl⟩,List.nodup_nil,(fun e h=>by cases h),k2⟩ (fun i σ H5 hq=>by obtain⟨_,_,_,_,_,_,_,_,_,_,k5⟩:=hq;exact SqL.of (k5 _ _ hrs.at' nrm)) ?_ ?_
 ·rintro i y σ H5 p hy ⟨L,v2,v3,rfl,hm5,hr5,each,⟨n1,n2⟩,pd,hfr,k5⟩ hp
  rw[Qs]at hy
  cases hz:rs[i]? with
  | none=>rw[hz]at hy;cases hy
  | some x =>
  rw[hz]at hy
  cases hy
  have hil:i<rs.length:=(Qe.mp hz).1
  have hxm:=Qw hz
  obtain⟨lx,l100,laz⟩:=hrs.lst x hxm
  have nxm:x.1≠m:=fun z=>by rw[z,hm]at lx;cases lx
  have hLl:L.length=i:=by have:=congrArg List.length n1;unfold Zx at this;rw[Qa,ZfH,Qq]at this;omega
  have hlt:∀e∈L,e.n≠(i:Int):=fun e he z=>by
   have h1:e.n∈ZbM 0 (rs.take i).length:=by rw[← n1];exact Qn (f:=fun e:Zz=>e.n) he
   unfold ZbM at h1
   obtain⟨j,hj,ej⟩:=QJ.mp h1
   have:=List.mem_range.mp hj
   rw[Qq]at this
   omega
  have sp:=Zi hp (.tup [.int (i:Int),.ref x.1])
  have hp6:(upd H5 p (.tup [.int (i:Int),.ref x.1])) p=some (.tup [.int (i:Int),.ref x.1]):=Zd
  generalize upd H5 p (.tup [.int (i:Int),.ref x.1])=H6 at sp hp6 ⊢
  refine⟨p,_,rfl,SqT.of hp6,rfl,_,_,rfl,_,_,rfl,rfl,?_⟩
  have lx6:H6 x.1=some (.lst (x.2.map V.str)):=sp _ _ (k5 _ _ lx nxm)
  refine⟨_,rfl,_,rfl,(i:Int),x.1,x.2,rfl,SqL.of lx6,by omega,fun s hs=>(laz s hs).1,Zmx (hsrt x hxm),fun H7 s7=>?_⟩
  have s57:=sp.trans s7
  refine⟨_,rfl,fun u dy hu hdy ndu=>?_⟩
  have hu5:H5 u=none:=s57.free hu
  have lx8:(upd (upd H7 dy (.own u)) u (.ins cRow dy [])) x.1=some (.lst (x.2.map V.str)):=by
   have:=s7 _ _ lx6
   rw[Zc (Zb this hu),Zc (Zb this hdy)];exact this
  have s8:∀b o,H5 b=some o→(upd (upd H7 dy (.own u)) u (.ins cRow dy [])) b=some o:=fun b o hb=>by
   have:=s57 _ _ hb
   rw[Zc (Zb this hu),Zc (Zb this hdy)];exact this
  have hu8:(upd (upd H7 dy (.own u)) u (.ins cRow dy [])) u=some (.ins cRow dy []):=Zd
  generalize upd (upd H7 dy (.own u)) u (.ins cRow dy [])=H8 at lx8 s8 hu8 ⊢
  refine⟨u,dy,x.1,x.2,rfl,hu8,lx8,l100,fun s hs=>(laz s hs).1,fun k f H9 hk hf nkf R k9=>⟨rfl,?_⟩⟩
  have s9:∀b o,H5 b=some o→H9 b=some o:=fun b o hb=>k9 b o (s8 b o hb) (Zb hb hu5)
  have free5:∀b,H8 b=none→H5 b=none:=fun b hb=>by
   cases e:H5 b with
   | none=>rfl
   | some o=>rw[s8 b o e]at hb;cases hb
  have free0:∀b,b≠m→H5 b=none→H b=none:=fun b nb hb=>by
   cases e:H b with
   | none=>rfl
   | some o=>rw[k5 b o e nb]at hb;cases hb
  have num:u≠m:=fun z=>by rw[z,hm5]at hu5;cases hu5
  have nkm:k≠m:=fun z=>by have:=free5 k hk;rw[z,hm5]at this;cases this
  have nfm:f≠m:=fun z=>by have:=free5 f hf;rw[z,hm5]at this;cases this
  have nrd:rd≠u∧rd≠k∧rd≠f:=⟨Zb hr5 hu5,Zb hr5 (free5 k hk),Zb hr5 (free5 f hf)⟩
  have hsz:(kvM L).length<sizeLine:=by unfold kvM;rw[Qa];exact Z2 (by omega)
  have hn1:ZbX (kvM L) (.inl (i:Int))=none:=by
   cases hv:ZbX (kvM L) (.inl (i:Int)) with
   | none=>rfl
   | some v=>obtain⟨e,he,z⟩:=QJ.mp (ZkP hv);injection z with z _;exact absurd (Sum.inl.inj z) (hlt e he)
  refine⟨_,rfl,xw5 m cMerge dx _ _ ⟨rfl,s9 _ _ hm5,T.cl_Merge,T.na_Merge_rows,lkr,_,rfl,rd,_,rfl,ZeX.k (k:=.inl (i:Int)) (s9 _ _ hr5) hsz,?_⟩⟩
  rw[Zlp _ hn1,show kvM L++[((.inl (i:Int):Key),V.ref u)]=kvM (L++[⟨(i:Int),u,k,f,x.2,0⟩]) by unfold kvM;rw[Qh];rfl]
  refine⟨L++[⟨(i:Int),u,k,f,x.2,0⟩],_,_,rfl,by rw[Zc nmr];exact s9 _ _ hm5,Zd,fun e he=>?_,⟨?_,?_⟩,?_,fun e he=>?_,fun b o hb n=>?_⟩
  ·rcases Qm.mp he with he|he
   ·have re:=each e he
    obtain⟨de,hde⟩:=re.at'.ob
    refine re.mono fun b o hb hor=>?_
    have nb:b≠rd:=fun z=>by
     rw[z,hr5]at hb
     injection hb with hb
     subst hb
     rcases hor with z2|z2|z2
     ·rw[← z2,z,hr5]at hde;cases hde
     ·have:=re.at'.ks;rw[← z2,z,hr5]at this;cases this
     ·have:=re.at'.fs;rw[← z2,z,hr5]at this;cases this
    rw[Zc nb];exact s9 b o hb
   ·rw[Qk.mp he]
    refine Zdp.keep (H:=H9) ⟨R,Qp _,l100,hsrt x hxm,laz⟩ (Zc nrd.1.symm) (Zc nrd.2.1.symm) (Zc nrd.2.2.symm)
  ·unfold Zx at n1 ⊢
   rw[Qh,n1,Qq,Qq,QaV (by omega),QaV (by omega)]
   unfold ZbM
   rw[List.range_succ,Qh]
   simp
  ·rw[Qh,n2,QM,hz,Qh];rfl
  ·rw[Qh]
   refine List.nodup_append.mpr ⟨pd,by simp,fun a ha b hb=>?_⟩
   obtain⟨e,he,rfl⟩:=QJ.mp ha
   have:b=u:=by simpa using hb
   rw[this]
   obtain⟨de,hde⟩:=(each e he).at'.ob
   exact Zb hde hu5
  ·rcases Qm.mp he with he|he
   ·exact hfr e he
   ·rw[Qk.mp he]
    exact⟨free0 u num hu5,free0 k nkm (free5 k hk),free0 f nfm (free5 f hf)⟩
  ·rw[Zc (Zb hb hrd)];exact s9 b o (k5 b o hb n)
 ·rintro σ H5 ⟨L,v2,v3,rfl,hm5,hr5,each,hnew,pd,hfr,k5⟩
  rw[Qa,Qu (Qg _)]at hnew
  have p1:=Zbp "rows" (V.ref rd) []
  have p2:=Zbp "next_number" (V.int (rs.length:Int)) (Zm "rows" (.ref rd) [])
  have p3:=Zbp "likened" (V.int 0) (Zm "next_number" (.int (rs.length:Int)) (Zm "rows" (.ref rd) []))
  have p4:=Zbp "looked" (V.int 0) (Zm "likened" (.int 0) (Zm "next_number" (.int (rs.length:Int)) (Zm "rows" (.ref rd) [])))
  have p0:([]:List (Str×V)).length=0:=rfl
  refine⟨_,rfl,r,_,rfl,.inl (SqL.of (k5 _ _ hrs.at' nrm)),_,rfl,xw4 m cMerge dx _ ⟨rfl,hm5,T.cl_Merge,T.na_Merge_next_number,by omega,?_⟩⟩
  rw[Qa]
  refine⟨_,rfl,xw4 m cMerge dx _ ⟨rfl,Zd,T.cl_Merge,T.na_Merge_likened,by omega,?_⟩⟩
  refine⟨_,rfl,xw4 m cMerge dx _ ⟨rfl,Zd,T.cl_Merge,T.na_Merge_looked,by omega,?_⟩⟩
  have k8:∀b,b≠m→(upd (upd (upd H5 m (.ins cMerge dx (Zm "next_number" (.int (rs.length:Int)) (Zm "rows" (.ref rd) [])))) m (.ins cMerge dx (Zm "likened" (.int 0) (Zm "next_number" (.int (rs.length:Int)) (Zm "rows" (.ref rd) []))))) m (.ins cMerge dx (Zm "looked" (.int 0) (Zm "likened" (.int 0) (Zm "next_number" (.int (rs.length:Int)) (Zm "rows" (.ref rd) [])))))) b=H5 b:=fun b n=>by rw[Zc n,Zc n,Zc n]
  have hm8:(upd (upd (upd H5 m (.ins cMerge dx (Zm "next_number" (.int (rs.length:Int)) (Zm "rows" (.ref rd) [])))) m (.ins cMerge dx (Zm "likened" (.int 0) (Zm "next_number" (.int (rs.length:Int)) (Zm "rows" (.ref rd) []))))) m (.ins cMerge dx (Zm "looked" (.int 0) (Zm "likened" (.int 0) (Zm "next_number" (.int (rs.length:Int)) (Zm "rows" (.ref rd) [])))))) m=some (.ins cMerge dx (Zm "looked" (.int 0) (Zm "likened" (.int 0) (Zm "next_number" (.int (rs.length:Int)) (Zm "rows" (.ref rd) []))))):=Zd
  generalize (upd (upd (upd H5 m (.ins cMerge dx (Zm "next_number" (.int (rs.length:Int)) (Zm "rows" (.ref rd) [])))) m (.ins cMerge dx (Zm "likened" (.int 0) (Zm "next_number" (.int (rs.length:Int)) (Zm "rows" (.ref rd) []))))) m (.ins cMerge dx (Zm "looked" (.int 0) (Zm "likened" (.int 0) (Zm "next_number" (.int (rs.length:Int)) (Zm "rows" (.ref rd) []))))))=H8 at k8 hm8 ⊢
  refine fun sd hsd=>?_
  have nms:m≠sd:=Zb hm8 hsd
  have p5:=Zbp "stays" (V.ref sd) (Zm "looked" (.int 0) (Zm "likened" (.int 0) (Zm "next_number" (.int (rs.length:Int)) (Zm "rows" (.ref rd) []))))
  refine⟨_,rfl,xw4 m cMerge dx _ ⟨rfl,by rw[Zc nms];exact hm8,T.cl_Merge,T.na_Merge_stays,by omega,?_⟩⟩
  refine⟨_,rfl,xw4 m cMerge dx _ ⟨rfl,Zd,T.cl_Merge,T.na_Merge_best,by omega,?_⟩⟩
  have hsd5:H5 sd=none:=by rw[← k8 sd nms.symm];exact hsd
  have hm9:(upd (upd (upd H8 sd (.dT [])) m (.ins cMerge dx (Zm "stays" (.ref sd) (Zm "looked" (.int 0) (Zm "likened" (.int 0) (Zm "next_number" (.int (rs.length:Int)) (Zm "rows" (.ref rd) []))))))) m (.ins cMerge dx (Zm "best" .non (Zm "stays" (.ref sd) (Zm "looked" (.int 0) (Zm "likened" (.int 0) (Zm "next_number" (.int (rs.length:Int)) (Zm "rows" (.ref rd) [])))))))) m=some (.ins cMerge dx (mgF rd (rs.length:Int) 0 0 sd .non)):=by rw[Zbk];exact Zd
  have hs9:(upd (upd (upd H8 sd (.dT [])) m (.ins cMerge dx (Zm "stays" (.ref sd) (Zm "looked" (.int 0) (Zm "likened" (.int 0) (Zm "next_number" (.int (rs.length:Int)) (Zm "rows" (.ref rd) []))))))) m (.ins cMerge dx (Zm "best" .non (Zm "stays" (.ref sd) (Zm "looked" (.int 0) (Zm "likened" (.int 0) (Zm "next_number" (.int (rs.length:Int)) (Zm "rows" (.ref rd) [])))))))) sd=some (.dT (kvS [])):=by rw[Zc nms.symm,Zc nms.symm];exact Zd
  have k9:∀b o,H5 b=some o→b≠m→(upd (upd (upd H8 sd (.dT [])) m (.ins cMerge dx (Zm "stays" (.ref sd) (Zm "looked" (.int 0) (Zm "likened" (.int 0) (Zm "next_number" (.int (rs.length:Int)) (Zm "rows" (.ref rd) []))))))) m (.ins cMerge dx (Zm "best" .non (Zm "stays" (.ref sd) (Zm "looked" (.int 0) (Zm "likened" (.int 0) (Zm "next_number" (.int (rs.length:Int)) (Zm "rows" (.ref rd) [])))))))) b=some o:=fun b o hb n=>by rw[Zc n,Zc n,Zc (Zb hb hsd5),k8 b n];exact hb
  generalize (upd (upd (upd H8 sd (.dT [])) m (.ins cMerge dx (Zm "stays" (.ref sd) (Zm "looked" (.int 0) (Zm "likened" (.int 0) (Zm "next_number" (.int (rs.length:Int)) (Zm "rows" (.ref rd) []))))))) m (.ins cMerge dx (Zm "best" .non (Zm "stays" (.ref sd) (Zm "looked" (.int 0) (Zm "likened" (.int 0) (Zm "next_number" (.int (rs.length:Int)) (Zm "rows" (.ref rd) []))))))))=H9 at hm9 hs9 k9 ⊢
  have hLl:L.length=rs.length:=by have:=congrArg List.length hnew.1;unfold Zx at this;rw[Qa,ZfH]at this;exact this
  have M9:Z3 cRow cMerge H9 m rd sd L [] (rs.length:Int) 0 0 .non:=by
   refine⟨⟨dx,hm9⟩,k9 _ _ hr5 nmr.symm,hs9,(fun e he=>by cases he),fun e he=>?_,by rw[hnew.1];exact ZfG _,pd,by omega,by decide⟩
   have re:=each e he
   obtain⟨de,hde⟩:=re.at'.ob
   refine re.mono fun b o hb hor=>k9 b o hb fun z=>?_
   have hf:=hfr e he
   have hm':=hm
   rw[← z]at hm'
   rcases hor with z2|z2|z2
   ·rw[z2,hf.1]at hm';cases hm'
   ·rw[z2,hf.2.1]at hm';cases hm'
   ·rw[z2,hf.2.2]at hm';cases hm'
  refine⟨_,rfl,m,dx,_,rfl,hm9,Zfd ..,m,rd,sd,L,[],_,0,0,.non,rfl,M9,fun sd' s' w1 k q' H10 hsd' W S Pl M10 b10=>?_⟩
  have free0:∀b,b≠m→H9 b=none→H b=none:=fun b nb hb=>by
   cases e:H b with
   | none=>rfl
   | some o=>rw[k9 b o (k5 b o e nb) nb]at hb;cases hb
  refine q rd sd' L s' w1 k q' H10 (M10.cast (by omega) (by omega)) hnew W S Pl (fun b hb=>?_) (fun b o hb n=>b10 b o (k9 b o (k5 b o hb n) n) n)
  rcases hb with rfl|rfl|rfl|⟨e,he,hb⟩
  ·exact .inl rfl
  ·exact .inr hrd
  ·exact .inr (free0 _ (fun z=>by rw[z,hm9]at hsd';cases hsd') hsd')
  ·have hf:=hfr e he
   rcases hb with rfl|rfl|rfl
   ·exact .inr hf.1
   ·exact .inr hf.2.1
   ·exact .inr hf.2.2
def ZnL(cR cM:Addr):Sp:=fun vs H Q _=>∃ (m rd sd:Addr) (L:List Zz) (s:StL) (nb li lo:Int) (best:V),vs=[.ref m]∧Z3 cR cM H m rd sd L s nb li lo best∧Q (.int li) H
def ZnJ(cR cM:Addr):Sp:=fun vs H Q _=>∃ (m rd sd:Addr) (L:List Zz) (s:StL) (nb li lo:Int) (best:V),vs=[.ref m]∧Z3 cR cM H m rd sd L s nb li lo best∧Q (.int lo) H
theorem ZgZ(T:Zaq K mg cRow cMerge):Mf P w K mg base 1 cMerge "likenings" ["self"] (ZnL cRow cMerge):=by
 refine T.t_Merge_likenings.mf ZdE (fun vs H Q E h=>?_) (fun cdv f A outer s H vs Q E hr h=>?_)
 ·obtain⟨m,rd,sd,L,s,nb,li,lo,best,rfl,_⟩:=h
  rfl
 obtain⟨m,rd,sd,L,s,nb,li,lo,best,rfl,M,q⟩:=h
 refine⟨_,#[Zj,#[Zr,#[ZW,‹0›]]],?_⟩
 obtain⟨dx,hm⟩:=M.ob
 exact⟨_,rfl,xw5 m cMerge dx _ _ ⟨rfl,hm,T.cl_Merge,T.na_Merge_likened,ZcR ..,q⟩⟩
theorem ZkW(T:Zaq K mg cRow cMerge):Mf P w K mg base 1 cMerge "looks" ["self"] (ZnJ cRow cMerge):=by
 refine T.t_Merge_looks.mf Zfb (fun vs H Q E h=>?_) (fun cdv f A outer s H vs Q E hr h=>?_)
 ·obtain⟨m,rd,sd,L,s,nb,li,lo,best,rfl,_⟩:=h
  rfl
 obtain⟨m,rd,sd,L,s,nb,li,lo,best,rfl,M,q⟩:=h
 refine⟨_,#[Zj,#[Zr,#[ZW,‹0›]]],?_⟩
 obtain⟨dx,hm⟩:=M.ob
 exact⟨_,rfl,xw5 m cMerge dx _ _ ⟨rfl,hm,T.cl_Merge,T.na_Merge_looked,Zfw ..,q⟩⟩
def ZhP(cR cM:Addr):Sp:=fun vs H Q _=>∃ (m rd sd:Addr) (L:List Zz) (s:StL) (nb li lo:Int) (w:Option Int),vs=[.ref m]∧Z3 cR cM H m rd sd L s nb li lo (Zdj w)∧Win (hdM L) (Zx L) w∧∀ (x:V) (H':Hp),ZoZ (L.map toL) H' x→ZH H H'→Q x H'
theorem ZjB(T:Zaq K mg cRow cMerge)(f_Row_head:Mf P w K mg base 2 cRow "head" ["self"] (Zek cRow)):Mf P w K mg base 3 cMerge "coming" ["self"] (ZhP cRow cMerge):=by
 refine T.t_Merge_coming.mf ZcD (fun vs H Q E h=>?_) (fun cdv f A outer s H vs Q E hr h=>?_)
 ·obtain⟨m,rd,sd,L,s,nb,li,lo,w,rfl,_⟩:=h
  rfl
 obtain⟨m,rd,sd,L,s,nb,li,lo,w,rfl,M,W,q⟩:=h
 refine⟨_,#[Zg,#[Zaw,#[Zs,Zcq,#[ZW,‹0›],#[Zaj],(Zu _)],#[Zj,#[Zr,#[Zaj]]],#[ZQ]],#[Zg,#[Zv,1,ZcD.nd,(Or.inl rfl),#[ZF,(ixG hr),#[ZW,‹0›],#[ZW,‹0›]]],#[Zj,#[Zr,#[Zay,#[Za,#[ZW,‹0›],#[Za,#[ZW,‹1›],#[Za,#[ZaU,f_Row_head,T.cl_Row,hr,‹1›],#[Ze]]]]]]]]],?_⟩
 obtain⟨dx,hm⟩:=M.ob
 refine⟨_,rfl,xw5 m cMerge dx _ _ ⟨rfl,hm,T.cl_Merge,T.na_Merge_best,ZcW ..,rfl,_,rfl,?_⟩⟩
 have W':Win (hdL (L.map toL)) ((L.map toL).map (·.1)) w:=by rw[Zd7];exact W
 cases w with
 | none=>exact ZdI rfl (q _ H (.inl ⟨rfl,W'⟩) (ZH.refl H))
 | some a =>
  obtain⟨e,he,rfl⟩:=Zc0 W.1
  have R:=M.each e he
  obtain⟨dp,hp⟩:=R.at'.ob
  have hd:=ZdD M.nd he
  cases hx:e.ss[e.g]? with
  | none=>obtain⟨_,z,hz,_⟩:=W;rw[hd,hx]at hz;cases hz
  | some x =>
  refine Zcn (fun z=>nomatch z) ?_
  refine⟨_,rfl,xw5 m cMerge dx _ _ ⟨rfl,hm,T.cl_Merge,T.na_Merge_rows,Zbb ..,_,rfl,xw5 m cMerge dx _ _ ⟨rfl,hm,T.cl_Merge,T.na_Merge_best,ZcW ..,rd,_,rfl,ZcJ.k' (k:=.inl e.n) M.rows (Zfe M.nd he),?_⟩⟩⟩
  refine⟨_,rfl,xw5 m cMerge dx _ _ ⟨rfl,hm,T.cl_Merge,T.na_Merge_best,ZcW ..,_,rfl,e.p,cRow,dp,_,_,rfl,hp,T.cl_Row,T.na_Row_gone,Zcf ..,_,rfl,e.p,dp,_,rfl,hp,Za5 ..,xw5 e.p e.k e.f e.ss e.g ⟨rfl,R.at',(by show 3≤sizeLine;decide),fun t ht=>?_⟩⟩⟩
  rw[ZdN hx]
  exact q _ _ (.inr ⟨t,toL e,x,rfl,Qn he,hx,Zd,W'⟩) (Zi ht _)
def Zj3(L:List ZcO):List (Int×Option Str):=L.map fun e=>(e.1,e.2.2.1[e.2.2.2]?)
def Zo6(H:Hp)(l:Addr)(E:List (Int×Option Str)):Prop:=∃ts:List (Addr×Int×Option Str),ts.map (·.2)=E∧H l=some (.lst (ts.map fun t=>V.ref t.1))∧∀t∈ts,H t.1=some (.tup [.int t.2.1,oV t.2.2])
theorem Zhe(ss:List Str)(g:Nat):ZdP ss g=oV ss[g]?:=by unfold ZdP oV;cases ss[g]?<;>rfl
def ZkJ(cR cM:Addr):Sp:=fun vs H Q _=>∃ (m rd sd:Addr) (L:List Zz) (s:StL) (nb li lo:Int) (best:V),vs=[.ref m]∧Z3 cR cM H m rd sd L s nb li lo best∧∀ (l:Addr) (H':Hp),H l=none→Zo6 H' l (Zj3 (L.map toL))→ZH H H'→Q (.ref l) H'
theorem Zjz(T:Zaq K mg cRow cMerge)(f_Row_head:Mf P w K mg base 2 cRow "head" ["self"] (Zek cRow)):Mf P w K mg base 3 cMerge "heads" ["self"] (ZkJ cRow cMerge):=by
 refine T.t_Merge_heads.mf ZeS (fun vs H Q E h=>?_) (fun cdv f A outer s H vs Q E hr h=>?_)
 ·obtain⟨m,rd,sd,L,s,nb,li,lo,best,rfl,_⟩:=h
  rfl
 obtain⟨m,rd,sd,L,s,nb,li,lo,best,rfl,M,q⟩:=h
 refine⟨_,#[Zj,#[Zr,(@Znz _ _ _ #[Zbl,ZkL,(@Zlu _ _ _ _ _ _ _ _ #[ZW,‹0›] (by rfl) (by rfl)),(fun _ _ _ _=>#[gT,K,2,#[Zw,#[cg,1,ZkL],#[Zw,#[cg,2,ZkL],(@ZaT _)]]]),(fun _ _ _ _=>(@Za9 _)),(fun _ _ _ _=>#[Zay,#[Za,#[cw,1,ZkL],#[Za,#[ZaU,f_Row_head,T.cl_Row,hr,#[cw,2,ZkL]],#[Ze]]]])])]],?_⟩
 obtain⟨dx,hm⟩:=M.ob
 have hfew:=M.few
 refine⟨rd,_,M.rows,True.intro,_,rfl,xw5 m cMerge dx _ _ ⟨rfl,hm,T.cl_Merge,T.na_Merge_rows,Zbb ..,rd,_,rfl,M.rows,fun ob B hB=>?_⟩⟩
 have hfz:(upd H rd (.frz ob (.dK (kvM L)))) rd=some (.frz ob (.dK (kvM L))):=Zd
 have k1:∀b x,H b=some x→b≠rd→(upd H rd (.frz ob (.dK (kvM L)))) b=some x:=fun b x h n=>by rw[Zc n];exact h
 have hB0:H B=none:=by
  cases e:H B with
  | none=>rfl
  | some o =>
   by_cases z:B=rd
   ·rw[z]at hB;rw[show (upd H rd (.frz ob (.dK (kvM L)))) rd=some (.frz ob (.dK (kvM L))) from Zd]at hB;cases hB
   ·rw[k1 B o e z]at hB;cases hB
 generalize upd H rd (.frz ob (.dK (kvM L)))=H1 at hfz k1 hB ⊢
 refine ZmO (d:=rd) (o:=ob) (kvs:=kvM L) (fun i zs σ H2=>(∃v1 v2:Option V,σ=[some (.ref m),v1,v2])∧(∃ts:List (Addr×Int×Option Str),ts.map (·.2)=Zj3 ((L.take i).map toL)∧zs=(ts.map fun t=>V.ref t.1)∧∀t∈ts,H2 t.1=some (.tup [.int t.2.1,oV t.2.2])∧t.1≠B∧t.1≠rd)∧i≤L.length∧H2 B=some (.lst zs)∧ZH H1 H2) ?_ (fun _ _ _ _ h=>h.2.2.2.2 _ _ hfz) ?_ ?_
 ·exact⟨⟨none,none,rfl⟩,⟨[],rfl,rfl,(fun t h=>by cases h)⟩,Qp _,Zd,Zi hB _⟩
 ·rintro i k x zs σ H2 p hkx ⟨⟨v1,v2,rfl⟩,⟨ts,hts,rfl,hall⟩,hi,hB2,s2⟩ hp0
  unfold kvM at hkx
  rw[Qs]at hkx
  cases hu:L[i]? with
  | none=>rw[hu]at hkx;cases hkx
  | some e =>
  rw[hu]at hkx
  cases hkx
  have hil:i<L.length:=(Qe.mp hu).1
  have he:=Qw hu
  have R:=M.each e he
  obtain⟨_,_,_,n1,n2,n3⟩:=M.ne_sd he
  have s3:=Zi hp0 (.tup [kV (.inl e.n),.ref e.p])
  have hp3:(upd H2 p (.tup [kV (.inl e.n),.ref e.p])) p=some (.tup [.int e.n,.ref e.p]):=Zd
  generalize upd H2 p (.tup [kV (.inl e.n),.ref e.p])=H3 at s3 hp3 ⊢
  have R2:Zdp cRow H3 e:=R.mono fun b o hb hor=>s3 _ _ (s2 _ _ (k1 b o hb (by rcases hor with z|z|z<;>rw[z];exact n1.symm;exact n2.symm;exact n3.symm)))
  obtain⟨dp,hp⟩:=R2.at'.ob
  have hB3:=s3 _ _ hB2
  have hf3:=s3 _ _ (s2 _ _ hfz)
  have hlen:ts.length=i:=by have:=congrArg List.length hts;unfold Zj3 at this;rw[Qa,Qa,Qa,Qq]at this;omega
  refine⟨p,_,rfl,SqT.of hp3,rfl,_,_,rfl,_,_,rfl,rfl,_,rfl,_,rfl,e.p,dp,_,rfl,hp,Za5 ..,xw5 e.p e.k e.f e.ss e.g ⟨rfl,R2.at',(by show 2≤sizeLine;decide),fun t ht=>?_⟩⟩
  rw[Zhe]
  have nBt:B≠t:=Zb hB3 ht
  have nrt:rd≠t:=Zb hf3 ht
  refine⟨by rw[Zc nBt];exact hB3,(by rw[Qa];exact Z2 (by omega)),⟨_,_,rfl⟩,⟨ts++[(t,e.n,e.ss[e.g]?)],?_,by rw[Qh];rfl,fun u hu'=>?_⟩,hil,Zd,fun b x hb=>?_⟩
  ·rw[Qh,hts,QM,hu,Qh]
   unfold Zj3
   rw[Qh];rfl
  ·rcases Qm.mp hu' with hu'|hu'
   ·obtain⟨g1,g2,g3⟩:=hall u hu'
    have:=s3 _ _ g1
    exact⟨by rw[Zc g2,Zc (Zb this ht)];exact this,g2,g3⟩
   ·rw[Qk.mp hu']
    exact⟨by rw[Zc nBt.symm];exact Zd,nBt.symm,nrt.symm⟩
  ·have:=s3 b x (s2 b x hb)
   rw[Zc (Zb hb hB),Zc (Zb this ht)];exact this
 rintro zs σ H2 ⟨⟨v1,v2,rfl⟩,⟨ts,hts,rfl,hall⟩,_,hB2,s2⟩
 have hkl:(kvM L).length=L.length:=by unfold kvM;rw[Qa]
 rw[hkl,Qu (Qg _)]at hts
 refine⟨ob,s2 _ _ hfz,?_⟩
 have nBr:B≠rd:=(Zb hfz hB).symm
 refine q B _ hB0 ⟨ts,hts,by rw[Zc nBr];exact hB2,fun t ht=>?_⟩ (fun b x hb=>?_)
 ·obtain⟨g1,g2,g3⟩:=hall t ht
  rw[Zc g3];exact g1
 ·by_cases e:b=rd
  ·rw[e,M.rows]at hb;rw[e,Zd];exact hb
  ·rw[Zc e];exact s2 _ _ (k1 b x hb e)
def Agr(Lo:List ZcO)(L:List Zz):Prop:=Lo.map (fun e=>(e.1,e.2.2))=L.map (fun e=>(e.n,(e.ss,e.g)))
theorem Zjc:∀ (A B:List ZcO),A.map (fun e=>(e.1,e.2.2))=B.map (fun e=>(e.1,e.2.2))→hdL A=hdL B
 | [],[],_=>rfl
 | [],_::_,h=>by cases h
 | _::_,[],h=>by cases h
 | a::A,b::B,h=>by
  rw[Qi,Qi]at h
  injection h with h1 h2
  injection h1 with h3 h4
  have ih:=Zjc A B h2
  funext n
  have ihn:=congrFun ih n
  unfold hdL at ihn ⊢
  rw[Qan,Qan,h3]
  split
  ·simp only[Option.bind_some];rw[h4]
  ·exact ihn
theorem Zd6{α β:Type}:∀ {P:List (α×β)},(P.map (·.1)).Nodup→∀ {p q:α×β},p∈P→q∈P→p.1=q.1→p=q
 | [],_,_,_,h,_,_=>by cases h
 | x::r,nd,p,q,hp,hq,e=>by
  rw[Qi,Q8]at nd
  rcases QH.mp hp with h1|h1
  ·rcases QH.mp hq with h2|h2
   ·rw[h1,h2]
   ·exact absurd (show x.1∈r.map (·.1) by rw[← h1,e];exact Qn (f:=fun x:α×β=>x.1) h2) nd.1
  ·rcases QH.mp hq with h2|h2
   ·exact absurd (show x.1∈r.map (·.1) by rw[← h2,← e];exact Qn (f:=fun x:α×β=>x.1) h1) nd.1
   ·exact Zd6 nd.2 h1 h2 e
def Zpc(x:V):Prop:=x=.non∨(∃b,x=.bl b)∨(∃i,x=.int i)∨∃s,x=.str s
structure F2 (R:V→V→Prop) (xs ys:List V):Prop where
 len:xs.length=ys.length
 at':∀ (i:Nat) (x y:V),xs[i]? = some x→ys[i]? = some y→R x y
theorem F2.nil{R:V→V→Prop}:F2 R [] []:=⟨rfl,fun i x y h=>by simp at h⟩
theorem F2.cons{R:V→V→Prop}{x y:V}{xs ys:List V}(h:R x y)(t:F2 R xs ys):F2 R (x::xs) (y::ys):=by
 refine⟨by rw[QC,QC,t.len],fun i a b ha hb=>?_⟩
 cases i with
 | zero=>simp at ha hb;rw[← ha,← hb];exact h
 | succ i=>exact t.at' i a b (by simpa using ha) (by simpa using hb)
theorem ZkG{H:Hp}{n:Nat}{x:V}(h:Zpc x):IsD H (n+1) x x:=.inl ⟨rfl,h⟩
theorem ZeL{H:Hp}{n:Nat}(i:Int):IsD H (n+1) (.int i) (.int i):=ZkG (.inr (.inr (.inl ⟨i,rfl⟩)))
theorem ZmU{H:Hp}{n:Nat}{p q:Addr}{xs ys:List V}(hp:H p=some (.lst xs))(hq:H q=some (.lst ys))(h:xs.length≤1000)(f:F2 (IsD H n) xs ys):IsD H (n+1) (.ref p) (.ref q):=.inr ⟨p,q,xs,ys,rfl,rfl,.inl ⟨hp,hq⟩,f.len,h,f.at'⟩
theorem ZeO{H:Hp}{n:Nat}{p q:Addr}{xs ys:List V}(hp:H p=some (.tup xs))(hq:H q=some (.tup ys))(h:xs.length≤1000)(f:F2 (IsD H n) xs ys):IsD H (n+1) (.ref p) (.ref q):=.inr ⟨p,q,xs,ys,rfl,rfl,.inr ⟨hp,hq⟩,f.len,h,f.at'⟩
theorem ZcC(rd:Addr)(nb li lo:Int)(sd:Addr)(best:V):(mgF rd nb li lo sd best).lookup ("likenings" : Str)=none:=Zbu _ _ _ _ _ _ (by ac_rfl) (by ac_rfl) (by ac_rfl) (by ac_rfl) (by ac_rfl) (by ac_rfl)
theorem ZeG(rd:Addr)(nb li lo:Int)(sd:Addr)(best:V):(mgF rd nb li lo sd best).lookup ("looks" : Str)=none:=Zbu _ _ _ _ _ _ (by ac_rfl) (by ac_rfl) (by ac_rfl) (by ac_rfl) (by ac_rfl) (by ac_rfl)
theorem Zg5(rd:Addr)(nb li lo:Int)(sd:Addr)(best:V):(mgF rd nb li lo sd best).lookup ("coming" : Str)=none:=Zbu _ _ _ _ _ _ (by ac_rfl) (by ac_rfl) (by ac_rfl) (by ac_rfl) (by ac_rfl) (by ac_rfl)
theorem Zhy(rd:Addr)(nb li lo:Int)(sd:Addr)(best:V):(mgF rd nb li lo sd best).lookup ("heads" : Str)=none:=Zbu _ _ _ _ _ _ (by ac_rfl) (by ac_rfl) (by ac_rfl) (by ac_rfl) (by ac_rfl) (by ac_rfl)
def ZbN(rs:List (Addr×List Str)):PyData:=.list (rs.map fun x=>.list (x.2.map PyData.str))
theorem Zfq:∀rs:List (Addr×List Str),(∀x∈rs,∀s∈x.2,AZ s)→PyData.canLayAll0 (rs.map fun x=>PyData.list (x.2.map PyData.str))=true∧PyData.depthAll (rs.map fun x=>PyData.list (x.2.map PyData.str))≤1
 | [],_=>⟨rfl,by simp[PyData.depthAll]⟩
 | x::r,h=>by
  obtain⟨a,b⟩:=Zfq r fun y hy=>h y (Ql _ hy)
  have hz:=Ze4 x.2 (h x (by simp))
  refine⟨by simp[PyData.canLayAll0,PyData.canLay0,hz,a],?_⟩
  rw[Qi]
  simp only[PyData.depthAll,PyData.depth,Zds]
  omega
theorem ZeH(rs:List (Addr×List Str))(h:∀x∈rs,∀s∈x.2,AZ s):SeqAt.shaped (ZbN rs)=true:=by
 obtain⟨a,b⟩:=Zfq rs h
 have h1:PyData.canLay0 (ZbN rs)=true:=by unfold ZbN;simp only[PyData.canLay0,a]
 have h2:PyData.depth (ZbN rs)≤64:=by unfold ZbN;simp only[PyData.depth];omega
 unfold SeqAt.shaped
 rw[h1,decide_eq_true h2];rfl
theorem ZlL(rs:List (Addr×List Str))(h:∀x∈rs,∀s∈x.2,AZ s):PyData.eqv (ZbN rs) (ZbN rs)=true:=SeqAt.eqv_refl _ (by unfold ZbN;simp only[PyData.canLay0,(Zfq rs h).1])
theorem dv_rows'{K:PySem.W.Frag}{H:Hp}:∀rs:List (Addr×List Str),(∀x∈rs,H x.1=some (.lst (x.2.map V.str)))→DVs K H (rs.map fun x=>V.ref x.1) (rs.map fun x=>PyData.list (x.2.map PyData.str))
 | [],_=>.nil
 | x::r,h=>.cons (.lst (SqL.of (h x (by simp))) (Zhc _)) (dv_rows' r fun y hy=>h y (Ql _ hy))
theorem Zjd{K:PySem.W.Frag}{H:Hp}{r:Addr}{rs:List (Addr×List Str)}(h:Za1 H r rs):DV K H (.ref r) (ZbN rs):=.lst (SqL.of h.at') (dv_rows' rs fun x hx=>(h.lst x hx).1)
theorem ZlY{rs hs:List (Addr×List Str)}(e:rs.map (·.2)=hs.map (·.2)):ZbN rs=ZbN hs:=by
 unfold ZbN
 have:=congrArg (List.map fun y:List Str=>PyData.list (y.map PyData.str)) e
 rw[Qy,Qy]at this
 exact congrArg PyData.list this
def ZR(M:List Int)(n:Int):List Int:=if n∈lo M then lo M else up M
def Zad(M:List Int)(n:Int):List Int:=if n∈lo M then up M else lo M
def ZJ:Nat→List Int→Int→List (List Int)
 | 0,_,_=>[]
 | k+1,M,n=>if 2≤M.length then ZJ k (ZR M n) n++[M] else []
inductive Sub (N:List Int):List Int→Prop
 | top:Sub N N
 | lo {M:List Int}:Sub N M→2≤M.length→Sub N (lo M)
 | up {M:List Int}:Sub N M→2≤M.length→Sub N (up M)
theorem Sub.trans{A B C:List Int}(h:Sub A B)(k:Sub B C):Sub A C:=by
 induction k with
 | top=>exact h
 | lo _ h2 ih=>exact ih.lo h2
 | up _ h2 ih=>exact ih.up h2
theorem Sub.rise{N M:List Int}(h:Sub N M)(r:ZV N):ZV M:=by
 induction h with
 | top=>exact r
 | lo _ _ ih=>exact Zdd ih
 | up _ _ ih=>exact Zdf ih
theorem Sub.mem{N M:List Int}(h:Sub N M){x:Int}(hx:x∈M):x∈N:=by
 induction h with
 | top=>exact hx
 | lo _ _ ih=>exact ih (Q0 hx)
 | up _ _ ih=>exact ih (QZ hx)
theorem ZfF{M:List Int}(h:2≤M.length)(n:Int):Sub M (ZR M n):=by
 unfold ZR
 split
 ·exact Sub.top.lo h
 ·exact Sub.top.up h
theorem Zca{M:List Int}{n:Int}(h:n∈M):n∈ZR M n:=by
 unfold ZR
 split
 ·assumption
 ·rename_i hn
  rw[← Za7 M]at h
  exact(Qm.mp h).resolve_left hn
theorem Zd2{M:List Int}(r:ZV M){n:Int}(hn:n∈ZR M n):n ∉ Zad M n:=by
 intro h
 unfold Zad ZR at *
 split at h
 ·rename_i hl
  have:=ZE r hl h
  omega
 ·rename_i hl;exact hl h
theorem Zc9(M:List Int)(n:Int):(ZR M n++Zad M n).Perm M:=by
 unfold ZR Zad
 split
 ·rw[Za7]
 ·exact List.perm_append_comm.trans (by rw[Za7])
def Kys(M:List Int)(k:Int×Int):Prop:=∃M',Sub M M'∧2≤M'.length∧k=ZK M'
theorem Zha{M:List Int}{k:Int×Int}(h:Kys M k):k.1∈M∧k.2∈M:=by
 obtain⟨M',s,h2,rfl⟩:=h
 have hn:M'≠[]:=Z8 (by omega)
 exact⟨s.mem (ZbF hn),s.mem (ZbD hn)⟩
theorem Zl6{M:List Int}(r:ZV M)(h2:2≤M.length){k:Int×Int}(h:Kys (lo M) k):k≠ZK M∧¬ Kys (up M) k:=by
 have:=Zha h
 refine⟨fun z=>?_,fun m=>?_⟩
 ·have h1:=Zel h2
  rw[z,h1]at this
  have:=ZE r this.2 (ZbD (Z8 (ZbT h2).2))
  omega
 ·have:=ZE r this.1 (Zha m).1
  omega
theorem ZlG{M:List Int}(r:ZV M)(h2:2≤M.length){k:Int×Int}(h:Kys (up M) k):k≠ZK M∧¬ Kys (lo M) k:=by
 have:=Zha h
 refine⟨fun z=>?_,fun m=>?_⟩
 ·have h1:=Zew h2
  rw[z,h1]at this
  have:=ZE r (ZbF (Z8 (ZbH h2).2)) this.1
  omega
 ·have:=ZE r (Zha m).1 this.1
  omega
theorem Zh3{M:List Int}(r:ZV M)(h2:2≤M.length){n:Int}{k:Int×Int}(h:Kys (ZR M n) k):k≠ZK M∧¬ Kys (Zad M n) k:=by
 unfold ZR at h
 unfold Zad
 split
 ·rename_i hl;rw[if_pos hl]at h;exact Zl6 r h2 h
 ·rename_i hl;rw[if_neg hl]at h;exact ZlG r h2 h
theorem Zh8{M:List Int}(r:ZV M)(h2:2≤M.length){n:Int}{k:Int×Int}(h:Kys (Zad M n) k):k≠ZK M∧¬ Kys (ZR M n) k:=by
 unfold Zad at h
 unfold ZR
 split
 ·rename_i hl;rw[if_pos hl]at h;exact ZlG r h2 h
 ·rename_i hl;rw[if_neg hl]at h;exact Zl6 r h2 h
theorem Zep{M M':List Int}(h:Sub M M'):M'=M∨(2≤M.length∧(Sub (lo M) M'∨Sub (up M) M')):=by
 induction h with
 | top=>exact .inl rfl
 | lo h h2 ih =>
  rcases ih with rfl|⟨g,ih⟩
  ·exact .inr ⟨h2,.inl .top⟩
  ·exact .inr ⟨g,ih.imp (fun z=>z.lo h2) (fun z=>z.lo h2)⟩
 | up h h2 ih =>
  rcases ih with rfl|⟨g,ih⟩
  ·exact .inr ⟨h2,.inr .top⟩
  ·exact .inr ⟨g,ih.imp (fun z=>z.up h2) (fun z=>z.up h2)⟩
theorem Zls{M M':List Int}(n:Int)(h:Sub M M'):M'=M∨(2≤M.length∧(Sub (ZR M n) M'∨Sub (Zad M n) M')):=by
 rcases Zep h with h|⟨g,h⟩
 ·exact .inl h
 ·refine .inr ⟨g,?_⟩
  unfold ZR Zad
  split
  ·exact h
  ·exact h.symm
def Zdo(hd:Hd)(s:StL)(A B:List Int)(k:Int×Int):Prop :=
 (∀a b x y,Win hd A (some a)→Win hd B (some b)→hd a=some x→hd b=some y→∃t lz,ZO s k=some (some (t,lz,((lcp x y:Nat):Int)))∧((Btr x a y b∧lz=b)∨(Btr y b x a∧lz=a))) ∧
 ((Win hd A none∨Win hd B none)→ZO s k=none∨ZO s k=some none)
theorem Zdo.swap{hd:Hd}{s:StL}{A B:List Int}{k:Int×Int}(h:Zdo hd s A B k):Zdo hd s B A k:=by
 refine⟨fun a b x y wa wb hx hy=>?_,fun hw=>h.2 hw.symm⟩
 obtain⟨t,lz,e,o⟩:=h.1 b a y x wb wa hy hx
 exact⟨t,lz,by rw[ZaL x y];exact e,o.symm⟩
def Z4(hd:Hd)(s:StL)(N:List Int):Prop:=∀M,Sub N M→2≤M.length→Zdo hd s (lo M) (up M) (ZK M)
theorem Z4.sub{hd:Hd}{s:StL}{N M:List Int}(h:Z4 hd s N)(k:Sub N M):Z4 hd s M:=fun M' h' h2=>h M' (k.trans h') h2
theorem Z4.at_side{hd:Hd}{s:StL}{M:List Int}(h:Z4 hd s M)(h2:2≤M.length)(n:Int):Zdo hd s (ZR M n) (Zad M n) (ZK M):=by
 have:=h M .top h2
 unfold ZR Zad
 split
 ·exact this
 ·exact this.swap
theorem ZdV:∀ (n:Nat) (hd:Hd) (s:StL) (N:List Int),ZV N→N.length≤2 ^ (n-1)→0<n→Zee hd s n N→Z4 hd s N
 | 0,_,_,_,_,_,h,_=>absurd h (by omega)
 | n+1,hd,s,N,r,hl,_,h=>fun M hM h2=>by
  rw[Qas]at hl
  rcases Zep hM with rfl|⟨g,hM⟩
  ·obtain⟨_,_,c1,c2⟩:=h h2
   refine⟨fun a b x y wa wb hx hy=>?_,c2⟩
   obtain⟨t,e⟩:=c1 a b x y wa wb hx hy
   have hab:=ZE r wa.1 wb.1
   by_cases hb:ZG x y<0∨(ZG x y=0∧a<b)
   ·rw[if_pos hb]at e;exact⟨t,b,e,.inl ⟨hb,rfl⟩⟩
   ·rw[if_neg hb]at e;exact⟨t,a,e,.inr ⟨(Btr.total (show a≠b by omega)).resolve_left hb,rfl⟩⟩
  ·obtain⟨h1,h3,_⟩:=h g
   have hn:1≤n:=by
    cases n with
    | zero=>simp at hl;omega
    | succ m=>omega
   have hp:2 ^ n=2*2 ^ (n-1):=by
    obtain⟨m,rfl⟩:∃m,n=m+1:=⟨n-1,by omega⟩
    rw[Nat.pow_succ,Qas];omega
   rcases hM with hM|hM
   ·exact ZdV n hd s (lo N) (Zdd r) (by unfold lo mid;rw[Qq];omega) hn h1 M hM h2
   ·exact ZdV n hd s (up N) (Zdf r) (by unfold up mid;rw[QI];omega) hn h3 M hM h2
theorem Zdo.congr{hd hd':Hd}{s s':StL}{A B:List Int}{k:Int×Int}(h:Zdo hd s A B k)(ha:∀m∈A,hd' m=hd m)(hb:∀m∈B,hd' m=hd m)(hk:ZO s' k=ZO s k):Zdo hd' s' A B k:=by
 refine⟨fun a b x y wa wb hx hy=>?_,fun hw=>?_⟩
 ·rw[hk]
  exact h.1 a b x y (wa.congr fun m hm=>(ha m hm).symm) (wb.congr fun m hm=>(hb m hm).symm) (by rw[← ha a wa.1];exact hx) (by rw[← hb b wb.1];exact hy)
 ·rw[hk]
  exact h.2 (hw.imp (fun w=>w.congr fun m hm=>(ha m hm).symm) (fun w=>w.congr fun m hm=>(hb m hm).symm))
theorem Z4.congr{hd hd':Hd}{s s':StL}{M:List Int}(h:Z4 hd s M)(hh:∀m∈M,hd' m=hd m)(hk:∀k,Kys M k→ZO s' k=ZO s k):Z4 hd' s' M:=fun M' hM h2 =>
 (h M' hM h2).congr (fun m hm=>hh m (hM.mem (Q0 hm))) (fun m hm=>hh m (hM.mem (QZ hm))) (hk _ ⟨M',hM,h2,rfl⟩)
theorem ZjX{hd:Hd}{s:StL}{M:List Int}{n:Int}(h1:Z4 hd s (ZR M n))(h3:Z4 hd s (Zad M n))(h:Zdo hd s (ZR M n) (Zad M n) (ZK M)):Z4 hd s M:=fun M' hM h2=>by
 rcases Zls n hM with rfl|⟨g,hM|hM⟩
 ·unfold ZR Zad at h
  split at h
  ·exact h
  ·exact h.swap
 ·exact h1 M' hM h2
 ·exact h3 M' hM h2
def low(n:Int)(C:List (List Int)):Nat→List Int
 | 0=>[n]
 | i+1=>C.getD i []
theorem Zfo:∀ (k:Nat) (M:List Int) (n:Int),n∈M→M.length≤2 ^ k→(∀i X,(ZJ k M n)[i]? = some X→Sub M X∧2≤X.length∧n∈X∧ZR X n=low n (ZJ k M n) i)∧low n (ZJ k M n) (ZJ k M n).length=M∧(ZJ k M n).length≤k
 | 0,M,n,hn,hl=>by
  refine⟨fun i X h=>by unfold ZJ at h;simp at h,?_,Qg _⟩
  have h1:M.length=1:=by
   have:=Qau hn
   simp at hl;omega
  obtain⟨x,rfl⟩:=Qat.mp h1
  have:n=x:=by simpa using hn
  rw[this];rfl
 | k+1,M,n,hn,hl=>by
  unfold ZJ
  by_cases h2:2≤M.length
  ·rw[if_pos h2]
   have hs:(ZR M n).length≤2 ^ k:=by
    rw[Nat.pow_succ]at hl
    unfold ZR
    split
    ·unfold lo mid;rw[Qq];omega
    ·unfold up mid;rw[QI];omega
   obtain⟨a,b,c⟩:=Zfo k (ZR M n) n (Zca hn) hs
   refine⟨fun i X h=>?_,?_,by rw[Qd,QD];omega⟩
   ·have lw:∀j,j≤(ZJ k (ZR M n) n).length→low n (ZJ k (ZR M n) n++[M]) j=low n (ZJ k (ZR M n) n) j:=fun j hj=>by
     cases j with
     | zero=>rfl
     | succ j =>
      show (ZJ k (ZR M n) n++[M]).getD j []=(ZJ k (ZR M n) n).getD j []
      rw[QF,QF,Q5 (by omega)]
    by_cases hi:i<(ZJ k (ZR M n) n).length
    ·rw[Q5 hi]at h
     obtain⟨g1,g2,g3,g4⟩:=a i X h
     exact⟨(ZfF h2 n).trans g1,g2,g3,by rw[lw i (by omega)];exact g4⟩
    ·have hi':i=(ZJ k (ZR M n) n).length:=by
      have:=(Qe.mp h).1
      rw[Qd,QD]at this
      omega
     subst hi'
     rw[QR (Qg _),Nat.sub_self]at h
     cases h
     exact⟨.top,h2,hn,by rw[lw _ (Qg _),b]⟩
   ·rw[Qd,QD]
    show (ZJ k (ZR M n) n++[M]).getD _ []=M
    rw[QF,QR (Qg _),Nat.sub_self];rfl
  ·rw[if_neg h2]
   refine⟨fun i X h=>by simp at h,?_,Qp _⟩
   have h1:M.length=1:=by have:=Qau hn;omega
   obtain⟨x,rfl⟩:=Qat.mp h1
   have:n=x:=by simpa using hn
   rw[this];rfl
structure Tk (hd hd':Hd) (N:List Int) (n:Int) (z:List Nat):Prop where
 win:Win hd N (some n)
 key:hd n=some z
 oth:∀b,b≠n→hd' b=hd b
 nxt:∀x,hd' n=some x→ZG z x≤0
 up:ZV N
theorem Tk.ge{hd hd':Hd}{N:List Int}{n:Int}{z:List Nat}(h:Tk hd hd' N n z){b:Int}(hb:b∈N){y:List Nat}(hy:hd' b=some y):ZG z y≤0:=by
 by_cases e:b=n
 ·exact h.nxt y (by rw[← e];exact hy)
 ·obtain⟨_,x,hx,hw⟩:=h.win
  rw[h.key]at hx
  cases hx
  rw[h.oth b e]at hy
  rcases hw b hb y hy with z|z
  ·exact absurd z e
  ·rcases z with z|z<;>omega
inductive Ag (hd:Hd) (z:List Nat):List (List Int×List Int)→Int→Int→Prop
 | nil:Ag hd z [] 0 0
 | no {C:List (List Int×List Int)} {A B:List Int} {k q:Int}:Ag hd z C k q→(Win hd A none∨Win hd B none)→Ag hd z (C++[(A,B)]) k q
 | eq {C:List (List Int×List Int)} {A B:List Int} {k q:Int} {a b:Int} {x y:List Nat}:Ag hd z C k q→Win hd A (some a)→Win hd B (some b)→hd a=some x→hd b=some y→lcp x z=lcp y z→Ag hd z (C++[(A,B)]) (k+1) (q+((lcp x y:Nat)-(lcp x z:Nat)+1))
 | ne {C:List (List Int×List Int)} {A B:List Int} {k q:Int} {a b:Int} {x y:List Nat}:Ag hd z C k q→Win hd A (some a)→Win hd B (some b)→hd a=some x→hd b=some y→lcp x z≠lcp y z→Ag hd z (C++[(A,B)]) (k+1) q
theorem ZdX{α:Type}{C D:List α}{c d:α}(h:C++[c]=D++[d]):C=D∧c=d:=by
 have:=List.append_inj' h rfl
 exact⟨this.1,by simpa using this.2⟩
theorem Ag.last{hd:Hd}{z:List Nat}{D:List (List Int×List Int)}{k q:Int}(h:Ag hd z D k q):∀ {C:List (List Int×List Int)} {A B:List Int},D=C++[(A,B)]→∃k0 q0,Ag hd z C k0 q0∧(((Win hd A none∨Win hd B none)∧k=k0∧q=q0)∨(∃a b x y,Win hd A (some a)∧Win hd B (some b)∧hd a=some x∧hd b=some y∧k=k0+1∧q=if lcp x z=lcp y z then q0+((lcp x y:Nat)-(lcp x z:Nat)+1) else q0)):=by
 intro C A B e
 cases h with
 | nil=>simp at e
 | no g hw=>obtain⟨rfl,e2⟩:=ZdX e;cases e2;exact⟨_,_,g,.inl ⟨hw,rfl,rfl⟩⟩
 | eq g wa wb hx hy he=>obtain⟨rfl,e2⟩:=ZdX e;cases e2;exact⟨_,_,g,.inr ⟨_,_,_,_,wa,wb,hx,hy,rfl,by rw[if_pos he]⟩⟩
 | ne g wa wb hx hy he=>obtain⟨rfl,e2⟩:=ZdX e;cases e2;exact⟨_,_,g,.inr ⟨_,_,_,_,wa,wb,hx,hy,rfl,by rw[if_neg he]⟩⟩
theorem Ag.one{hd:Hd}{z:List Nat}{C:List (List Int×List Int)}{k q:Int}(h:Ag hd z C k q):∀ {k' q':Int},Ag hd z C k' q'→k=k'∧q=q':=by
 induction h with
 | nil =>
  intro k' q' g
  generalize hC:([]:List (List Int×List Int))=C at g
  cases g with
  | nil=>exact⟨rfl,rfl⟩
  | no _ _=>simp at hC
  | eq _ _ _ _ _ _=>simp at hC
  | ne _ _ _ _ _ _=>simp at hC
 | no g hw ih =>
  intro k' q' g'
  obtain⟨k0,q0,g0,o⟩:=g'.last rfl
  obtain⟨e1,e2⟩:=ih g0
  rcases o with⟨_,rfl,rfl⟩|⟨a,b,x,y,wa,wb,_⟩
  ·exact⟨e1,e2⟩
  ·rcases hw with hw|hw
   ·exact nomatch hw.one wa
   ·exact nomatch hw.one wb
 | eq g wa wb hx hy he ih =>
  intro k' q' g'
  obtain⟨k0,q0,g0,o⟩:=g'.last rfl
  obtain⟨e1,e2⟩:=ih g0
  rcases o with⟨hw,_⟩|⟨a,b,x,y,wa',wb',hx',hy',rfl,rfl⟩
  ·rcases hw with hw|hw
   ·exact nomatch hw.one wa
   ·exact nomatch hw.one wb
  ·have ea:=Qj (wa.one wa')
   have eb:=Qj (wb.one wb')
   subst ea;subst eb
   rw[hx]at hx';cases hx'
   rw[hy]at hy';cases hy'
   rw[if_pos he]
   exact⟨by rw[e1],by rw[e2]⟩
 | ne g wa wb hx hy he ih =>
  intro k' q' g'
  obtain⟨k0,q0,g0,o⟩:=g'.last rfl
  obtain⟨e1,e2⟩:=ih g0
  rcases o with⟨hw,_⟩|⟨a,b,x,y,wa',wb',hx',hy',rfl,rfl⟩
  ·rcases hw with hw|hw
   ·exact nomatch hw.one wa
   ·exact nomatch hw.one wb
  ·have ea:=Qj (wa.one wa')
   have eb:=Qj (wb.one wb')
   subst ea;subst eb
   rw[hx]at hx';cases hx'
   rw[hy]at hy';cases hy'
   rw[if_neg he]
   exact⟨by rw[e1],e2⟩
theorem Zje:∀ (x z y:List Nat),lcp z y<lcp x z→ZG x y=ZG z y
 | [],z,y,h=>by rw[lcp_nil']at h;omega
 | _::_,[],y,h=>by rw[Zde]at h;omega
 | a::x,b::z,[],h=>by unfold ZG;rfl
 | a::x,b::z,c::y,h=>by
  unfold lcp at h
  by_cases e:a=b
  ·subst e
   rw[if_pos rfl]at h
   by_cases e2:a=c
   ·subst e2
    rw[if_pos rfl]at h
    unfold ZG
    rw[if_pos rfl,if_pos rfl]
    exact Zje x z y (by omega)
   ·unfold ZG
    rw[if_neg e2,if_neg e2]
  ·rw[if_neg e]at h;omega
theorem Zm4{x z y:List Nat}(h:lcp z y<lcp x z):lcp x y=lcp z y:=by
 have:=Zej x y z
 rw[ZaL y z]at this
 omega
theorem ZoH{x z y:List Nat}(h:lcp x z=lcp y z):lcp x z≤lcp x y:=by
 have:=Zej x y z
 omega
theorem ZdW{x z y:List Nat}{a b:Int}(h:lcp y z<lcp x z)(hz:ZG z y≤0):Btr x a y b∧lcp x y=lcp y z:=by
 rw[ZaL y z]at h ⊢
 refine⟨.inl ?_,Zm4 h⟩
 rw[Zje x z y h]
 rcases Int.lt_or_eq_of_le hz with g|g
 ·exact g
 ·have e:=Zer _ _ g
  subst e
  rw[ZhK]at h
  have:=(ZcM x z).2
  omega
abbrev Com:=Option (Int×Int)
def ZhN(hd:Hd)(z:List Nat)(M:List Int)(c:Com):Prop:=Win hd M (c.map (·.1))∧∀p,c=some p→∃x,hd p.1=some x∧p.2=((lcp x z:Nat):Int)
theorem ZlK{hd hd':Hd}{N M:List Int}{n:Int}{z:List Nat}{s:StL}(T:Tk hd hd' N n z)(hM:Sub N M)(h2:2≤M.length)(hn:n∈M)(ok:Z4 hd s N) :
  (Win hd' (Zad M n) none∧(ZO s (ZK M)=none∨ZO s (ZK M)=some none))∨∃t b y,Win hd' (Zad M n) (some b)∧hd' b=some y∧b∈N∧ZO s (ZK M)=some (some (t,b,((lcp y z:Nat):Int))):=by
 have r:=hM.rise T.up
 have nd:=Z6 r
 have hno:=Zd2 r (Zca hn)
 have nS:=(ok.sub hM).at_side h2 n
 have hoN:∀b∈Zad M n,b∈M:=fun b hb=>(Zc9 M n).mem_iff.mp (Qf _ hb)
 have hsN:∀b∈ZR M n,b∈M:=fun b hb=>(Zc9 M n).mem_iff.mp (Qv _ hb)
 have wS:Win hd (ZR M n) (some n):=by
  obtain⟨_,x,hx,hw⟩:=T.win
  exact⟨Zca hn,x,hx,fun b hb y hy=>hw b (hM.mem (hsN b hb)) y hy⟩
 have cO:∀m∈Zad M n,hd' m=hd m:=fun m hm=>T.oth m fun e=>hno (e ▸ hm)
 have ndO:(Zad M n).Nodup:=by unfold Zad;split;exact Z6 (Zdf r);exact Z6 (Zdd r)
 obtain⟨w,hw⟩:=Win.ex hd (Zad M n) ndO
 cases w with
 | none=>exact .inl ⟨hw.congr cO,nS.2 (.inr hw)⟩
 | some b =>
  obtain⟨y,hy⟩:∃y,hd b=some y:=by obtain⟨_,y,hy,_⟩:=hw;exact⟨y,hy⟩
  obtain⟨t,lz,e,o⟩:=nS.1 n b z y wS hw T.key hy
  have hbM:=hoN b hw.1
  have hbn:b≠n:=fun z=>hno (z ▸ hw.1)
  have hB:Btr z n y b:=by
   obtain⟨_,x,hx,hww⟩:=T.win
   rw[T.key]at hx;cases hx
   exact(hww b (hM.mem hbM) y hy).resolve_left hbn
  have el:lz=b:=by
   rcases o with⟨_,e⟩|⟨e,_⟩
   ·exact e
   ·exact(hB.asym e).elim
  subst el
  exact .inr ⟨t,lz,y,hw.congr cO,by rw[cO lz hw.1];exact hy,hM.mem hbM,by rw[ZaL y z];exact e⟩
theorem ZgI(ns:List Int):(Zdl ns).length=(ns.length+1) / 2:=by unfold Zdl mid;rw[Qq];omega
theorem Zgz(ns:List Int):(ZfM ns).length=ns.length / 2:=by unfold ZfM mid;rw[QI];omega
def ZfQ:Nat→List Int→Int→List (List Int)
 | 0,_,_=>[]
 | f+1,ns,n=>if ns.length≤1 then [] else if n∈Zdl ns then ZfM ns::ZfQ f (Zdl ns) n else Zdl ns::ZfQ f (ZfM ns) n
def Za8(ns:List Int)(n:Int):List Int:=if n∈Zdl ns then Zdl ns else ZfM ns
def Zco(ns:List Int)(n:Int):List Int:=if n∈Zdl ns then ZfM ns else Zdl ns
theorem ZcQ{ns:List Int}{n:Int}(h:1<ns.length):(Za8 ns n).length<ns.length:=by
 unfold Za8
 split
 ·rw[ZgI];omega
 ·rw[Zgz];omega
theorem Zlv{ns:List Int}{n:Int}(h:1<ns.length):0<(Za8 ns n).length:=by
 unfold Za8
 split
 ·rw[ZgI];omega
 ·rw[Zgz];omega
theorem Zet{f:Nat}{ns:List Int}{n:Int}(h:1<ns.length):ZfQ (f+1) ns n=Zco ns n::ZfQ f (Za8 ns n) n:=by
 conv=>lhs;unfold ZfQ
 rw[if_neg (by omega)]
 unfold Zco Za8
 split<;>rfl
theorem ZbL{f:Nat}{ns:List Int}{n:Int}(h:ns.length≤1):ZfQ f ns n=[]:=by
 cases f with
 | zero=>rfl
 | succ f=>unfold ZfQ;rw[if_pos h]
theorem Zgn:∀ (f g:Nat) (ns:List Int) (n:Int),ns.length≤f+1→ns.length≤g+1→ZfQ f ns n=ZfQ g ns n
 | 0,g,ns,n,h,_=>by rw[ZbL (by omega),ZbL (by omega)]
 | f+1,0,ns,n,_,h=>by rw[ZbL (by omega),ZbL (by omega)]
 | f+1,g+1,ns,n,h1,h2=>by
  by_cases h:1<ns.length
  ·have:=ZcQ (n:=n) h
   rw[Zet h,Zet h,Zgn f g _ n (by omega) (by omega)]
  ·rw[ZbL (by omega),ZbL (by omega)]
def way(ns:List Int)(n:Int):List (List Int):=ZfQ ns.length ns n
theorem ZfE{ns:List Int}{n:Int}(h:1<ns.length):way ns n=Zco ns n::way (Za8 ns n) n:=by
 unfold way
 cases e:ns.length with
 | zero=>omega
 | succ f =>
  have:=ZcQ (n:=n) h
  rw[Zet h,Zgn f (Za8 ns n).length _ n (by omega) (by omega)]
theorem ZdU{ns:List Int}{n:Int}(h:ns.length≤1):way ns n=[]:=ZbL h
theorem Zjl(n:Int):∀ns:List Int,inV (.int n) (ns.map V.int)=decide (n∈ns)
 | []=>rfl
 | m::r=>by
  have ih:=Zjl n r
  unfold inV at ih ⊢
  rw[Qi,QaR,ih]
  by_cases h:m=n
  ·subst h;simp[eqV]
  ·have:(m == n)=false:=by simpa using h
   simp[eqV,this,List.mem_cons,Ne.symm h]
theorem Zf0:∀ns:List Int,(ns.map V.int).all Zd5=true
 | []=>rfl
 | _::r=>by rw[Qi,List.all_cons,Zf0 r];rfl
def Rd(H:Hp):List Addr→List (List Int)→Prop
 | [],[]=>True
 | l::ls,d::ds=>H l=some (.lst (d.map V.int))∧Rd H ls ds
 | _,_=>False
theorem Rd.len{H:Hp}:∀ {ls:List Addr} {ds:List (List Int)},Rd H ls ds→ls.length=ds.length
 | [],[],_=>rfl
 | [],_::_,h=>h.elim
 | _::_,[],h=>h.elim
 | _::ls,_::ds,h=>by rw[QC,QC,Rd.len h.2]
theorem Rd.mono{H H':Hp}:∀ {ls:List Addr} {ds:List (List Int)},(∀l∈ls,∀o,H l=some o→H' l=some o)→Rd H ls ds→Rd H' ls ds
 | [],[],_,_=>trivial
 | [],_::_,_,h=>h.elim
 | _::_,[],_,h=>h.elim
 | l::ls,_::ds,k,h=>⟨k l (by simp) _ h.1,Rd.mono (fun x hx=>k x (Ql _ hx)) h.2⟩
theorem Rd.app{H:Hp}:∀ {ls:List Addr} {ds:List (List Int)} {ms:List Addr} {es:List (List Int)},Rd H ls ds→Rd H ms es→Rd H (ls++ms) (ds++es)
 | [],[],_,_,_,h=>h
 | [],_::_,_,_,h,_=>h.elim
 | _::_,[],_,_,h,_=>h.elim
 | _::ls,_::ds,_,_,h,g=>⟨h.1,Rd.app h.2 g⟩
theorem Rd.rev{H:Hp}:∀ {ls:List Addr} {ds:List (List Int)},Rd H ls ds→Rd H ls.reverse ds.reverse
 | [],[],h=>h
 | [],_::_,h=>h.elim
 | _::_,[],h=>h.elim
 | l::ls,d::ds,h=>by
  rw[QaA,QaA]
  exact Rd.app (Rd.rev h.2) ⟨h.1,trivial⟩
def Zlo:Sp:=fun vs H Q _=>∃ (a:Addr) (ns:List Int) (n:Int),vs=[.ref a,.int n]∧H a=some (.lst (ns.map V.int))∧1≤ns.length∧ns.length≤100 ∧
 ∀ (r:Addr) (ls:List Addr) (H':Hp),H r=none→H' r=some (.lst (ls.map V.ref))→r ∉ ls→(∀l∈ls,H l=none)→Rd H' ls (way ns n).reverse→ZH H H'→Q (.ref r) H'
def Dn(H:Hp)(a o:Addr)(ns:List Int)(n:Int)(b:Addr)(cur:List Int)(ls:List Addr)(H2:Hp):Prop :=
 ∃done:List (List Int),H2 b=some (.lst (cur.map V.int))∧b≠o∧1≤cur.length∧cur.length≤100∧way ns n=done++way cur n∧Rd H2 ls done∧H2 o=some (.lst (ls.map V.ref))∧ZH H H2∧(∀l∈ls,H l=none)∧o ∉ ls∧ls.length+cur.length≤100
theorem Dn.step{H:Hp}{a o:Addr}{ns:List Int}{n:Int}{b:Addr}{cur:List Int}{ls:List Addr}{H2 H3:Hp}(D:Dn H a o ns n b cur ls H2)(hO:H o=none)(h1:1<cur.length)(s:ZH H2 H3){x y:Addr}(hx:H3 x=some (.lst ((Za8 cur n).map V.int)))(hy:H3 y=some (.lst ((Zco cur n).map V.int)))(nx:H2 x=none)(ny:H2 y=none) :
  Dn H a o ns n x (Za8 cur n) (ls++[y]) (upd H3 o (.lst (ls.map V.ref++[.ref y]))):=by
 obtain⟨done,d1,d2,d3,d4,d5,d6,d7,d8,d9,d10,d11⟩:=D
 have xo:x≠o:=(Zb d7 nx).symm
 have yo:y≠o:=(Zb d7 ny).symm
 have sl:=ZcQ (n:=n) h1
 have k:∀l,l≠o→∀u,H3 l=some u→(upd H3 o (.lst (ls.map V.ref++[.ref y]))) l=some u:=fun l hl u hu=>by rw[Zc hl];exact hu
 refine⟨done++[Zco cur n],k x xo _ hx,xo,Zlv h1,by omega,by rw[d5,ZfE h1,QS];rfl,?_,?_,fun c u hu=>?_,?_,?_,?_⟩
 ·refine Rd.app (Rd.mono (fun l hl u hu=>k l (fun e=>d10 (e ▸ hl)) u (s _ _ hu)) d6) ⟨k y yo _ hy,trivial⟩
 ·rw[Zd,Qh];rfl
 ·rw[Zc (Zb hu hO)];exact s _ _ (d8 _ _ hu)
 ·intro l hl
  rcases Qm.mp hl with hl|hl
  ·exact d9 l hl
  ·rw[Qk.mp hl];exact d8.free ny
 ·intro hm
  rcases Qm.mp hm with hl|hl
  ·exact d10 hl
  ·exact yo (Qk.mp hl).symm
 ·rw[Qd,QD];omega
theorem ZnT(T:Zaq K mg cRow cMerge)(f_halves:Df P w K mg base 1 "halves" ["numbers"] (ZdJ K true)):Df P w K mg base 2 "way_up" ["numbers", "n"] Zlo:=by
 refine T.t_way_up.df Zbi (fun vs H Q E h=>?_) (fun cdv f A outer s H vs Q E hr h=>?_)
 ·obtain⟨a,ns,n,rfl,_⟩:=h
  rfl
 obtain⟨a,ns,n,rfl,hA,h1,h100,q⟩:=h
 refine⟨_,#[Zg,#[Zv,2,Zbi.nd,(Or.inl rfl),#[ZaN,#[Ze]]],#[Zg,#[Zv,3,Zbi.nd,(Or.inl rfl),‹0›],#[Zg,(@ZfC _ _ _ _ _ _ PassesOwn.never #[Zs,ZdK,#[Zk,(Zb5 K),(by rfl),T.b.n_len,Qt,#[Za,‹3›,#[Ze]]],#[Zh],(Zu _)] #[Zg,#[Zbt,#[ZB,f_halves,hr,#[Za,‹3›,#[Ze]],(by rfl)],#[gT,K,2,#[Zw,#[ZP,4,Zbi.nd,(Or.inl rfl)],#[Zw,#[ZP,5,Zbi.nd,(Or.inl rfl)],(@ZaT _)]]]],#[Zj,#[Zaw,#[Zs,(inQ K),‹1›,‹4›,(by with_unfolding_all rfl)],#[Zg,#[Za0,#[ZeD,QW,Q6,Q7,Za4,‹2›,#[Za,‹5›,#[Ze]]]],#[Zj,#[Zv,3,Zbi.nd,(Or.inl rfl),‹4›]]],#[Zg,#[Za0,#[ZeD,QW,Q6,Q7,Za4,‹2›,#[Za,‹4›,#[Ze]]]],#[Zj,#[Zv,3,Zbi.nd,(Or.inl rfl),‹5›]]]]]]),#[Zg,#[Za0,(@Zlb _ _ _ _ _ _ _ _ _ QW PySem.F.slot_list_reverse PySem.F.type_list_reverse Zin ‹2› (by rfl) (by rfl))],#[Zj,#[Zr,‹2›]]]]]],?_⟩
 refine⟨(by show 0≤sizeLine;decide),fun o hO=>?_⟩
 have nao:a≠o:=Zb hA hO
 refine⟨_,rfl,?_⟩
 refine⟨fun m σ H2=>∃ (b:Addr) (cur:List Int) (ls:List Addr) (v4 v5:Option V),σ=[some (.ref a),some (.int n),some (.ref o),some (.ref b),v4,v5]∧Dn H a o ns n b cur ls H2∧m=cur.length,⟨_,a,ns,[],none,none,rfl,⟨[],?_,nao,h1,h100,rfl,trivial,Zd,Zi hO _,(fun l hl=>by cases hl),(fun hm=>by cases hm),by simpa using h100⟩,rfl⟩,?_⟩
 ·rw[Zc nao];exact hA
 rintro m σ H2 ⟨b,cur,ls,v4,v5,rfl,D,rfl⟩
 obtain⟨done,d1,d2,d3,d4,d5,d6,d7,d8,d9,d10,d11⟩:=id D
 have hlc:(((cur.map V.int).length:Nat):Int)=(cur.length:Int):=by rw[Qa]
 refine⟨_,rfl,b,_,rfl,.inl (SqL.of d1),_,_,rfl,rfl,_,rfl,?_⟩
 refine Zbo (fun c1=>?_) (fun c1=>?_)
 ·have c1':(1:Int)<(((cur.map V.int).length:Nat):Int):=of_decide_eq_true c1
  have hc:1<cur.length:=by omega
  refine⟨_,fun σ' H' h=>h,?_⟩
  refine⟨_,rfl,b,cur,rfl,SqL.of d1,d4,fun t x y H3 ht hx hy nxy et ex ey s3 ntx nty=>?_⟩
  refine⟨t,_,rfl,SqT.of et,rfl,_,_,rfl,_,_,rfl,rfl,?_⟩
  have ho3:=s3 _ _ d7
  have hlt:(ls.map V.ref).length<sizeLine:=by rw[Qa];exact Z2 (by omega)
  have sl:=ZcQ (n:=n) hc
  refine⟨_,rfl,_,rfl,x,_,rfl,.inl (SqL.of ex),rfl,Zf0 _,_,rfl,?_⟩
  show if inV (V.int n) ((Zdl cur).map V.int)=true then _ else _
  rw[Zjl]
  refine Zbo (fun c2=>?_) (fun c2=>?_)
  ·have c2':n∈Zdl cur:=of_decide_eq_true c2
   have e1:Za8 cur n=Zdl cur:=by unfold Za8;rw[if_pos c2']
   have e2:Zco cur n=ZfM cur:=by unfold Zco;rw[if_pos c2']
   refine⟨_,rfl,.inl ⟨rfl,_,SqL.of ho3⟩,_,rfl,o,_,_,rfl,rfl,ho3,hlt,_,rfl,_,?_,x,Za8 cur n,ls++[y],_,_,rfl,D.step hO hc s3 (by rw[e1];exact ex) (by rw[e2];exact ey) hx hy,rfl⟩
   exact sl
  ·have c2':¬ n∈Zdl cur:=fun z=>c2 (decide_eq_true z)
   have e1:Za8 cur n=ZfM cur:=by unfold Za8;rw[if_neg c2']
   have e2:Zco cur n=Zdl cur:=by unfold Zco;rw[if_neg c2']
   refine⟨_,rfl,.inl ⟨rfl,_,SqL.of ho3⟩,_,rfl,o,_,_,rfl,rfl,ho3,hlt,_,rfl,_,?_,y,Za8 cur n,ls++[x],_,_,rfl,D.step hO hc s3 (by rw[e1];exact ey) (by rw[e2];exact ex) hy hx,rfl⟩
   exact sl
 ·have c1':¬ (1:Int)<(((cur.map V.int).length:Nat):Int):=fun z=>c1 (decide_eq_true z)
  have e:way ns n=done:=by rw[d5,ZdU (by omega),Qav]
  refine⟨_,rfl,.inl ⟨rfl,_,SqL.of d7⟩,o,_,rfl,rfl,d7,?_⟩
  refine⟨_,rfl,q o ls.reverse _ hO (by rw[Zd,List.map_reverse]) (fun hm=>d10 (List.mem_reverse.mp hm)) (fun l hl=>d9 l (List.mem_reverse.mp hl)) ?_ fun c u hu=>?_⟩
  ·rw[e]
   refine Rd.mono (fun l hl u hu=>?_) d6.rev
   rw[Zc (fun z=>by subst z;exact d10 (List.mem_reverse.mp hl))]
   exact hu
  ·rw[Zc (Zb hu hO)];exact d8 _ _ hu
theorem Zed:∀ (k:Nat) (M:List Int) (n:Int),M.length≤2 ^ k→(way M n).reverse=(ZJ k M n).map (fun X=>Zad X n)
 | 0,M,n,h=>by
  rw[ZdU (by simpa using h)];rfl
 | k+1,M,n,h=>by
  unfold ZJ
  by_cases h2:2≤M.length
  ·rw[if_pos h2,ZfE (by omega),QaA,Qh]
   have hs:(ZR M n).length≤2 ^ k:=by
    rw[Nat.pow_succ]at h
    unfold ZR
    split
    ·unfold lo mid;rw[Qq];omega
    ·unfold up mid;rw[QI];omega
   have e:=Zed k (ZR M n) n hs
   rw[← e];rfl
  ·rw[if_neg h2,ZdU (by omega)];rfl
theorem ZlI{M:List Int}(h:2≤M.length)(n:Int):Zad M n≠[]:=by
 unfold Zad
 split
 ·exact Z8 (ZbT h).2
 ·exact Z8 (ZbH h).2
theorem Zil{M:List Int}(r:ZV M)(h:2≤M.length)(n:Int):ZK M=(if (Zad M n).headD 0<(ZR M n).headD 0 then (Zad M n).headD 0 else (ZR M n).headD 0,if (Zad M n).getLastD 0>(ZR M n).getLastD 0 then (Zad M n).getLastD 0 else (ZR M n).getLastD 0):=by
 have a:=Zew h
 have b:=Zel h
 have l1:=ZbF (Z8 (ZbH h).2)
 have l2:=ZbD (Z8 (ZbH h).2)
 have u1:=ZbF (Z8 (ZbT h).2)
 have u2:=ZbD (Z8 (ZbT h).2)
 have c:=ZE r l1 u1
 have d:=ZE r l2 u2
 unfold ZR Zad
 split<;>(refine Prod.ext ?_ ?_<;>dsimp only<;>first|omega|(split<;>omega))
theorem Rd.get{H:Hp}:∀ {ls:List Addr} {ds:List (List Int)},Rd H ls ds→∀ {i:Nat} {l:Addr} {d:List Int},ls[i]? = some l→ds[i]? = some d→H l=some (.lst (d.map V.int))
 | [],[],_,i,l,d,h,_=>by simp at h
 | l::ls,d::ds,⟨h1,h2⟩,0,a,b,e1,e2=>by simp at e1 e2;rw[← e1,← e2];exact h1
 | l::ls,d::ds,⟨h1,h2⟩,i+1,a,b,e1,e2=>Rd.get h2 (by simpa using e1) (by simpa using e2)
def Zf4:Sp:=fun vs H Q _=>∃ (a:Addr) (N:List Int) (n:Int),vs=[.ref a,.int n]∧H a=some (.lst (N.map V.int))∧n∈N∧N.length≤60∧ZV N ∧
 ∀ (r:Addr) (ts:List Addr) (H':Hp),H r=none→H' r=some (.lst (ts.map V.ref))→ts.length=(ZJ 8 N n).length→(∀ (i:Nat) (t:Addr) (X:List Int),ts[i]? = some t→(ZJ 8 N n)[i]? = some X→H' t=some (.tup [.int (ZK X).1,.int (ZK X).2]))→ZH H H'→Q (.ref r) H'
theorem Zig(T:Zaq K mg cRow cMerge)(f_way_up:Df P w K mg base 2 "way_up" ["numbers", "n"] Zlo):Df P w K mg base 3 "matches_up" ["numbers", "n"] Zf4:=by
 refine T.t_matches_up.df Zas (fun vs H Q E h=>?_) (fun cdv f A outer s H vs Q E hr h=>?_)
 ·obtain⟨a,N,n,rfl,_⟩:=h
  rfl
 obtain⟨a,N,n,rfl,ha,hn,h60,hup,q⟩:=h
 refine⟨_,#[Zg,#[Zv,2,Zas.nd,(Or.inl rfl),#[ZaN,#[Ze]]],#[Zg,#[Zv,3,Zas.nd,(Or.inl rfl),‹1›],#[Zg,#[Zv,4,Zas.nd,(Or.inl rfl),‹1›],#[Zg,#[Zct,PassesOwn.never,#[iL,K,#[ZB,f_way_up,hr,#[Za,‹0›,#[Za,‹1›,#[Ze]]],(by rfl)]],#[ZP,5,Zas.nd,(Or.inl rfl)],#[Zg,#[Zv,3,Zas.nd,(Or.inl rfl),#[Zk,(Zkw rfl),(by rfl),T.b.n_min,boot_min,#[Za,‹3›,#[Za,#[ZF,(ixL K),‹5›,#[Zh]],#[Ze]]]]],#[Zg,#[Zv,4,Zas.nd,(Or.inl rfl),#[Zk,(Zeb rfl),(by rfl),T.b.n_max,boot_max,#[Za,‹4›,#[Za,#[ZF,(ixL K),‹5›,(@Zjx _ _ _ _ _ _ Zg2 #[Zh])],#[Ze]]]]],#[Zj,#[Za0,#[ZeD,QW,Q6,Q7,Za4,‹2›,#[Za,#[Zay,#[Za,‹3›,#[Za,‹4›,#[Ze]]]],#[Ze]]]]]]]],#[Zj,#[Zr,‹2›]]]]]],?_⟩
 have hpos:=Qau hn
 have hpw:N.length≤2 ^ 8:=QP h60 (by decide)
 obtain⟨cok,ctop,clen⟩:=Zfo 8 N n hn hpw
 refine⟨(by show 0≤sizeLine;decide),fun r hr0=>?_⟩
 have s1:=Zi hr0 (.lst [])
 have hr1:(upd H r (.lst [])) r=some (.lst []):=Zd
 generalize upd H r (.lst [])=H1 at s1 hr1 ⊢
 refine⟨_,rfl,_,rfl,_,rfl,_,rfl,a,N,n,rfl,s1 _ _ ha,hpos,by omega,fun wy ls H2 hwy hwy2 hnot hfr hrd s2=>?_⟩
 rw[Zed 8 N n hpw]at hrd
 have hll:=hrd.len
 rw[Qa]at hll
 have s02:=s1.trans s2
 refine⟨wy,rfl,⟨_,SqL.of hwy2⟩,?_⟩
 refine Zh7 (K:=K) (a:=wy) (xs:=ls.map V.ref) (fun i σ H3=>∃ (v5:Option V) (ts:List Addr),σ=[some (.ref a),some (.int n),some (.ref r),some (.int ((low n (ZJ 8 N n) i).headD 0)),some (.int ((low n (ZJ 8 N n) i).getLastD 0)),v5]∧i≤ls.length∧ts.length=i∧H3 r=some (.lst (ts.map V.ref))∧(∀ (j:Nat) (t:Addr) (X:List Int),ts[j]? = some t→(ZJ 8 N n)[j]? = some X→H3 t=some (.tup [.int (ZK X).1,.int (ZK X).2]))∧(∀t∈ts,t≠r∧∃xs,H3 t=some (.tup xs))∧(∀b o,H2 b=some o→b≠r→H3 b=some o)) ⟨_,[],rfl,Qp _,rfl,s2 _ _ hr1,(fun j t X h=>by simp at h),(fun t h=>by cases h),fun b o h _=>h⟩ (fun i σ H3 _ hq=>by obtain⟨_,_,_,_,_,_,_,_,k3⟩:=hq;exact SqL.of (k3 _ _ hwy2 (fun z=>by rw[z,hr1]at hwy;cases hwy))) ?_ ?_
 ·rintro i y σ H3 hy ⟨v5,ts,rfl,hi,htl,hr3,hts,htr,k3⟩
  rw[Qs]at hy
  cases hz:ls[i]? with
  | none=>rw[hz]at hy;cases hy
  | some l =>
  rw[hz]at hy
  cases hy
  have hil:i<ls.length:=(Qe.mp hz).1
  cases hX:(ZJ 8 N n)[i]? with
  | none=>rw[List.getElem?_eq_none_iff]at hX;omega
  | some X =>
  obtain⟨x1,x2,x3,x4⟩:=cok i X hX
  have hl2:H2 l=some (.lst ((Zad X n).map V.int)):=hrd.get hz (by rw[Qs,hX];rfl)
  have nlr:l≠r:=fun z=>by rw[z]at hl2;rw[s2 _ _ hr1]at hl2;have:=hfr l (Qw hz);rw[z,hr1]at this;cases this
  have hl3:=k3 _ _ hl2 nlr
  have hne:=ZlI x2 n
  have e2:=Zil (x1.rise hup) x2 n
  rw[x4]at e2
  have e3:low n (ZJ 8 N n) (i+1)=X:=by show (ZJ 8 N n).getD i []=X;rw[QF,hX];rfl
  refine⟨_,rfl,_,rfl,xw4 l _ _ _ ⟨rfl,rfl,SqL.of hl3,Zhz hne,_,_,rfl,?_⟩⟩
  refine⟨_,rfl,_,rfl,_,rfl,xw4 l _ _ _ ⟨rfl,rfl,SqL.of hl3,Zhg hne,_,_,rfl,?_⟩⟩
  refine⟨_,rfl,.inl ⟨rfl,_,SqL.of hr3⟩,_,rfl,_,rfl,(by show 2≤sizeLine;decide),fun t ht=>?_⟩
  have nrt:r≠t:=Zb hr3 ht
  refine⟨r,_,_,rfl,rfl,by rw[Zc nrt];exact hr3,(by rw[Qa];exact Z2 (by omega)),?_⟩
  refine⟨some (.ref l),ts++[t],?_,hil,by rw[Qd,QD];omega,by rw[Zd,Qh];rfl,fun j u Y hu hY=>?_,fun u hu=>?_,fun b o hb nb=>?_⟩
  ·rw[e3]
   have h1:=congrArg Prod.fst e2
   have h2:=congrArg Prod.snd e2
   simp only at h1 h2
   rw[show X.headD 0=(ZK X).1 from rfl,show X.getLastD 0=(ZK X).2 from rfl,h1,h2]
   rfl
  ·have htuple:∀ (u:Addr) (xs:List V),H3 u=some (.tup xs)→(upd (upd H3 t (.tup [.int (if (Zad X n).headD 0<(low n (ZJ 8 N n) i).headD 0 then (Zad X n).headD 0 else (low n (ZJ 8 N n) i).headD 0),.int (if (Zad X n).getLastD 0>(low n (ZJ 8 N n) i).getLastD 0 then (Zad X n).getLastD 0 else (low n (ZJ 8 N n) i).getLastD 0)])) r (.lst (ts.map V.ref++[.ref t]))) u=some (.tup xs):=fun u xs hu=>by
    rw[Zc (fun z=>by rw[z,hr3]at hu;cases hu),Zc (Zb hu ht)];exact hu
   by_cases hj:j<ts.length
   ·rw[Q5 hj]at hu
    exact htuple u _ (hts j u Y hu hY)
   ·have ej:j=ts.length:=by have:=(Qe.mp hu).1;rw[Qd,QD]at this;omega
    subst ej
    rw[QR (Qg _),Nat.sub_self]at hu
    cases hu
    rw[htl,hX]at hY
    cases hY
    rw[Zc nrt.symm,Zd,e2]
  ·rcases Qm.mp hu with hu|hu
   ·obtain⟨g1,xs,g2⟩:=htr u hu
    exact⟨g1,xs,by rw[Zc g1,Zc (Zb g2 ht)];exact g2⟩
   ·rw[Qk.mp hu]
    exact⟨nrt.symm,_,by rw[Zc nrt.symm];exact Zd⟩
  ·have:=k3 b o hb nb
   rw[Zc nb,Zc (Zb this ht)];exact this
 ·rintro σ H3 ⟨v5,ts,rfl,_,htl,hr3,hts,_,k3⟩
  rw[Qa]at htl
  exact⟨_,rfl,q r ts H3 hr0 hr3 (by omega) hts (fun b o hb=>k3 b o (s02 b o hb) (Zb hb hr0))⟩
def CV(H:Hp)(v:V)(c:Com):Prop:=(c=none∧v=.non)∨∃ (t:Addr) (p:Int×Int),c=some p∧v=.ref t∧H t=some (.tup [.int p.1,.int p.2])
theorem CV.keep{H H':Hp}{v:V}{c:Com}(h:CV H v c)(k:∀t xs,H t=some (.tup xs)→H' t=some (.tup xs)):CV H' v c:=by
 rcases h with h|⟨t,p,h1,h2,h3⟩
 ·exact .inl h
 ·exact .inr ⟨t,p,h1,h2,k _ _ h3⟩
theorem ZkA{s:StL}{k:Int×Int}{v0:Option (Addr×Int×Int)}(h:ZO s k=some v0):s.any (fun e=>decide (e.1=k))=true:=List.any_eq_true.mpr ⟨_,Zgx h,decide_eq_true rfl⟩
theorem Zeu{s:StL}{k:Int×Int}{v0 v:Option (Addr×Int×Int)}(h:ZO s k=some v0):(Zb2 s k v).length=s.length:=by
 unfold Zb2
 rw[if_pos (ZkA h),Qa]
def AgS(hd:Hd)(z:List Nat)(A B:List Int)(k q:Int):Prop:=∀C k0 q0,Ag hd z C k0 q0→Ag hd z (C++[(A,B)]) (k0+k) (q0+q)
def ZiX(cR cM:Addr):Sp:=fun vs H Q _=>∃ (m rd sd:Addr) (L:List Zz) (s:StL) (nb li lo:Int) (best:V) (tm:Addr) (v:V) (c:Com) (z:List Nat) (M:List Int) (n:Int),vs=[.ref m,.ref tm,v]∧Z3 cR cM H m rd sd L s nb li lo best∧H tm=some (.tup [.int (ZK M).1,.int (ZK M).2])∧CV H v c∧ZhN (hdM L) z (ZR M n) c ∧
 ((Win (hdM L) (Zad M n) none∧(ZO s (ZK M)=none∨ZO s (ZK M)=some none))∨∃t b y,Win (hdM L) (Zad M n) (some b)∧hdM L b=some y∧ZO s (ZK M)=some (some (t,b,((lcp y z:Nat):Int)))) ∧
 (∀b∈M,∀y,hdM L b=some y→ZG z y≤0)∧ZV M∧(∀b∈M,b∈Zx L)∧2≤M.length∧n∈M ∧
 ∀ (v':V) (c':Com) (s':StL) (k q:Int) (H':Hp),CV H' v' c'→ZhN (hdM L) z M c'→Zdo (hdM L) s' (ZR M n) (Zad M n) (ZK M)→(∀j,j≠ZK M→ZO s' j=ZO s j)→AgS (hdM L) z (ZR M n) (Zad M n) k q →
  Z3 cR cM H' m rd sd L s' nb (li+k) (lo+q) best→(∀b o,H b=some o→b≠m→b≠sd→H' b=some o)→Q v' H'
theorem Zl2{L:List Zz}(nd:(Zx L).Nodup){b:Int}(hb:b∈Zx L){y:List Nat}(hy:hdM L b=some y):∃e∈L,e.n=b∧∃x,e.ss[e.g]? = some x∧y=cds x:=by
 obtain⟨e,he,rfl⟩:=Zc0 hb
 rw[ZdD nd he]at hy
 cases hx:e.ss[e.g]? with
 | none=>rw[hx]at hy;cases hy
 | some x=>rw[hx]at hy;cases hy;exact⟨e,he,rfl,x,hx,rfl⟩
theorem Zmb(T:Zaq K mg cRow cMerge)(f_Merge_meet:Mf P w K mg base 3 cMerge "meet" ["self", "one", "other", "far"] (ZiF cRow cMerge)):Mf P w K mg base 4 cMerge "play_again" ["self", "meeting", "comer"] (ZiX cRow cMerge):=by
 refine T.t_Merge_play_again.mf Zag (fun vs H Q E h=>?_) (fun cdv f A outer s H vs Q E hr h=>?_)
 ·obtain⟨m,rd,sd,L,s,nb,li,lo,best,tm,v,c,z,M,n,rfl,_⟩:=h
  rfl
 obtain⟨m,rd,sd,L,s,nb,li,lo',best,tm,v,c,z,M,n,rfl,Mg,htm,hcv,⟨wS,hcf⟩,hst,hge,hup,hin,h2,hn,q⟩:=h
 refine⟨_,#[Zg,#[Zv,3,Zag.nd,(Or.inl rfl),(@Zoc _ _ _ _ _ _ _ _ hr #[ZW,‹0›] ‹1› (by rfl) (by rfl) (by rfl))],#[Zg,#[Zaw,#[Zs,Zcq,‹3›,#[Zaj],(Zu _)],#[Zj,#[Zr,‹2›]],#[ZQ]],#[Zg,#[Zaw,#[Zs,Zcq,‹2›,#[Zaj],(Zu _)],#[Zg,#[Zbt,#[Zaj],#[ZdA,#[ZW,‹0›],‹1›,(Zk6 hr)]],#[Zj,#[Zr,‹3›]]],#[ZQ]],#[Zg,#[Zaw,#[Zs,Zbx,#[ZF,(ixT K),‹2›,#[Zh]],#[ZF,(ixT K),‹3›,#[Zh]],(Zu _)],#[Zg,#[Zbt,#[ZeA,f_Merge_meet,T.cl_Merge,hr,‹0›,#[Za,#[ZF,(ixT K),‹2›,#[Zh]],#[Za,#[ZF,(ixT K),‹3›,#[Zh]],#[Za,#[ZF,(ixT K),‹2›,#[Zh]],#[Ze]]]]],#[gT,K,3,#[Zw,#[ZP,4,Zag.nd,(Or.inl rfl)],#[Zw,#[ZP,5,Zag.nd,(Or.inl rfl)],#[Zw,#[ZP,6,Zag.nd,(Or.inl rfl)],(@ZaT _)]]]]],#[Zg,#[Zbt,#[Zay,#[Za,‹5›,#[Za,‹6›,#[Ze]]]],#[ZdA,#[ZW,‹0›],‹1›,(Zk6 hr)]],#[Zj,#[Zr,#[Zay,#[Za,‹4›,#[Za,#[ZF,(ixT K),‹2›,#[Zh]],#[Ze]]]]]]]],#[ZQ]],#[Zg,(@Zc8 _ _ _ _ _ _ _ _ _ _ ‹0› #[Zh] Zg9),#[Zg,#[Zaw,#[Zs,ZdK,#[ZF,(ixT K),‹2›,#[Zh]],#[ZF,(ixT K),‹3›,#[Zh]],(Zu _)],#[Zj,#[Zr,‹2›]],#[ZQ]],#[Zg,#[Zbt,‹2›,#[ZdA,#[ZW,‹0›],‹1›,(Zk6 hr)]],#[Zj,#[Zr,‹3›]]]]]]]]],?_⟩
 obtain⟨dx,hm⟩:=Mg.ob
 have htm':H tm=some (.tup (([.inl (ZK M).1,.inl (ZK M).2]:List Key).map kV)):=htm
 have pm:=Zc9 M n
 have dg:=ZcJ.t (k:=[.inl (ZK M).1,.inl (ZK M).2]) Mg.stays htm'
 rw[ZhG]at dg
 have sA:∀b∈ZR M n,b∈M:=fun b hb=>pm.mem_iff.mp (Qv _ hb)
 have sB:∀b∈Zad M n,b∈M:=fun b hb=>pm.mem_iff.mp (Qf _ hb)
 have hno:=Zd2 hup (Zca hn)
 have dis:∀a b,a∈ZR M n→b∈Zad M n→a≠b:=fun a b ha hb e=>by
  subst e
  unfold ZR Zad at *
  split at ha
  ·rename_i hl;rw[if_pos hl]at hb;have:=ZE hup ha hb;omega
  ·rename_i hl;rw[if_neg hl]at hb;have:=ZE hup hb ha;omega
 refine⟨_,rfl,xw5 m cMerge dx _ _ ⟨rfl,hm,T.cl_Merge,T.na_Merge_stays,Zcd ..,sd,rfl,.inr ⟨_,.inl Mg.stays⟩,_,rfl,_,dg,?_⟩⟩
 rcases hst with⟨wO,hlk⟩|⟨t,b,y,wO,hy,hlk⟩
 ·have ev:((ZO s (ZK M)).map stV).getD .non=.non:=by rcases hlk with e|e<;>rw[e]<;>rfl
  rw[ev]
  refine⟨_,rfl,rfl,_,rfl,ZdI rfl ⟨_,rfl,q v c s 0 0 H hcv ⟨(Win.left wS wO).perm pm,hcf⟩ ⟨(fun a b x y _ wb _ _=>nomatch wO.one wb),fun _=>hlk⟩ (fun _ _=>rfl) (fun C k0 q0 g=>by rw[Qai,Qai];exact .no g (.inr wO)) (Mg.cast (by omega) (by omega)) (fun b o h _ _=>h)⟩⟩
 have hat:=Mg.ats _ (Zgx hlk) _ rfl
 have e1:((ZO s (ZK M)).map stV).getD .non=.ref t:=by rw[hlk];rfl
 rw[e1]
 have hsf:=Mg.sfew
 have hsl:(kvS s).length<sizeLine:=by unfold kvS;rw[Qa];exact Z2 (by omega)
 refine⟨_,rfl,rfl,_,rfl,Zcn (fun z=>nomatch z) ?_⟩
 have hbM:=sB b wO.1
 rcases hcv with⟨rfl,rfl⟩|⟨tc,p,rfl,rfl,htc⟩
 ·refine⟨_,rfl,rfl,_,rfl,ZdI rfl ?_⟩
  refine⟨_,rfl,xw5 m cMerge dx _ _ ⟨rfl,hm,T.cl_Merge,T.na_Merge_stays,Zcd ..,_,rfl,sd,_,rfl,ZeX.t (k:=[.inl (ZK M).1,.inl (ZK M).2]) Mg.stays htm' hsl,?_⟩⟩
  rw[show V.non=stV none from rfl,ZeM]
  have hl1:(Zb2 s (ZK M) none).length≤100:=by rw[Zeu hlk];exact hsf
  have M2:=Mg.put (k:=ZK M) (v:=none) (fun t ht=>by cases ht) hl1
  have wS':Win (hdM L) (ZR M n) none:=wS
  refine⟨_,rfl,q (.ref t) (some (b,((lcp y z:Nat):Int))) _ 0 0 _ (.inr ⟨t,_,rfl,rfl,?_⟩) ⟨(Win.right wS' wO).perm pm,fun p hp=>?_⟩ ⟨(fun a b x y wa _ _ _=>nomatch wS'.one wa),fun _=>.inr ?_⟩ (fun j hj=>?_) (fun C k0 q0 g=>?_) (M2.cast (by omega) (by omega)) (fun b o hb _ n2=>by rw[Zc n2];exact hb)⟩
  ·rw[Zc (fun z=>by rw[z,Mg.stays]at hat;cases hat)];exact hat
  ·cases hp;exact⟨y,hy,rfl⟩
  ·rw[ZaG,if_pos rfl]
  ·rw[ZaG,if_neg hj]
  ·rw[Qai,Qai];exact .no g (.inl wS')
 obtain⟨a,fa⟩:=p
 obtain⟨x,hx,efa⟩:=hcf _ rfl
 simp only at hx efa
 subst efa
 have wS':Win (hdM L) (ZR M n) (some a):=wS
 have haM:=sA a wS'.1
 have hab:=dis a b wS'.1 wO.1
 obtain⟨ea,hea,rfl,zx,hzx,rfl⟩:=Zl2 Mg.nd (hin a haM) hx
 obtain⟨eb,heb,rfl,zy,hzy,rfl⟩:=Zl2 Mg.nd (hin b hbM) hy
 have c0:atI [V.int ea.n,.int ((lcp (cds zx) z:Nat):Int)] 0=some (.int ea.n):=ZaB (j:=0) rfl
 have c1:atI [V.int ea.n,.int ((lcp (cds zx) z:Nat):Int)] 1=some (.int ((lcp (cds zx) z:Nat):Int)):=ZaB (j:=1) rfl
 have d0:atI [V.int eb.n,.int ((lcp (cds zy) z:Nat):Int)] 0=some (.int eb.n):=ZaB (j:=0) rfl
 have d1:atI [V.int eb.n,.int ((lcp (cds zy) z:Nat):Int)] 1=some (.int ((lcp (cds zy) z:Nat):Int)):=ZaB (j:=1) rfl
 refine⟨_,rfl,rfl,_,rfl,Zcn (fun z=>nomatch z) ?_⟩
 refine⟨_,rfl,tc,_,_,_,rfl,rfl,SqT.of htc,c1,_,rfl,xw4 t _ _ _ ⟨rfl,rfl,SqT.of hat,d1,rfl,_,rfl,Zbo (fun d=>?_) (fun d=>?_)⟩⟩
 ·have ef:lcp (cds zx) z=lcp (cds zy) z:=by have:=of_decide_eq_true d;injection this with this;omega
  have hle:=ZoH ef
  refine⟨_,rfl,m,dx,_,rfl,hm,ZeT ..,_,rfl,tc,_,_,_,rfl,rfl,SqT.of htc,c0,_,rfl,xw4 t _ _ _ ⟨rfl,rfl,SqT.of hat,d0,_,rfl,tc,_,_,_,rfl,rfl,SqT.of htc,c1,?_⟩⟩
  refine⟨m,rd,sd,L,s,nb,li,lo',best,ea,eb,zx,zy,lcp (cds zx) z,rfl,Mg,hea,heb,hzx,hzy,hle,fun t5 wi lz H5 hw ht5 ht5' M5 b5=>?_⟩
  refine⟨t5,_,rfl,SqT.of ht5',rfl,_,_,rfl,_,_,rfl,_,_,rfl,rfl,?_⟩
  have sz2:2≤sizeLine:=by decide
  refine⟨_,rfl,_,rfl,sz2,fun t6 ht6=>?_⟩
  have s6:=Zi ht6 (.tup [.int lz,.int ((lcp (cds zx) (cds zy):Nat):Int)])
  have ht66:(upd H5 t6 (.tup [.int lz,.int ((lcp (cds zx) (cds zy):Nat):Int)])) t6=some (.tup [.int lz,.int ((lcp (cds zx) (cds zy):Nat):Int)]):=Zd
  have M6:=M5.same s6
  generalize upd H5 t6 (.tup [.int lz,.int ((lcp (cds zx) (cds zy):Nat):Int)])=H6 at s6 ht66 M6 ⊢
  obtain⟨dx6,hm6⟩:=M6.ob
  have ntm:tm≠m:=fun z=>by rw[z,hm]at htm;cases htm
  have ntc:tc≠m:=fun z=>by rw[z,hm]at htc;cases htc
  have htm6:H6 tm=some (.tup (([.inl (ZK M).1,.inl (ZK M).2]:List Key).map kV)):=s6 _ _ (b5 _ _ htm' ntm)
  refine⟨_,rfl,xw5 m cMerge dx6 _ _ ⟨rfl,hm6,T.cl_Merge,T.na_Merge_stays,Zcd ..,_,rfl,sd,_,rfl,ZeX.t (k:=[.inl (ZK M).1,.inl (ZK M).2]) M6.stays htm6 hsl,?_⟩⟩
  rw[show V.ref t6=stV (some (t6,lz,((lcp (cds zx) (cds zy):Nat):Int))) from rfl,ZeM]
  have hl1:(Zb2 s (ZK M) (some (t6,lz,((lcp (cds zx) (cds zy):Nat):Int)))).length≤100:=by rw[Zeu hlk];exact hsf
  have M7:=M6.put (k:=ZK M) (v:=some (t6,lz,((lcp (cds zx) (cds zy):Nat):Int))) (fun t ht=>by injection ht with ht;rw[← ht];exact ht66) hl1
  have b7:∀b o,H b=some o→b≠m→b≠sd→(upd H6 sd (.dT (kvS (Zb2 s (ZK M) (some (t6,lz,((lcp (cds zx) (cds zy):Nat):Int))))))) b=some o:=fun b o hb n1 n2=>by rw[Zc n2];exact s6 _ _ (b5 b o hb n1)
  have ntcs:tc≠sd:=fun z=>by rw[z,Mg.stays]at htc;cases htc
  generalize upd H6 sd (.dT (kvS (Zb2 s (ZK M) (some (t6,lz,((lcp (cds zx) (cds zy):Nat):Int))))))=H7 at M7 b7 ⊢
  refine⟨_,rfl,_,rfl,tc,_,_,_,rfl,rfl,SqT.of (b7 _ _ htc ntc ntcs),c1,sz2,fun t8 ht8=>?_⟩
  have wn:Win (hdM L) M (some wi):=by
   rcases hw with⟨w0,rfl,_⟩|⟨w0,rfl,_⟩
   ·exact(Win.both wS' wO hx hy w0).perm pm
   ·exact(Win.both' wS' wO hx hy ((Btr.total hab).resolve_left w0)).perm pm
  refine q (.ref t8) (some (wi,((lcp (cds zx) z:Nat):Int))) _ 1 ((lcp (cds zx) (cds zy):Nat)-(lcp (cds zx) z:Nat)+1) _ (.inr ⟨t8,_,rfl,rfl,Zd⟩) ⟨wn,fun p hp=>?_⟩ ⟨fun a b x' y' wa wb hxa hyb=>?_,fun hno=>?_⟩ (fun j hj=>by rw[ZaG,if_neg hj]) (fun C k0 q0 g=>.eq g wS' wO hx hy ef) ((M7.same (Zi ht8 _)).cast rfl rfl) (fun b o hb n1 n2=>Zi ht8 _ _ _ (b7 b o hb n1 n2))
  ·cases hp
   rcases hw with⟨w0,rfl,_⟩|⟨w0,rfl,_⟩
   ·exact⟨_,hx,rfl⟩
   ·exact⟨_,hy,by simp only;rw[ef]⟩
  ·have e1:=Qj (wa.one wS')
   have e2:=Qj (wb.one wO)
   subst e1
   subst e2
   have e3:=Qj (hxa.symm.trans hx)
   have e4:=Qj (hyb.symm.trans hy)
   subst e3
   subst e4
   refine⟨t6,lz,by rw[ZaG,if_pos rfl],?_⟩
   rcases hw with⟨w0,_,rfl⟩|⟨w0,_,rfl⟩
   ·exact .inl ⟨w0,rfl⟩
   ·exact .inr ⟨(Btr.total hab).resolve_left w0,rfl⟩
  ·rcases hno with z|z
   ·exact nomatch z.one wS'
   ·exact nomatch z.one wO
 have nef:lcp (cds zx) z≠lcp (cds zy) z:=fun e=>d (decide_eq_true (by rw[e]))
 refine⟨_,rfl,xw5 m cMerge dx _ _ ⟨rfl,hm,T.cl_Merge,T.na_Merge_likened,ZcR ..,_,_,rfl,rfl,dx,_,hm,ZbO ..,?_⟩⟩
 rw[ZcF]
 have M2:=Mg.obj (nb':=nb) (li':=li+1) (lo':=lo') (best':=best) (dx:=dx)
 have k2:∀b o,H b=some o→b≠m→(upd H m (.ins cMerge dx (mgF rd nb (li+1) lo' sd best))) b=some o:=fun b o hb n=>by rw[Zc n];exact hb
 have ntc:tc≠m:=fun z=>by rw[z,hm]at htc;cases htc
 have ntt:t≠m:=fun z=>by rw[z,hm]at hat;cases hat
 have ntm:tm≠m:=fun z=>by rw[z,hm]at htm;cases htm
 generalize upd H m (.ins cMerge dx (mgF rd nb (li+1) lo' sd best))=H2 at M2 k2 ⊢
 have htc2:=k2 _ _ htc ntc
 have hat2:=k2 _ _ hat ntt
 refine⟨_,rfl,tc,_,_,_,rfl,rfl,SqT.of htc2,c1,_,rfl,xw4 t _ _ _ ⟨rfl,rfl,SqT.of hat2,d1,_,_,rfl,rfl,_,rfl,Zbo (fun g=>?_) (fun g=>?_)⟩⟩
 ·have hgt:lcp (cds zy) z<lcp (cds zx) z:=by have:((lcp (cds zy) z:Nat):Int)<((lcp (cds zx) z:Nat):Int):=of_decide_eq_true g;omega
  obtain⟨bt,el⟩:=ZdW (a:=ea.n) (b:=eb.n) hgt (hge _ hbM _ hy)
  refine⟨_,rfl,q (.ref tc) (some (ea.n,((lcp (cds zx) z:Nat):Int))) s 1 0 H2 (.inr ⟨tc,_,rfl,rfl,htc2⟩) ⟨(Win.both wS' wO hx hy bt).perm pm,fun p hp=>by cases hp;exact⟨_,hx,rfl⟩⟩ ⟨fun a b x' y' wa wb hxa hyb=>?_,fun hno=>?_⟩ (fun _ _=>rfl) (fun C k0 q0 g=>by rw[Qai];exact .ne g wS' wO hx hy nef) (M2.cast rfl (by omega)) (fun b o hb n1 _=>k2 b o hb n1)⟩
  ·have e1:=Qj (wa.one wS')
   have e2:=Qj (wb.one wO)
   subst e1
   subst e2
   have e3:=Qj (hxa.symm.trans hx)
   have e4:=Qj (hyb.symm.trans hy)
   subst e3
   subst e4
   exact⟨t,_,by rw[el];exact hlk,.inl ⟨bt,rfl⟩⟩
  ·rcases hno with z|z
   ·exact nomatch z.one wS'
   ·exact nomatch z.one wO
 ·have hlt:lcp (cds zx) z<lcp (cds zy) z:=by
   have:¬ ((lcp (cds zy) z:Nat):Int)<((lcp (cds zx) z:Nat):Int):=fun e=>g (decide_eq_true e)
   omega
  obtain⟨bt,el⟩:=ZdW (a:=eb.n) (b:=ea.n) hlt (hge _ haM _ hx)
  obtain⟨dx2,hm2⟩:=M2.ob
  have htm2:H2 tm=some (.tup (([.inl (ZK M).1,.inl (ZK M).2]:List Key).map kV)):=k2 _ _ htm' ntm
  refine⟨_,rfl,_,rfl,xw5 m cMerge dx2 _ _ ⟨rfl,hm2,T.cl_Merge,T.na_Merge_stays,Zcd ..,_,rfl,sd,_,rfl,ZeX.t (k:=[.inl (ZK M).1,.inl (ZK M).2]) M2.stays htm2 hsl,?_⟩⟩
  rw[show V.ref tc=stV (some (tc,ea.n,((lcp (cds zx) z:Nat):Int))) from rfl,ZeM]
  have hl1:(Zb2 s (ZK M) (some (tc,ea.n,((lcp (cds zx) z:Nat):Int)))).length≤100:=by rw[Zeu hlk];exact hsf
  have M3:=M2.put (k:=ZK M) (v:=some (tc,ea.n,((lcp (cds zx) z:Nat):Int))) (fun t ht=>by injection ht with ht;rw[← ht];exact htc2) hl1
  refine⟨_,rfl,q (.ref t) (some (eb.n,((lcp (cds zy) z:Nat):Int))) _ 1 0 _ (.inr ⟨t,_,rfl,rfl,?_⟩) ⟨(Win.both' wS' wO hx hy bt).perm pm,fun p hp=>by cases hp;exact⟨_,hy,rfl⟩⟩ ⟨fun a b x' y' wa wb hxa hyb=>?_,fun hno=>?_⟩ (fun j hj=>by rw[ZaG,if_neg hj]) (fun C k0 q0 g=>by rw[Qai];exact .ne g wS' wO hx hy nef) (M3.cast rfl (by omega)) (fun b o hb n1 n2=>by rw[Zc n2];exact k2 b o hb n1)⟩
  ·rw[Zc (fun z=>by rw[z,M2.stays]at hat2;cases hat2)];exact hat2
  ·have e1:=Qj (wa.one wS')
   have e2:=Qj (wb.one wO)
   subst e1
   subst e2
   have e3:=Qj (hxa.symm.trans hx)
   have e4:=Qj (hyb.symm.trans hy)
   subst e3
   subst e4
   exact⟨tc,_,by rw[ZaG,if_pos rfl,ZaL (cds zx) (cds zy),el],.inr ⟨bt,rfl⟩⟩
  ·rcases hno with z|z
   ·exact nomatch z.one wS'
   ·exact nomatch z.one wO
def Zcg(n:Int)(e:Zz):Zz:=if e.n=n then ⟨e.n,e.p,e.k,e.f,e.ss,e.g+1⟩ else e
def bump(L:List Zz)(n:Int):List Zz:=L.map (Zcg n)
theorem Zcw(n:Int)(e:Zz):(Zcg n e).n=e.n∧(Zcg n e).p=e.p∧(Zcg n e).k=e.k∧(Zcg n e).f=e.f∧(Zcg n e).ss=e.ss:=by unfold Zcg;split<;>exact⟨rfl,rfl,rfl,rfl,rfl⟩
theorem Zd4{n:Int}{e:Zz}(h:e.n=n):Zcg n e=⟨e.n,e.p,e.k,e.f,e.ss,e.g+1⟩:=if_pos h
theorem Ze6{n:Int}{e:Zz}(h:¬ e.n=n):Zcg n e=e:=if_neg h
theorem ZbB(L:List Zz)(n:Int):Zx (bump L n)=Zx L:=by
 unfold Zx bump
 rw[Qy]
 exact QU fun e _=>(Zcw n e).1
theorem Zms(L:List Zz)(n:Int):(bump L n).map (·.p)=L.map (·.p):=by
 unfold bump
 rw[Qy]
 exact QU fun e _=>(Zcw n e).2.1
theorem Zmj(L:List Zz)(n:Int):kvM (bump L n)=kvM L:=by
 unfold kvM bump
 rw[Qy]
 refine QU fun e _=>?_
 simp only[Function.comp]
 rw[(Zcw n e).1,(Zcw n e).2.1]
theorem ZmX{m rd sd:Addr}{L:List Zz}{n:Int}{b:Addr}(h:Fp m rd sd (bump L n) b):Fp m rd sd L b:=by
 rcases h with h|h|h|⟨e',he',h⟩
 ·exact .inl h
 ·exact .inr (.inl h)
 ·exact .inr (.inr (.inl h))
 ·obtain⟨e,he,rfl⟩:=QJ.mp he'
  obtain⟨_,h1,h2,h3,_⟩:=Zcw n e
  rw[h1,h2,h3]at h
  exact .inr (.inr (.inr ⟨e,he,h⟩))
theorem Fp_bump'{m rd sd:Addr}{L:List Zz}{n:Int}{b:Addr}(h:Fp m rd sd L b):Fp m rd sd (bump L n) b:=by
 rcases h with h|h|h|⟨e,he,h⟩
 ·exact .inl h
 ·exact .inr (.inl h)
 ·exact .inr (.inr (.inl h))
 ·obtain⟨_,h1,h2,h3,_⟩:=Zcw n e
  refine .inr (.inr (.inr ⟨Zcg n e,Qn he,?_⟩))
  rw[h1,h2,h3]
  exact h
theorem Zjp{n b:Int}(h:b≠n):∀L:List Zz,hdM (bump L n) b=hdM L b
 | []=>rfl
 | e::L=>by
  have ih:=Zjp h L
  unfold hdM hdL bump at ih ⊢
  rw[Qi,Qi,Qi,Qan,Qan]
  have e1:(toL (Zcg n e)).1=e.n:=(Zcw n e).1
  rw[e1]
  by_cases he:e.n=b
  ·rw[decide_eq_true he,decide_eq_true (show (toL e).1=b from he),Ze6 (fun z=>h (he.symm.trans z))]
  ·rw[decide_eq_false he,decide_eq_false (show ¬ (toL e).1=b from he)]
   exact ih
theorem Zhf{L:List Zz}(nd:(Zx L).Nodup){e:Zz}(he:e∈L):hdM (bump L e.n) e.n=(e.ss[e.g+1]?).map cds:=by
 have hm:Zcg e.n e∈bump L e.n:=Qn he
 rw[Zd4 rfl]at hm
 exact ZdD (L:=bump L e.n) (by rw[ZbB];exact nd) hm
theorem Zea(k f:Addr)(g:Int):ZbY k f g=([("all_keys",.ref k),("fars",.ref f),("gone",.int g)]:List (Str×V)):=by
 unfold ZbY
 rw[Zbd,Zq nFK,Zbd,Zq nGK,Zq nGF,Zbd]
theorem ZfP(k f:Addr)(g v:Int):Zm "gone" (.int v) (ZbY k f g)=ZbY k f v:=by
 rw[Zea,Zea,Zq nGK,Zq nGF,ZcL]
theorem ZlU(k f:Addr)(g:Int):(ZbY k f g).length<1000:=by rw[Zea];show 3<1000;decide
theorem ZjT(k f:Addr)(g:Int):(ZbY k f g).lookup ("fars" : Str)=some (.ref f):=by
 unfold ZbY
 rw[Zl,if_neg nGF,Zl,if_pos rfl]
theorem ZpF{L:List Zz}(pd:(L.map (·.p)).Nodup){e e':Zz}(he:e∈L)(he':e'∈L)(h:e.p=e'.p):e=e':=by
 have n2:((L.map fun x=>(x.p,x)).map (·.1)).Nodup:=by rw[Qy];exact pd
 have:=Zd6 n2 (Qn (f:=fun x:Zz=>(x.p,x)) he) (Qn (f:=fun x:Zz=>(x.p,x)) he') h
 injection this
theorem Z3.bump{cR cM:Addr}{H:Hp}{m rd sd:Addr}{L:List Zz}{s:StL}{nb li lo:Int}{best:V}(M:Z3 cR cM H m rd sd L s nb li lo best){e:Zz}(he:e∈L)(hg:e.g<e.ss.length){dp:Addr} :
  Z3 cR cM (upd H e.p (.ins cR dp (ZbY e.k e.f ((e.g+1:Nat):Int)))) m rd sd (My.bump L e.n) s nb li lo best:=by
 obtain⟨dm,hm⟩:=M.ob
 obtain⟨dq,hp⟩:=(M.each e he).at'.ob
 obtain⟨n1,_,_⟩:=M.ne_p he
 obtain⟨n2,_,_,n3,_,_⟩:=M.ne_sd he
 refine⟨⟨dm,by rw[Zc n1];exact hm⟩,by rw[Zc n3,Zmj];exact M.rows,by rw[Zc n2];exact M.stays,fun x hx t ht=>?_,fun e' he'=>?_,by rw[ZbB];exact M.up,by rw[Zms];exact M.pd,by unfold My.bump;rw[Qa];exact M.few,M.sfew⟩
 ·have:=M.ats x hx t ht
  rw[Zc (fun z=>by rw[z,hp]at this;cases this)];exact this
 ·obtain⟨x,hx,rfl⟩:=QJ.mp he'
  have R:=M.each x hx
  have kne:∀ {y:Zz},y∈L→y.k≠e.p∧y.f≠e.p:=fun {y} hy=>by
   have Ry:=M.each y hy
   exact⟨(fun z=>by have:=Ry.at'.ks;rw[z,hp]at this;cases this),(fun z=>by have:=Ry.at'.fs;rw[z,hp]at this;cases this)⟩
  obtain⟨k1,k2⟩:=kne hx
  by_cases hn:x.n=e.n
  ·have ex:x=e:=by
    have n2:((L.map fun x=>(x.n,x)).map (·.1)).Nodup:=by rw[Qy];exact M.nd
    have:=Zd6 n2 (Qn (f:=fun x:Zz=>(x.n,x)) hx) (Qn (f:=fun x:Zz=>(x.n,x)) he) hn
    injection this
   subst ex
   rw[Zd4 rfl]
   exact⟨⟨⟨dp,Zd⟩,by show (upd H x.p _) x.k=_;rw[Zc k1];exact R.at'.ks,by show (upd H x.p _) x.f=_;rw[Zc k2];exact R.at'.fs⟩,hg,R.len,R.srt,R.str⟩
  ·rw[Ze6 hn]
   exact R.keep (Zc (fun z=>hn (by rw[ZpF M.pd hx he z]))) (Zc k1) (Zc k2)
theorem Zo1{L:List Zz}{e:Zz}{x:Str}(nd:(Zx L).Nodup)(up:ZV (Zx L))(he:e∈L)(hx:e.ss[e.g]? = some x)(srt:sortedS e.ss=true)(W:Win (hdM L) (Zx L) (some e.n)):Tk (hdM L) (hdM (bump L e.n)) (Zx L) e.n (cds x):=by
 refine⟨W,by rw[ZdD nd he,hx];rfl,fun b hb=>Zjp hb L,fun y hy=>?_,up⟩
 rw[Zhf nd he]at hy
 cases hz:e.ss[e.g+1]? with
 | none=>rw[hz]at hy;cases hy
 | some y'=>rw[hz]at hy;cases hy;exact Zf5 srt e.g x y' hx hz
theorem ZnW{c:Bool}{e1 e2:VK→Prop}{Q:VK}(P:V→Hp→Prop)(h1:c=true→∀Q':VK,(∀v H,P v H→Q' v H)→e1 Q')(h2:c=false→∀Q':VK,(∀v H,P v H→Q' v H)→e2 Q')(q:∀v H,P v H→Q v H):if c=true then e1 Q else e2 Q:=by
 cases c with
 | true=>rw[if_pos rfl];exact h1 rfl Q q
 | false=>rw[if_neg (by decide)];exact h2 rfl Q q
def Zby(n:Int)(C:List (List Int)):List (List Int×List Int):=C.map fun X=>(ZR X n,Zad X n)
theorem ZhT(rd:Addr)(nb li lo:Int)(sd:Addr)(best:V):(mgF rd nb li lo sd best).lookup ("play_again" : Str)=none:=Zbu _ _ _ _ _ _ (by ac_rfl) (by ac_rfl) (by ac_rfl) (by ac_rfl) (by ac_rfl) (by ac_rfl)
def Zlj(cR cM:Addr):Sp:=fun vs H Q _=>∃ (m rd sd:Addr) (L:List Zz) (s:StL) (nb li lo:Int) (best:V) (e:Zz) (x:Str),vs=[.ref m,.int e.n]∧Z3 cR cM H m rd sd L s nb li lo best∧e∈L∧e.ss[e.g]? = some x∧Win (hdM L) (Zx L) (some e.n)∧Z4 (hdM L) s (Zx L) ∧
 ∀ (s':StL) (w':Option Int) (k q:Int) (H':Hp),Z3 cR cM H' m rd sd (bump L e.n) s' nb (li+k) (lo+q) (Zdj w')→Win (hdM (bump L e.n)) (Zx L) w'→Z4 (hdM (bump L e.n)) s' (Zx L)→Ag (hdM (bump L e.n)) (cds x) (Zby e.n (ZJ 8 (Zx L) e.n)) k q→(∀b o,H b=some o→¬ Fp m rd sd L b→H' b=some o)→Q .non H'
theorem Zmt(T:Zaq K mg cRow cMerge)(f_Row_head:Mf P w K mg base 2 cRow "head" ["self"] (Zek cRow))(f_matches_up:Df P w K mg base 3 "matches_up" ["numbers", "n"] Zf4)(f_Merge_play_again:Mf P w K mg base 4 cMerge "play_again" ["self", "meeting", "comer"] (ZiX cRow cMerge)):Mf P w K mg base 5 cMerge "send_out" ["self", "number"] (Zlj cRow cMerge):=by
 refine T.t_Merge_send_out.mf Zam (fun vs H Q E h=>?_) (fun cdv f A outer s H vs Q E hr h=>?_)
 ·obtain⟨m,rd,sd,L,s,nb,li,lo,best,e,x,rfl,_⟩:=h
  rfl
 obtain⟨m,rd,sd,L,s,nb,li,lo',best,e,x,rfl,M,he,hx,W,ok,q⟩:=h
 refine⟨_,#[Zg,#[Zv,2,Zam.nd,(Or.inl rfl),#[ZF,(ixG hr),#[ZW,‹0›],‹1›]],#[Zg,(@Zc8 _ _ _ _ _ _ _ _ _ _ ‹2› #[Zh] Zg9),#[Zg,#[Zv,3,Zam.nd,(Or.inl rfl),#[Zbe,#[Zs,Zcq,#[ZaU,f_Row_head,T.cl_Row,hr,‹2›],#[Zaj],(Zu _)],#[Zaj],#[Zay,#[Za,‹1›,#[Za,#[ZF,(ixL K),#[ZW,‹2›],#[ZW,‹2›]],#[Ze]]]]]],#[Zg,#[Zct,PassesOwn.never,#[iL,K,#[ZB,f_matches_up,hr,#[Za,#[Zb9,Zo8,(by rfl),T.b.n_list,boot_list,#[Za,#[ZW,‹0›],#[Ze]]],#[Za,‹1›,#[Ze]]],(by rfl)]],#[ZP,4,Zam.nd,(Or.inl rfl)],#[Zj,#[Zv,3,Zam.nd,(Or.inl rfl),#[ZeA,f_Merge_play_again,T.cl_Merge,hr,‹0›,#[Za,‹4›,#[Za,‹3›,#[Ze]]]]]]],#[Zj,#[Zbw,‹0›,#[Zbe,#[Zs,Zcq,‹3›,#[Zaj],(Zu _)],#[Zaj],#[ZF,(ixT K),‹3›,#[Zh]]]]]]]]],?_⟩
 obtain⟨dx,hm⟩:=M.ob
 have R:=M.each e he
 obtain⟨dp,hp⟩:=R.at'.ob
 have hg:e.g<e.ss.length:=(Qe.mp hx).1
 have tk:=Zo1 M.nd M.up he hx R.srt W
 refine⟨_,rfl,xw5 m cMerge dx _ _ ⟨rfl,hm,T.cl_Merge,T.na_Merge_rows,Zbb ..,_,rfl,rd,_,rfl,ZcJ.k' (k:=.inl e.n) M.rows (Zfe M.nd he),?_⟩⟩
 refine⟨_,rfl,e.p,cRow,dp,_,_,rfl,hp,T.cl_Row,T.na_Row_gone,Zcf ..,_,_,rfl,rfl,dp,_,hp,ZlU ..,?_⟩
 rw[ZfP,show ((e.g:Int)+1)=((e.g+1:Nat):Int) by omega]
 have M1:=M.bump he hg (dp:=dp)
 have hp1:(upd H e.p (.ins cRow dp (ZbY e.k e.f ((e.g+1:Nat):Int)))) e.p=some (.ins cRow dp (ZbY e.k e.f ((e.g+1:Nat):Int))):=Zd
 have k1:∀b o,H b=some o→b≠e.p→(upd H e.p (.ins cRow dp (ZbY e.k e.f ((e.g+1:Nat):Int)))) b=some o:=fun b o hb n=>by rw[Zc n];exact hb
 generalize upd H e.p (.ins cRow dp (ZbY e.k e.f ((e.g+1:Nat):Int)))=H1 at M1 hp1 k1 ⊢
 have hm':(⟨e.n,e.p,e.k,e.f,e.ss,e.g+1⟩:Zz)∈bump L e.n:=by
  have:Zcg e.n e∈bump L e.n:=Qn he
  rwa [Zd4 rfl]at this
 have R1:=M1.each _ hm'
 have keep1:∀ {H2:Hp},(∀b o,H1 b=some o→b≠m→b≠sd→H2 b=some o)→∀b o,H b=some o→¬ Fp m rd sd L b→H2 b=some o:=fun {H2} k b o hb nf =>
  k b o (k1 b o hb fun z=>nf (.inr (.inr (.inr ⟨e,he,.inl z⟩)))) (fun z=>nf (.inl z)) (fun z=>nf (.inr (.inr (.inl z))))
 have hpos:e.n∈Zx L:=W.1
 have h60:(Zx L).length≤60:=by unfold Zx;rw[Qa];exact M.few
 have hpw:(Zx L).length≤2 ^ 8:=QP h60 (by decide)
 obtain⟨cok,ctop,clen⟩:=Zfo 8 (Zx L) e.n hpos hpw
 have hgo:hdM (bump L e.n) e.n=(e.ss[e.g+1]?).map cds:=Zhf M.nd he
 have hdd:∀ (c:Com),(c=none∧e.ss[e.g+1]? = none)∨(∃y,e.ss[e.g+1]? = some y∧c=some (e.n,((lcp (cds y) (cds x):Nat):Int)))→ZhN (hdM (bump L e.n)) (cds x) [e.n] c:=fun c hc=>by
  have hw:=Win.sing (hd:=hdM (bump L e.n)) (n:=e.n)
  rcases hc with⟨rfl,hn⟩|⟨y,hy,rfl⟩
  ·rw[hgo,hn]at hw
   exact⟨hw,fun p hp=>by cases hp⟩
  ·rw[hgo,hy]at hw
   exact⟨hw,fun p hp=>by cases hp;exact⟨cds y,by rw[hgo,hy];rfl,rfl⟩⟩
 refine⟨_,rfl,e.p,dp,_,rfl,hp1,Za5 ..,e.p,e.k,e.f,e.ss,e.g+1,rfl,R1.at',rfl,_,rfl,?_⟩
 rw[Zhe]
 refine ZnW (fun v H2=>ZH H1 H2∧∃c,CV H2 v c∧ZhN (hdM (bump L e.n)) (cds x) [e.n] c) (fun d Q' hq=>?_) (fun d Q' hq=>?_) (fun v H2 ⟨s2,c,hcv,hok⟩=>?_)
 ·have hn:e.ss[e.g+1]? = none:=by
   have:=of_decide_eq_true d
   cases hy:e.ss[e.g+1]? with
   | none=>rfl
   | some y=>rw[hy]at this;cases this
  exact hq _ _ ⟨ZH.refl _,none,.inl ⟨rfl,rfl⟩,hdd none (.inl ⟨rfl,hn⟩)⟩
 ·obtain⟨y,hy⟩:∃y,e.ss[e.g+1]? = some y:=by
   cases hy:e.ss[e.g+1]? with
   | none=>rw[hy]at d;exact absurd rfl (of_decide_eq_false d)
   | some y=>exact⟨y,rfl⟩
  have hyl:e.g+1<e.ss.length:=(Qe.mp hy).1
  have hal:Zb6 e.ss (e.g+1)=((lcp (cds y) (cds x):Nat):Int):=by
   unfold Zb6
   rw[if_neg (by omega),Qas,QF,QF,hx,hy,ZaL]
   rfl
  have hat:atI ((List.range e.ss.length).map fun j=>V.int (Zb6 e.ss j)) ((e.g+1:Nat):Int)=some (.int ((lcp (cds y) (cds x):Nat):Int)):=ZaB (by rw[Qs,List.getElem?_range hyl,← hal];rfl)
  refine⟨_,rfl,_,rfl,e.p,cRow,dp,_,_,rfl,hp1,T.cl_Row,T.na_Row_fars,ZjT ..,_,rfl,e.p,cRow,dp,_,_,rfl,hp1,T.cl_Row,T.na_Row_gone,Zcf ..,xw4 e.f _ _ _ ⟨rfl,rfl,SqL.of R1.at'.fs,hat,(by show 2≤sizeLine;decide),fun tc htc=>?_⟩⟩
  exact hq _ _ ⟨Zi htc _,some (e.n,((lcp (cds y) (cds x):Nat):Int)),.inr ⟨tc,_,rfl,rfl,Zd⟩,hdd _ (.inr ⟨y,hy,rfl⟩)⟩
 have M2:=M1.same s2
 obtain⟨dx2,hm2⟩:=M2.ob
 refine⟨_,rfl,xw5 m cMerge dx2 _ _ ⟨rfl,hm2,T.cl_Merge,T.na_Merge_rows,Zbb ..,rd,_,rfl,M2.rows,fun l hl=>?_⟩⟩
 rw[Zmm,ZbB]
 have s3:=s2.trans (Zi hl (.lst ((Zx L).map V.int)))
 have hl3:(upd H2 l (.lst ((Zx L).map V.int))) l=some (.lst ((Zx L).map V.int)):=Zd
 have hcv3:CV (upd H2 l (.lst ((Zx L).map V.int))) v c:=hcv.keep fun t xs ht=>Zi hl _ _ _ ht
 generalize upd H2 l (.lst ((Zx L).map V.int))=H3 at s3 hl3 hcv3 ⊢
 refine⟨_,rfl,l,Zx L,e.n,rfl,hl3,hpos,h60,M.up,fun r ts H4 hr0 hr4 htl hts s4=>?_⟩
 have s14:=s3.trans s4
 have M4:=M1.same s14
 have hcv4:CV H4 v c:=hcv3.keep fun t xs ht=>s4 _ _ ht
 refine⟨r,rfl,⟨_,SqL.of hr4⟩,?_⟩
 obtain⟨dm4,hm4⟩:=M4.ob
 obtain⟨dm1,hm1⟩:=M1.ob
 have nrm:r≠m:=(Zb (s3 _ _ hm1) hr0).symm
 have nrs:r≠sd:=(Zb (s3 _ _ M1.stays) hr0).symm
 refine Zh7 (K:=K) (a:=r) (xs:=ts.map V.ref) (fun i σ H5=>∃ (v':V) (c':Com) (s':StL) (k q':Int) (v4:Option V),σ=[some (.ref m),some (.int e.n),some (.ref e.p),some v',v4]∧i≤ts.length∧CV H5 v' c'∧ZhN (hdM (bump L e.n)) (cds x) (low e.n (ZJ 8 (Zx L) e.n) i) c'∧Z3 cRow cMerge H5 m rd sd (bump L e.n) s' nb (li+k) (lo'+q') best∧Z4 (hdM (bump L e.n)) s' (low e.n (ZJ 8 (Zx L) e.n) i)∧(∀j,¬ Kys (low e.n (ZJ 8 (Zx L) e.n) i) j→ZO s' j=ZO s j)∧Ag (hdM (bump L e.n)) (cds x) (Zby e.n ((ZJ 8 (Zx L) e.n).take i)) k q'∧(∀b o,H4 b=some o→b≠m→b≠sd→H5 b=some o)) ?_ (fun i σ H5 _ hq=>by obtain⟨_,_,_,_,_,_,_,_,_,_,_,_,_,_,k5⟩:=hq;exact SqL.of (k5 _ _ hr4 nrm nrs)) ?_ ?_
 ·refine⟨v,c,s,0,0,_,rfl,Qp _,hcv4,hok,M4.cast (by omega) (by omega),fun X hX h2=>?_,fun _ _=>rfl,.nil,fun b o h _ _=>h⟩
  have:=Zep hX
  rcases this with rfl|⟨g,_⟩
  ·exact absurd h2 (by show ¬ 2≤1;decide)
  ·exact absurd g (by show ¬ 2≤1;decide)
 ·rintro i y σ H5 hy ⟨v',c',s',k,q',v4,rfl,hi,hcv5,hok5,M5,nok,hlk,ag,k5⟩
  rw[Qs]at hy
  cases hz:ts[i]? with
  | none=>rw[hz]at hy;cases hy
  | some t =>
  rw[hz]at hy
  cases hy
  have hil:i<ts.length:=(Qe.mp hz).1
  cases hX:(ZJ 8 (Zx L) e.n)[i]? with
  | none=>rw[List.getElem?_eq_none_iff]at hX;omega
  | some X =>
  obtain⟨x1,x2,x3,x4⟩:=cok i X hX
  have hup:=x1.rise M.up
  have e3:low e.n (ZJ 8 (Zx L) e.n) (i+1)=X:=by show (ZJ 8 (Zx L) e.n).getD i []=X;rw[QF,hX];rfl
  have ht5:H5 t=some (.tup [.int (ZK X).1,.int (ZK X).2]):=k5 _ _ (hts i t X hz hX) (fun z=>by have:=hts i t X hz hX;rw[z,hm4]at this;cases this) (fun z=>by have:=hts i t X hz hX;rw[z,M4.stays]at this;cases this)
  obtain⟨dm5,hm5⟩:=M5.ob
  rw[← x4]at hok5 nok hlk
  have was:=ZlK tk x1 x2 x3 ok
  have hkey:ZO s' (ZK X)=ZO s (ZK X):=hlk _ fun z=>(Zh3 hup x2 z).1 rfl
  refine⟨_,rfl,m,dm5,_,rfl,hm5,ZhT ..,_,rfl,_,rfl,m,rd,sd,bump L e.n,s',nb,_,_,best,t,v',c',cds x,X,e.n,rfl,M5,ht5,hcv5,hok5,?_,fun b hb y hy=>tk.ge (x1.mem hb) hy,hup,fun b hb=>by rw[ZbB];exact x1.mem hb,x2,x3,fun v6 c6 s6 k6 q6 H6 hcv6 hok6 hnd6 hoth6 hag6 M6 k6'=>?_⟩
  ·rw[hkey]
   rcases was with w|⟨t',b,y,w1,w2,_,w4⟩
   ·exact .inl w
   ·exact .inr ⟨t',b,y,w1,w2,w4⟩
  ·refine⟨v6,c6,s6,k+k6,q'+q6,_,rfl,hil,hcv6,by rw[e3];exact hok6,M6.cast (by omega) (by omega),?_,fun j hj=>?_,?_,fun b o hb n1 n2=>k6' b o (k5 b o hb n1 n2) n1 n2⟩
   ·rw[e3]
    refine ZjX (n:=e.n) (nok.congr (fun _ _=>rfl) fun j hj=>hoth6 j (Zh3 hup x2 hj).1) ?_ hnd6
    have hno:=Zd2 hup (Zca x3)
    have so:Sub X (Zad X e.n):=by unfold Zad;split;exact Sub.top.up x2;exact Sub.top.lo x2
    refine(ok.sub (x1.trans so)).congr (fun b hb=>tk.oth b fun z=>hno (z ▸ hb)) fun j hj=>?_
    rw[hoth6 j (Zh8 hup x2 hj).1,hlk j (Zh8 hup x2 hj).2]
   ·rw[e3]at hj
    rw[hoth6 j (fun z=>hj ⟨X,.top,x2,z⟩),hlk j (fun hq=>by obtain⟨Y,y1,y2,y3⟩:=hq;exact hj ⟨Y,(ZfF x2 e.n).trans y1,y2,y3⟩)]
   ·have:=hag6 _ _ _ ag
    unfold Zby at this ⊢
    rw[QM,hX,Qh]
    exact this
 ·rintro σ H5 ⟨v',c',s',k,q',v4,rfl,_,hcv5,hok5,M5,nok,hlk,ag,k5⟩
  rw[Qa,htl,ctop]at hok5 nok
  rw[Qa,htl,Qu (Qg _)]at ag
  obtain⟨dm5,hm5⟩:=M5.ob
  have fin:∀w':Option Int,w'=c'.map (·.1)→Q .non (upd H5 m (.ins cMerge dm5 (mgF rd nb (li+k) (lo'+q') sd (Zdj w')))):=fun w' ew=>by
   subst ew
   refine q s' _ k q' _ M5.obj hok5.1 nok ag fun b o hb nf=>?_
   rw[Zc (fun z=>nf (.inl z))]
   exact keep1 (fun b o hb n1 n2=>k5 b o (s14 b o hb) n1 n2) b o hb nf
  rcases hcv5 with⟨rfl,rfl⟩|⟨t,p,rfl,rfl,ht⟩
  ·refine⟨_,rfl,rfl,_,rfl,ZdI rfl ?_⟩
   refine⟨_,rfl,m,cMerge,dm5,_,rfl,hm5,T.cl_Merge,T.na_Merge_best,ZbO ..,?_⟩
   rw[Zbz]
   exact fin none rfl
  ·refine⟨_,rfl,rfl,_,rfl,Zcn (fun z=>nomatch z) ?_⟩
   refine⟨_,rfl,xw4 t _ _ _ ⟨rfl,rfl,SqT.of ht,(show atI [V.int p.1,V.int p.2] 0=some (.int p.1) from ZaB (j:=0) rfl),_,rfl,m,cMerge,dm5,_,rfl,hm5,T.cl_Merge,T.na_Merge_best,ZbO ..,?_⟩⟩
   rw[Zbz]
   exact fin (some p.1) rfl
def Zi9(L:List Zz)(w:Option Int)(x:V)(L':List Zz)(k q:Int)(H':Hp):Prop :=
 (w=none∧x=.non∧L'=L∧k=0∧q=0)∨∃ (e:Zz) (t:Addr) (z:Str),e∈L∧w=some e.n∧x=.ref t∧e.ss[e.g]? = some z∧H' t=some (.tup [.int e.n,.int (e.g:Int),.str z])∧L'=bump L e.n∧Ag (hdM L') (cds z) (Zby e.n (ZJ 8 (Zx L) e.n)) k q
theorem Zix(rd:Addr)(nb li lo:Int)(sd:Addr)(best:V):(mgF rd nb li lo sd best).lookup ("send_out" : Str)=none:=Zbu _ _ _ _ _ _ (by ac_rfl) (by ac_rfl) (by ac_rfl) (by ac_rfl) (by ac_rfl) (by ac_rfl)
theorem Ze7(rd:Addr)(nb li lo:Int)(sd:Addr)(best:V):(mgF rd nb li lo sd best).lookup ("take" : Str)=none:=Zbu _ _ _ _ _ _ (by ac_rfl) (by ac_rfl) (by ac_rfl) (by ac_rfl) (by ac_rfl) (by ac_rfl)
def Zlg(cR cM:Addr):Sp:=fun vs H Q _=>∃ (m rd sd:Addr) (L:List Zz) (s:StL) (nb li lo:Int) (w:Option Int),vs=[.ref m]∧Z3 cR cM H m rd sd L s nb li lo (Zdj w)∧Win (hdM L) (Zx L) w∧Z4 (hdM L) s (Zx L) ∧
 ∀ (x:V) (L':List Zz) (s':StL) (w':Option Int) (k q:Int) (H':Hp),Zi9 L w x L' k q H'→Z3 cR cM H' m rd sd L' s' nb (li+k) (lo+q) (Zdj w')→Win (hdM L') (Zx L') w'→Z4 (hdM L') s' (Zx L')→(∀b o,H b=some o→¬ Fp m rd sd L b→H' b=some o)→Q x H'
theorem ZmI(T:Zaq K mg cRow cMerge)(f_Merge_coming:Mf P w K mg base 3 cMerge "coming" ["self"] (ZhP cRow cMerge))(f_Merge_send_out:Mf P w K mg base 5 cMerge "send_out" ["self", "number"] (Zlj cRow cMerge)):Mf P w K mg base 6 cMerge "take" ["self"] (Zlg cRow cMerge):=by
 refine T.t_Merge_take.mf Zdq (fun vs H Q E h=>?_) (fun cdv f A outer s H vs Q E hr h=>?_)
 ·obtain⟨m,rd,sd,L,s,nb,li,lo,w,rfl,_⟩:=h
  rfl
 obtain⟨m,rd,sd,L,s,nb,li,lo',w,rfl,M,W,ok,q⟩:=h
 refine⟨_,#[Zg,#[Zv,1,Zdq.nd,(Or.inl rfl),#[ZaU,f_Merge_coming,T.cl_Merge,hr,‹0›]],#[Zg,#[Zaw,#[Zs,ZeR,‹1›,#[Zaj],(Zu _)],#[Zj,#[Za0,#[ZeA,f_Merge_send_out,T.cl_Merge,hr,‹0›,#[Za,#[ZW,‹0›],#[Ze]]]]],#[ZQ]],#[Zj,#[Zr,‹1›]]]],?_⟩
 obtain⟨dx,hm⟩:=M.ob
 refine⟨_,rfl,m,dx,_,rfl,hm,Zg5 ..,xw9 m rd sd L s nb li lo' w ⟨rfl,M,W,fun x H1 hc s1=>?_⟩⟩
 have M1:=M.same s1
 rcases hc with⟨rfl,hw⟩|⟨t,e',z,rfl,he',hz,ht,hw⟩
 ·have hw':Win (hdM L) (Zx L) none:=by rw[Zd7]at hw;exact hw
  have ew:=W.one hw'
  subst ew
  exact⟨_,rfl,rfl,_,rfl,Zfn rfl ⟨_,rfl,q .non L s none 0 0 H1 (.inl ⟨rfl,rfl,rfl,rfl,rfl⟩) (M1.cast (by omega) (by omega)) W ok (fun b o hb _=>s1 b o hb)⟩⟩
 ·obtain⟨e,he,rfl⟩:=QJ.mp he'
  have hw':Win (hdM L) (Zx L) (some e.n):=by rw[Zd7]at hw;exact hw
  have ew:=W.one hw'
  subst ew
  obtain⟨dx1,hm1⟩:=M1.ob
  refine⟨_,rfl,rfl,_,rfl,ZlW (fun z=>nomatch z) ?_⟩
  refine⟨_,rfl,m,dx1,_,rfl,hm1,Zix ..,_,rfl,xw5 m cMerge dx1 _ _ ⟨rfl,hm1,T.cl_Merge,T.na_Merge_best,ZcW ..,Zqd m rd sd L s nb li lo' _ e z ⟨rfl,M1,he,hz,W,ok,fun s' w' k q' H2 M2 W2 ok2 ag k2=>?_⟩⟩⟩
  have ht2:H2 t=some (.tup [.int e.n,.int (e.g:Int),.str z]):=k2 _ _ ht fun hf=>by
   have ht':=ht
   rcases hf with h|h|h|⟨y,hy,h⟩
   ·rw[h,hm1]at ht';cases ht'
   ·rw[h,M1.rows]at ht';cases ht'
   ·rw[h,M1.stays]at ht';cases ht'
   ·have R:=(M1.each y hy).at'
    obtain⟨dy,hdy⟩:=R.ob
    rcases h with h|h|h
    ·rw[h,hdy]at ht';cases ht'
    ·rw[h,R.ks]at ht';cases ht'
    ·rw[h,R.fs]at ht';cases ht'
  exact⟨_,rfl,q (.ref t) (bump L e.n) s' w' k q' H2 (.inr ⟨e,t,z,he,rfl,rfl,hz,ht2,rfl,ag⟩) M2 (by rw[ZbB];exact W2) (by rw[ZbB];exact ok2) (fun b o hb nf=>k2 b o (s1 b o hb) nf)⟩
abbrev ZC:=Int×List Str×Nat
def ZaA(L:List Zz):List ZC:=L.map fun e=>(e.n,(e.ss,e.g))
def hdP(P:List ZC):Hd:=hdL (P.map fun x=>(x.1,0,x.2))
def ZD(P:List ZC):List Int:=P.map (·.1)
def Za3(n:Int)(x:ZC):ZC:=if x.1=n then (x.1,x.2.1,x.2.2+1) else x
def Zav(P:List ZC)(n:Int):List ZC:=P.map (Za3 n)
theorem Zcy(L:List Zz):hdM L=hdP (ZaA L):=Zjc _ _ (by unfold ZaA;rw[Qy,Qy,Qy];rfl)
theorem ZaZ(L:List Zz):Zx L=ZD (ZaA L):=by unfold ZD ZaA Zx;rw[Qy];rfl
theorem Zgm(L:List Zz)(n:Int):ZaA (bump L n)=Zav (ZaA L) n:=by
 unfold ZaA bump Zav
 rw[Qy,Qy]
 refine QU fun e _=>?_
 simp only[Function.comp]
 unfold Za3
 by_cases h:e.n=n
 ·rw[Zd4 h,if_pos h]
 ·rw[Ze6 h,if_neg h]
theorem Zc6(P:List ZC)(n:Int):ZD (Zav P n)=ZD P:=by
 unfold ZD Zav
 rw[Qy]
 refine QU fun x _=>?_
 simp only[Function.comp]
 unfold Za3
 split<;>rfl
theorem ZcX{P:List ZC}(nd:(ZD P).Nodup){x:ZC}(h:x∈P):hdP P x.1=(x.2.1[x.2.2]?).map cds :=
 ZiI (L:=P.map fun x:ZC=>((x.1,0,x.2):ZcO)) (e:=(x.1,0,x.2)) (by rw[Qy];exact nd) (Qn (f:=fun x:ZC=>((x.1,0,x.2):ZcO)) h)
def Zdn(P:List ZC)(x:ZC)(z:Str)(k q:Int):Prop:=x∈P∧x.2.1[x.2.2]? = some z∧Win (hdP P) (ZD P) (some x.1)∧Ag (hdP (Zav P x.1)) (cds z) (Zby x.1 (ZJ 8 (ZD P) x.1)) k q
abbrev ZS:=Int×Nat×Str
inductive Zao (P:List ZC):List ZS→List ZC→Int→Int→Prop
 | nil:Zao P [] P 0 0
 | snoc {ts:List ZS} {P1:List ZC} {x:ZC} {z:Str} {k q k1 q1:Int}:Zao P ts P1 k q→Zdn P1 x z k1 q1→Zao P (ts++[(x.1,x.2.2,z)]) (Zav P1 x.1) (k+k1) (q+q1)
inductive ZbG:List ZC→Int→Int→Prop
 | stop {P:List ZC}:Win (hdP P) (ZD P) none→ZbG P 0 0
 | go {P:List ZC} {x:ZC} {z:Str} {k q k1 q1:Int}:Zdn P x z k1 q1→ZbG (Zav P x.1) k q→ZbG P (k1+k) (q1+q)
theorem Zdn.one{P:List ZC}(nd:(ZD P).Nodup){x y:ZC}{z u:Str}{k q k' q':Int}(h:Zdn P x z k q)(g:Zdn P y u k' q'):x=y∧z=u∧k=k'∧q=q':=by
 obtain⟨h1,h2,h3,h4⟩:=h
 obtain⟨g1,g2,g3,g4⟩:=g
 have e1:=Qj (h3.one g3)
 have e2:=Zd6 nd h1 g1 e1
 subst e2
 have e3:=Qj (h2.symm.trans g2)
 subst e3
 exact⟨rfl,rfl,h4.one g4⟩
theorem ZbG.one{P:List ZC}{k q:Int}(h:ZbG P k q):(ZD P).Nodup→∀ {k' q':Int},ZbG P k' q'→k=k'∧q=q':=by
 induction h with
 | stop w =>
  intro nd k' q' g
  cases g with
  | stop _=>exact⟨rfl,rfl⟩
  | go s _=>exact nomatch w.one s.2.2.1
 | go s _ ih =>
  intro nd k' q' g
  cases g with
  | stop w=>exact nomatch w.one s.2.2.1
  | go s' g' =>
   obtain⟨e1,_,e2,e3⟩:=s.one nd s'
   subst e1
   obtain⟨e4,e5⟩:=ih (by rw[Zc6];exact nd) g'
   exact⟨by rw[e2,e4],by rw[e3,e5]⟩
theorem Zao.ends{P P':List ZC}{ts:List ZS}{k q:Int}(h:Zao P ts P' k q):∀ {k' q':Int},ZbG P' k' q'→ZbG P (k+k') (q+q'):=by
 induction h with
 | nil=>intro k' q' g;rw[Int.zero_add,Int.zero_add];exact g
 | snoc _ s ih =>
  intro k' q' g
  have:=ih (.go s g)
  rwa [← Int.add_assoc,← Int.add_assoc]at this
theorem Zao.num{P P':List ZC}{ts:List ZS}{k q:Int}(h:Zao P ts P' k q):ZD P'=ZD P:=by
 induction h with
 | nil=>rfl
 | snoc _ _ ih=>rw[Zc6,ih]
def ZaM(P:List ZC):Nat:=(P.map fun x=>x.2.1.length-x.2.2).sum
theorem Zd9:∀ (P:List ZC),(ZD P).Nodup→∀ {x:ZC},x∈P→x.2.2<x.2.1.length→ZaM (Zav P x.1)+1=ZaM P
 | [],_,_,h,_=>by cases h
 | y::P,nd,x,h,hlt=>by
  unfold ZD at nd
  rw[Qi,Q8]at nd
  unfold ZaM Zav
  rw[Qi,Qi,Qi,QN,QN]
  rcases QH.mp h with rfl|h
  ·have e:P.map (Za3 x.1)=P:=by
    conv=>rhs;rw[← List.map_id P]
    refine QU fun u hu=>?_
    unfold Za3
    rw[if_neg (fun z:u.1=x.1=>nd.1 (z ▸ Qn (f:=fun x:ZC=>x.1) hu))]
    rfl
   rw[e]
   unfold Za3
   rw[if_pos rfl]
   show x.2.1.length-(x.2.2+1)+_+1=_
   omega
  ·have ih:=Zd9 P nd.2 h hlt
   unfold ZaM Zav at ih
   have e:Za3 x.1 y=y:=if_neg (fun z:y.1=x.1=>nd.1 (z ▸ Qn (f:=fun x:ZC=>x.1) h))
   rw[e]
   omega
theorem Zkr{P:List ZC}(nd:(ZD P).Nodup)(h:ZaM P=0)(ok:∀x∈P,x.2.2≤x.2.1.length):Win (hdP P) (ZD P) none:=fun n hn=>by
 obtain⟨x,hx,rfl⟩:=QJ.mp hn
 rw[ZcX nd hx]
 have:x.2.1.length-x.2.2=0:=by
  unfold ZaM at h
  have h2:∀l:List Nat,l.sum=0→∀a∈l,a=0:=fun l hl a ha=>by
   induction l with
   | nil=>cases ha
   | cons b r ih =>
    rw[QN]at hl
    rcases QH.mp ha with rfl|ha
    ·omega
    ·exact ih (by omega) ha
  exact h2 _ h _ (Qn (f:=fun x:ZC=>x.2.1.length-x.2.2) hx)
 rw[Qab (by omega)];rfl
theorem Zao.left{P P':List ZC}{ts:List ZS}{k q:Int}(h:Zao P ts P' k q)(nd:(ZD P).Nodup):ZaM P'+ts.length=ZaM P:=by
 induction h with
 | nil=>rfl
 | snoc h s ih =>
  have:=Zd9 _ (by rw[h.num];exact nd) s.1 (Qe.mp s.2.1).1
  rw[Qd,QD]
  omega
theorem Zge{L L':List Zz}{w:Option Int}{x:V}{k q:Int}{H:Hp}(W:Win (hdM L) (Zx L) w)(h:Zi9 L w x L' k q H):(Win (hdP (ZaA L)) (ZD (ZaA L)) none∧x=.non∧L'=L∧k=0∧q=0)∨∃ (y:ZC) (z:Str) (t:Addr),Zdn (ZaA L) y z k q∧ZaA L'=Zav (ZaA L) y.1∧x=.ref t∧H t=some (.tup [.int y.1,.int (y.2.2:Int),.str z]):=by
 rw[Zcy,ZaZ]at W
 rcases h with⟨rfl,h1,h2,h3,h4⟩|⟨e,t,z,he,rfl,rfl,hz,ht,rfl,ag⟩
 ·exact .inl ⟨W,h1,h2,h3,h4⟩
 ·refine .inr ⟨(e.n,(e.ss,e.g)),z,t,⟨Qn (f:=fun e:Zz=>(e.n,(e.ss,e.g))) he,hz,W,?_⟩,Zgm L e.n,rfl,ht⟩
  rw[Zcy,Zgm,ZaZ]at ag
  exact ag
def ZnF(K:PySem.W.Frag)(cR cM:Addr):Sp:=fun vs H Q _=>∃ (m rd sd:Addr) (L:List Zz) (s:StL) (nb li lo:Int) (w:Option Int) (many:Int),vs=[.ref m,.int many]∧Z3 cR cM H m rd sd L s nb li lo (Zdj w)∧Win (hdM L) (Zx L) w∧Z4 (hdM L) s (Zx L)∧ZaM (ZaA L)≤100000 ∧
 ∀ (r:Addr) (us:List (Addr×ZS)) (L':List Zz) (s':StL) (w':Option Int) (k q:Int) (H':Hp),H r=none→H' r=some (.lst (us.map fun u=>V.ref u.1))→(∀u∈us,H' u.1=some (.tup [.int u.2.1,.int (u.2.2.1:Int),.str u.2.2.2]))→Zao (ZaA L) (us.map (·.2)) (ZaA L') k q→((us.length:Int)<many→w'=none)→(us≠[]→(us.length:Int)≤many)→Z3 cR cM H' m rd sd L' s' nb (li+k) (lo+q) (Zdj w')→Win (hdM L') (Zx L') w'→Z4 (hdM L') s' (Zx L')→(∀b,Fp m rd sd L' b↔Fp m rd sd L b)→(∀b o,H b=some o→¬ Fp m rd sd L b→H' b=some o)→Q (.ref r) H'
theorem Zi9.fp{L L':List Zz}{w:Option Int}{x:V}{k q:Int}{H:Hp}(h:Zi9 L w x L' k q H){m rd sd b:Addr}:Fp m rd sd L' b↔Fp m rd sd L b:=by
 rcases h with⟨_,_,rfl,_⟩|⟨e,t,z,_,_,_,_,_,rfl,_⟩
 ·exact Iff.rfl
 ·exact⟨ZmX,Fp_bump'⟩
theorem Z3.fp_live{cR cM:Addr}{H:Hp}{m rd sd:Addr}{L:List Zz}{s:StL}{nb li lo:Int}{best:V}(M:Z3 cR cM H m rd sd L s nb li lo best){b:Addr}(h:Fp m rd sd L b):∃o,H b=some o∧∀xs,o≠.tup xs:=by
 rcases h with rfl|rfl|rfl|⟨e,he,h⟩
 ·obtain⟨dx,hd⟩:=M.ob;exact⟨_,hd,fun xs z=>by cases z⟩
 ·exact⟨_,M.rows,fun xs z=>by cases z⟩
 ·exact⟨_,M.stays,fun xs z=>by cases z⟩
 ·have R:=(M.each e he).at'
  obtain⟨dx,hd⟩:=R.ob
  rcases h with rfl|rfl|rfl
  ·exact⟨_,hd,fun xs z=>by cases z⟩
  ·exact⟨_,R.ks,fun xs z=>by cases z⟩
  ·exact⟨_,R.fs,fun xs z=>by cases z⟩
theorem Z3.fp_fresh{cR cM:Addr}{H:Hp}{m rd sd:Addr}{L:List Zz}{s:StL}{nb li lo:Int}{best:V}(M:Z3 cR cM H m rd sd L s nb li lo best){b:Addr}(h:H b=none):¬ Fp m rd sd L b:=fun z=>by
 obtain⟨o,ho,_⟩:=M.fp_live z
 rw[h]at ho;cases ho
theorem Z3.fp_tup{cR cM:Addr}{H:Hp}{m rd sd:Addr}{L:List Zz}{s:StL}{nb li lo:Int}{best:V}(M:Z3 cR cM H m rd sd L s nb li lo best){b:Addr}{xs:List V}(h:H b=some (.tup xs)):¬ Fp m rd sd L b:=fun z=>by
 obtain⟨o,ho,hn⟩:=M.fp_live z
 rw[h]at ho;cases ho;exact hn xs rfl
theorem ZoD(T:Zaq K mg cRow cMerge)(f_Merge_take:Mf P w K mg base 6 cMerge "take" ["self"] (Zlg cRow cMerge)):Mf P w K mg base 7 cMerge "take_few" ["self", "many"] (ZnF K cRow cMerge):=by
 refine T.t_Merge_take_few.mf ZbP (fun vs H Q E h=>?_) (fun cdv f A outer s H vs Q E hr h=>?_)
 ·obtain⟨m,rd,sd,L,s,nb,li,lo,w,many,rfl,_⟩:=h
  rfl
 obtain⟨m,rd,sd,L,s,nb,li,lo',w,many,rfl,M,W,ok,hleft,q⟩:=h
 refine⟨_,#[Zg,#[Zv,2,ZbP.nd,(Or.inl rfl),#[ZaN,#[Ze]]],#[Zg,(@ZfC _ _ _ _ _ _ PassesOwn.never (@PW.pt _ _ _ #[Zem,#[Zs,Ze2,#[Zk,(Zb5 K),(by rfl),T.b.n_len,Qt,#[Za,‹2›,#[Ze]]],‹1›,(Zu _)],(@ZdQ _ _ _ _ #[Zs,ZeR,#[ZW,‹0›],#[Zaj],(Zu _)])]) #[Zj,#[Za0,#[ZeD,QW,Q6,Q7,Za4,‹2›,#[Za,#[ZaU,f_Merge_take,T.cl_Merge,hr,‹0›],#[Ze]]]]]),#[Zj,#[Zr,‹2›]]]],?_⟩
 have nd:(ZD (ZaA L)).Nodup:=by rw[← ZaZ];exact M.nd
 refine⟨(by show 0≤sizeLine;decide),fun r hr0=>?_⟩
 have nfr:=M.fp_fresh hr0
 refine⟨fun mm σ H2=>∃ (us:List (Addr×ZS)) (L':List Zz) (s':StL) (w':Option Int) (k q':Int),σ=[some (.ref m),some (.int many),some (.ref r)]∧H2 r=some (.lst (us.map fun u=>V.ref u.1))∧(∀u∈us,u.1≠r∧H2 u.1=some (.tup [.int u.2.1,.int (u.2.2.1:Int),.str u.2.2.2]))∧Zao (ZaA L) (us.map (·.2)) (ZaA L') k q'∧(us≠[]→(us.length:Int)≤many)∧Z3 cRow cMerge H2 m rd sd L' s' nb (li+k) (lo'+q') (Zdj w')∧Win (hdM L') (Zx L') w'∧Z4 (hdM L') s' (Zx L')∧(∀b,Fp m rd sd L' b↔Fp m rd sd L b)∧(∀b o,H b=some o→¬ Fp m rd sd L b→H2 b=some o)∧mm=ZaM (ZaA L'),⟨_,[],L,s,w,0,0,rfl,Zd,(fun u h=>by cases h),.nil,(fun h=>absurd rfl h),(M.same (Zi hr0 _)).cast (by omega) (by omega),W,ok,fun _=>Iff.rfl,fun b o hb _=>Zi hr0 _ _ _ hb,rfl⟩,?_⟩
 rintro mm σ H2 ⟨us,L1,s1,w1,k,q',rfl,hr2,hus,htk,hmany,M2,W2,ok2,hfp,k2,rfl⟩
 have hul:(((us.map fun u=>V.ref u.1).length:Nat):Int)=(us.length:Int):=by rw[Qa]
 have hlf:=htk.left nd
 rw[Qa]at hlf
 obtain⟨dx2,hm2⟩:=M2.ob
 have done:((us.length:Int)<many→w1=none)→Q (.ref r) H2:=fun hd=>q r us L1 s1 w1 k q' H2 hr0 hr2 (fun u hu=>(hus u hu).2) htk hd hmany M2 W2 ok2 hfp k2
 refine⟨_,rfl,r,_,rfl,.inl (SqL.of hr2),_,rfl,_,_,rfl,rfl,_,rfl,Zbo (fun d1=>?_) (fun d1=>?_)⟩
 ·have d1':(us.length:Int)<many:=by have:=of_decide_eq_true d1;omega
  refine⟨_,rfl,xw5 m cMerge dx2 _ _ ⟨rfl,hm2,T.cl_Merge,T.na_Merge_best,ZcW ..,rfl,_,rfl,?_⟩⟩
  cases w1 with
  | none=>exact Zfn rfl ⟨_,rfl,done fun _=>rfl⟩
  | some a =>
  refine ZlW (fun z=>nomatch z) ?_
  refine⟨_,fun σ' H' h=>h,?_⟩
  refine⟨_,rfl,.inl ⟨rfl,_,SqL.of hr2⟩,_,rfl,m,dx2,_,rfl,hm2,Ze7 ..,m,rd,sd,L1,s1,nb,_,_,some a,rfl,M2,W2,ok2,fun x L3 s3 w3 k3 q3 H3 hR M3 W3 ok3 kp3=>?_⟩
  have hr3:H3 r=some (.lst (us.map fun u=>V.ref u.1)):=kp3 _ _ hr2 (fun z=>nfr ((hfp r).mp z))
  rcases Zge W2 hR with⟨w0,_⟩|⟨y,z,t,stp,eL,rfl,ht⟩
  ·rw[Zcy,ZaZ]at W2
   exact nomatch w0.one W2
  have hbl:=Zd9 _ (by rw[htk.num];exact nd) stp.1 (Qe.mp stp.2.1).1
  have htr:t≠r:=fun e=>by rw[e,hr3]at ht;cases ht
  refine⟨r,_,_,rfl,rfl,hr3,(by rw[Qa,sizeLine_eq];omega),ZaM (ZaA L3),by rw[eL];omega,us++[(t,(y.1,y.2.2,z))],L3,s3,w3,k+k3,q'+q3,rfl,by rw[Zd,Qh];rfl,fun u hu=>?_,?_,fun _=>by rw[Qd,QD];omega,?_,W3,ok3,fun b=>(hR.fp).trans (hfp b),fun b o hb nf=>?_,rfl⟩
  ·rcases Qm.mp hu with hu|hu
   ·obtain⟨g2,g3⟩:=hus u hu
    exact⟨g2,by rw[Zc g2];exact kp3 _ _ g3 (M2.fp_tup g3)⟩
   ·rw[Qk.mp hu]
    exact⟨htr,by rw[Zc htr];exact ht⟩
  ·rw[Qh,eL]
   exact .snoc htk stp
  ·refine Z3.cast (M3.keep fun b o hb hor=>?_) (by omega) (by omega)
   rw[Zc (fun e=>?_)]
   ·exact hb
   ·subst e
    rcases hor with hf|⟨xs,rfl⟩
    ·exact nfr ((hfp b).mp (hR.fp.mp hf))
    ·rw[hr3]at hb;cases hb
  ·rw[Zc (Zb hb hr0)]
   exact kp3 b o (k2 b o hb nf) (fun z=>nf ((hfp b).mp z))
 ·refine Zcz ⟨_,rfl,done fun h=>?_⟩
  have:¬ ((((us.map fun u=>V.ref u.1).length:Nat):Int)<many):=fun z=>d1 (decide_eq_true z)
  omega
structure MS where
 m:Addr
 rd:Addr
 sd:Addr
 L:List Zz
 s:StL
 nb:Int
 li:Int
 lo:Int
 w:Option Int
structure OS where
 o:Addr
 ra:Addr
 ga:Addr
 Lo:List ZcO
 nb:Int
def ZpX(Y:OS)(b:Addr):Prop:=b=Y.o∨b=Y.ra∨b=Y.ga∨∃e∈Y.Lo,b=e.2.1
def MFp(X:MS)(b:Addr):Prop:=Fp X.m X.rd X.sd X.L b
structure MOk (cR cM:Addr) (H:Hp) (X:MS):Prop where
 M:Z3 cR cM H X.m X.rd X.sd X.L X.s X.nb X.li X.lo (Zdj X.w)
 W:Win (hdM X.L) (Zx X.L) X.w
 ok:Z4 (hdM X.L) X.s (Zx X.L)
structure Pair (cR cM:Addr) (H:Hp) (X:MS) (Y:OS):Prop where
 mg:MOk cR cM H X
 ow:Own H Y.o Y.ra Y.ga Y.Lo Y.nb X.li X.lo
 ag:Agr Y.Lo X.L
 sep:∀b,MFp X b→¬ ZpX Y b
theorem MOk.same{cR cM:Addr}{H H':Hp}{X:MS}(h:MOk cR cM H X)(s:ZH H H'):MOk cR cM H' X:=⟨h.M.same s,h.W,h.ok⟩
def Zan(rs:List (Addr×List Str)):List ZC:=(ZbM 0 rs.length).zip (rs.map fun x=>(x.2,0))
theorem Zi8{α β γ:Type}(f:α→β)(g:α→γ):∀l:List α,l.map (fun x=>(f x,g x))=(l.map f).zip (l.map g)
 | []=>rfl
 | x::r=>by rw[Qi,Qi,Qi,Qak,Zi8 f g r]
theorem Zhw{L:List Zz}{rs:List (Addr×List Str)}(h:ZnR L rs):ZaA L=Zan rs:=by
 unfold ZaA Zan
 rw[Zi8 (fun e:Zz=>e.n) (fun e=>(e.ss,e.g)) L,← h.1,← h.2];rfl
theorem ZdM(rs:List (Addr×List Str)):ZaM (Zan rs)=(rs.map fun x=>x.2.length).sum:=by
 unfold ZaM Zan
 have e:((ZbM 0 rs.length).zip (rs.map fun x=>(x.2,0))).map (fun x:ZC=>x.2.1.length-x.2.2)=((((ZbM 0 rs.length).zip (rs.map fun x=>(x.2,0))).map (·.2))).map (fun y:List Str×Nat=>y.1.length-y.2):=by rw[Qy];rfl
 rw[e,List.map_snd_zip (by rw[Qa,ZfH];exact Qg _),Qy]
 rfl
def Zef:Sp:=fun vs H Q _=>∃ (r:Addr) (rs:List (Addr×List Str)),vs=[.ref r]∧Za1 H r rs∧∀H':Hp,ZH H H'→Q (.int (((rs.map fun x=>x.2.length).sum:Nat):Int)) H'
theorem Zhh:∀rs:List (Addr×List Str),(rs.map fun x=>(x.2.length:Int)).sum=(((rs.map fun x=>x.2.length).sum:Nat):Int)
 | []=>rfl
 | x::r=>by rw[Qi,Qi,QN,QN,Zhh r,Qaf]
theorem Zhj(T:Zaq K mg cRow cMerge):Df P w K mg base 1 "how_many" ["rows"] Zef:=by
 refine T.t_how_many.df ZhY (fun vs H Q E h=>?_) (fun cdv f A outer s H vs Q E hr h=>?_)
 ·obtain⟨r,rs,rfl,_⟩:=h
  rfl
 obtain⟨r,rs,rfl,hrs,q⟩:=h
 refine⟨_,#[Zj,#[Zr,#[Zk,(ZmJ K),(by rfl),T.b.n_sum,boot_sum,#[Za,#[Zbl,Znp,#[iL,K,‹0›],(fun _ _ _ _=>#[cg,1,Znp]),(fun _ _ _ _=>(@Za9 _)),(fun _ _ _ _=>#[Zk,(Zb5 K),(ZaR Znp rfl (by ac_rfl)),T.b.n_len,Qt,#[Za,#[cw,1,Znp],#[Ze]]])],#[Ze]]]]],?_⟩
 have hfew:=hrs.few
 refine⟨_,rfl,r,rfl,⟨_,SqL.of hrs.at'⟩,fun D hD=>?_⟩
 refine Zc7 (K:=K) (a:=r) (xs:=rs.map fun x=>V.ref x.1) (fun i zs σ H2=>(∃v:Option V,σ=[some (.ref r),v])∧zs=((rs.take i).map fun x=>(x.2.length:Int)).map V.int∧i≤rs.length∧H2 D=some (.lst zs)∧ZH H H2) ?_ (fun _ _ _ _ h=>SqL.of (h.2.2.2.2 _ _ hrs.at')) ?_ ?_
 ·exact⟨⟨none,rfl⟩,rfl,Qp _,Zd,Zi hD _⟩
 ·rintro i y zs σ H2 hy ⟨⟨v,rfl⟩,rfl,hi,hD2,s2⟩
  rw[Qs]at hy
  cases hz:rs[i]? with
  | none=>rw[hz]at hy;cases hy
  | some x =>
  rw[hz]at hy
  cases hy
  have hil:i<rs.length:=(Qe.mp hz).1
  refine⟨_,rfl,x.1,_,rfl,.inl (SqL.of (s2 _ _ (hrs.lst x (Qw hz)).1)),hD2,(by rw[Qa,Qa,Qq];exact Z2 (by omega)),⟨_,rfl⟩,?_,hil,Zd,fun b u hb=>?_⟩
  ·rw[QM,hz,Qh,Qh,Qa];rfl
  ·rw[Zc (Zb hb hD)];exact s2 b u hb
 rintro zs σ H2 ⟨⟨v,rfl⟩,rfl,_,hD2,s2⟩
 rw[Qa,Qu (Qg _)]at hD2
 refine⟨D,_,rfl,SqL.of hD2,by rw[Qa];omega,fun n hn=>?_,?_⟩
 ·obtain⟨x,hx,rfl⟩:=QJ.mp hn
  have:=(hrs.lst x hx).2.1
  omega
 ·rw[Zhh];exact q H2 s2
def Zh6:Sp:=fun vs H Q _=>∃ (r:Addr) (rs:List (Addr×List Str)),vs=[.ref r]∧Za1 H r rs∧(∀x∈rs,sortedS x.2=true)∧∀ (t:Addr) (k0 q0 k1 q1:Int) (H':Hp),Zbs (hdP (Zan rs)) 8 (ZD (Zan rs)) k0 q0→ZbG (Zan rs) k1 q1→H' t=some (.tup [.int (k0+k1),.int (q0+q1)])→ZH H H'→Q (.ref t) H'
theorem ZjJ(rd:Addr)(nb li lo:Int)(sd:Addr)(best:V):(mgF rd nb li lo sd best).lookup ("take_few" : Str)=none:=Zbu _ _ _ _ _ _ (by ac_rfl) (by ac_rfl) (by ac_rfl) (by ac_rfl) (by ac_rfl) (by ac_rfl)
theorem Zik(rs:List (Addr×List Str))(h:∀x∈rs,x.2.length≤100):(rs.map fun x=>x.2.length).sum≤rs.length*100:=by
 induction rs with
 | nil=>exact Qg _
 | cons x r ih =>
  have:=ih fun y hy=>h y (Ql _ hy)
  have:=h x (by simp)
  rw[Qi,QN,QC]
  omega
theorem ZjZ(T:Zaq K mg cRow cMerge)(f_Merge_init:Cf P w K mg base 14 cMerge "Merge" ["self", "rows"] (ZeE cRow cMerge))(f_Merge_take_few:Mf P w K mg base 7 cMerge "take_few" ["self", "many"] (ZnF K cRow cMerge))(f_how_many:Df P w K mg base 1 "how_many" ["rows"] Zef)
  (f_Merge_likenings:Mf P w K mg base 1 cMerge "likenings" ["self"] (ZnL cRow cMerge)) (f_Merge_looks:Mf P w K mg base 1 cMerge "looks" ["self"] (ZnJ cRow cMerge)):Df P w K mg base 16 "counts" ["rows"] Zh6:=by
 refine T.t_counts.df Zgw (fun vs H Q E h=>?_) (fun cdv f A outer s H vs Q E hr h=>?_)
 ·obtain⟨r,rs,rfl,_⟩:=h
  rfl
 obtain⟨r,rs,rfl,hrs,hsrt,q⟩:=h
 refine⟨_,#[Zg,#[Zv,1,Zgw.nd,(Or.inl rfl),#[ZkD,f_Merge_init,hr,#[Za,‹0›,#[Ze]]]],#[Zg,#[Za0,#[ZeA,f_Merge_take_few,T.cl_Merge,hr,‹1›,#[Za,#[ZB,f_how_many,hr,#[Za,‹0›,#[Ze]],(by rfl)],#[Ze]]]],#[Zj,#[Zr,#[Zay,#[Za,#[ZaU,f_Merge_likenings,T.cl_Merge,hr,‹1›],#[Za,#[ZaU,f_Merge_looks,T.cl_Merge,hr,‹1›],#[Ze]]]]]]]],?_⟩
 refine⟨_,rfl,fun m dx hm hdx nmd=>?_⟩
 have s1:ZH H (upd (upd H dx (.own m)) m (.ins cMerge dx [])):=fun b o hb=>by rw[Zc (Zb hb hm),Zc (Zb hb hdx)];exact hb
 have hm1:(upd (upd H dx (.own m)) m (.ins cMerge dx [])) m=some (.ins cMerge dx []):=Zd
 generalize upd (upd H dx (.own m)) m (.ins cMerge dx [])=H1 at s1 hm1 ⊢
 refine(xw4 m dx r rs ⟨rfl,hm1,hrs.same s1,hsrt,fun rd sd L st w0 k0 q0 H2 M2 hnew W2 S2 P2 fp2 k2=>⟨rfl,?_⟩⟩)
 have s2:ZH H H2:=fun b o hb=>k2 b o (s1 b o hb) (Zb hb hm)
 have fpH:∀b,Fp m rd sd L b→H b=none:=fun b hb=>by
  rcases fp2 b hb with z|z
  ·rw[z];exact hm
  ·exact s1.free z
 have ok2:=ZdV 8 (hdM L) st (Zx L) M2.up (QP (show (Zx L).length≤60 by unfold Zx;rw[Qa];exact M2.few) (by decide)) (by decide) S2
 have eP:=Zhw hnew
 obtain⟨dx2,hm2⟩:=M2.ob
 have hsum:=Zik rs fun x hx=>(hrs.lst x hx).2.1
 have hfew:=hrs.few
 have hl:=ZdM rs
 refine⟨_,rfl,m,dx2,_,rfl,hm2,ZjJ ..,_,rfl,r,rs,rfl,hrs.same s2,fun H3 s3=>?_⟩
 have M3:=M2.same s3
 refine⟨m,rd,sd,L,st,_,k0,q0,w0,_,rfl,M3,W2,ok2,by rw[eP,hl];omega,fun rr us L' s' w' k1 q1 H4 hrr hrr4 hus htk hfin hmany M4 W4 ok4 fp4 k4=>?_⟩
 have s4:ZH H H4:=fun b o hb=>k4 b o (s3 b o (s2 b o hb)) fun z=>by rw[fpH b z]at hb;cases hb
 have nd:(ZD (ZaA L)).Nodup:=by rw[← ZaZ];exact M2.nd
 have hlf:=htk.left nd
 rw[Qa,eP,hl]at hlf
 have nd':(ZD (ZaA L')).Nodup:=by rw[htk.num];exact nd
 have wn:Win (hdP (ZaA L')) (ZD (ZaA L')) none:=by
  by_cases hlt:(us.length:Int)<(((rs.map fun x=>x.2.length).sum:Nat):Int)
  ·have:=hfin hlt
   subst this
   rw[Zcy,ZaZ]at W4
   exact W4
  ·refine Zkr nd' (by omega) fun x hx=>?_
   obtain⟨e,he,rfl⟩:=QJ.mp hx
   exact(M4.each e he).le
 have hends:=htk.ends (.stop wn)
 rw[Qai,Qai,eP]at hends
 obtain⟨dx4,hm4⟩:=M4.ob
 refine⟨_,rfl,m,dx4,_,rfl,hm4,ZcC ..,m,rd,sd,L',s',xw4 _ _ _ _ ⟨rfl,M4,?_⟩⟩
 refine⟨_,rfl,m,dx4,_,rfl,hm4,ZeG ..,m,rd,sd,L',s',xw4 _ _ _ _ ⟨rfl,M4,(by show 2≤sizeLine;decide),fun t ht=>?_⟩⟩
 exact q t k0 q0 k1 q1 _ (by rw[← eP,← Zcy,← ZaZ];exact P2) hends Zd (s4.trans (Zi ht _))
theorem Zeh:∀a b:List Nat,Spec.ltCps a b=true↔a<b
 | [],[]=>by simp[Spec.ltCps]
 | [],y::s=>by simp[Spec.ltCps]
 | x::r,[]=>by simp[Spec.ltCps]
 | x::r,y::s=>by
  have ih:=Zeh r s
  rw[List.cons_lt_cons_iff]
  simp[Spec.ltCps,ih]
def LeS(a b:Str):Prop:=¬ b.cps.toList<a.cps.toList
theorem LeS.trans{a b c:Str}(h:LeS a b)(k:LeS b c):LeS a c:=List.not_lt.mpr (List.le_trans (List.not_lt.mp h) (List.not_lt.mp k))
theorem Zgt:∀ (r:List Str) (x:Str),risingS x r=true↔(x::r).Pairwise LeS
 | [],x=>by simp[risingS]
 | y::r,x=>by
  have ih:=Zgt r y
  rw[List.pairwise_cons]
  unfold risingS
  rw[QaI,Bool.not_eq_true']
  constructor
  ·rintro⟨h1,h2⟩
   have p:=ih.mp h2
   have hxy:LeS x y:=fun z=>by rw[(Zeh _ _).mpr z]at h1;cases h1
   refine⟨fun b hb=>?_,p⟩
   rcases QH.mp hb with rfl|hb
   ·exact hxy
   ·exact hxy.trans ((List.pairwise_cons.mp p).1 b hb)
  ·rintro⟨h1,h2⟩
   exact⟨Bool.eq_false_iff.mpr fun z=>h1 y (by simp) ((Zeh _ _).mp z),ih.mpr h2⟩
theorem Zfs(ss:List Str):sortedS ss=true↔ss.Pairwise LeS:=by
 cases ss with
 | nil=>simp[sortedS]
 | cons x r=>exact Zgt r x
def hgt(m:Nat):Nat:=if m≤1 then 0 else (m-1).log2+1
theorem ZkE(m:Nat)(h:1<m):hgt m=hgt ((m+1) / 2)+1:=by
 unfold hgt
 rw[if_neg (by omega)]
 by_cases h2:m=2
 ·subst h2;decide
 ·rw[if_neg (by omega),Nat.log2_def (m-1),if_pos (by omega)]
  rw[show (m+1) / 2-1=(m-1) / 2 by omega]
theorem Zkm:∀ (a b:Nat),a≤b→a.log2≤b.log2:=fun a b h=>by
 by_cases ha:a=0
 ·subst ha;simp
 ·exact(Nat.le_log2 (by omega)).mpr (QP (Nat.log2_self_le ha) h)
theorem Zlz(a b:Nat)(h:a≤b):hgt a≤hgt b:=by
 unfold hgt
 by_cases h1:a≤1
 ·rw[if_pos h1];omega
 ·rw[if_neg h1,if_neg (by omega)]
  have:=Zkm (a-1) (b-1) (by omega)
  omega
theorem ZkN:∀ (f:Nat) (ns:List Int) (n:Int),ns.length≤f+1→(way ns n).length≤hgt ns.length
 | 0,ns,n,h=>by rw[ZdU (by omega)];exact Qp _
 | f+1,ns,n,h=>by
  by_cases h1:1<ns.length
  ·have a:=ZcQ (n:=n) h1
   have ih:=ZkN f (Za8 ns n) n (by omega)
   have b:hgt (Za8 ns n).length≤hgt ((ns.length+1) / 2):=by
    apply Zlz
    unfold Za8
    split
    ·rw[ZgI];omega
    ·rw[Zgz];omega
   rw[ZfE h1,QC,ZkE _ h1]
   omega
  ·rw[ZdU (by omega)];exact Qp _
theorem Zmg(m:Nat)(h:0<m):((Builtin.Int.intBits ((m:Int)-1):Nat):Int)=(hgt m:Nat):=by
 unfold Builtin.Int.intBits hgt
 have e:((m:Int)-1).natAbs=m-1:=by omega
 by_cases h1:m≤1
 ·have e0:(m:Int)-1=0:=by omega
  rw[if_pos h1,e0];rfl
 ·have e0:(((m:Int)-1) == 0)=false:=by simpa using (by omega:¬ (m:Int)-1=0)
  rw[if_neg h1,e0,e];rfl
def Zfv:Sp:=fun vs H Q _=>∃m:Nat,vs=[.int m]∧Q (.int (hgt m:Nat)) H
theorem Zj1(T:Zaq K mg cRow cMerge):Df P w K mg base 1 "height" ["many"] Zfv:=by
 refine T.t_height.df Zj4 (fun vs H Q E h=>?_) (fun cdv f A outer s H vs Q E hr h=>?_)
 ·obtain⟨m,rfl,_⟩:=h
  rfl
 obtain⟨m,rfl,q⟩:=h
 refine⟨_,#[Zj,#[Zr,#[Zbe,#[Zs,Zbx,‹0›,#[Zh],(Zu _)],#[Zh],(@Zlb _ _ _ _ _ _ _ _ _ PySem.F.plainAttrs_int PySem.F.slot_int_bit_length PySem.F.type_int_bit_length Zna #[ZI,Zc4,‹0›,#[Zh]] (by rfl) (by rfl))]]],?_⟩
 refine⟨_,rfl,rfl,_,rfl,?_⟩
 by_cases h0:m=0
 ·subst h0
  exact ZdI rfl q
 ·refine Zcn (fun z=>by injection z with z;omega) ⟨_,rfl,_,_,rfl,rfl,rfl,_,rfl,rfl,?_⟩
  rw[Zmg m (by omega)]
  exact q
def ZcH(P:List ZC):List Str:=P.flatMap fun x=>x.2.1.drop x.2.2
theorem ZiV{ss:List Str}{g:Nat}{z:Str}(h:ss[g]? = some z):ss.drop g=z::ss.drop (g+1):=by
 obtain⟨hlt,e⟩:=Qe.mp h
 rw[List.drop_eq_getElem_cons hlt,e]
theorem ZhA:∀ (P:List ZC),(ZD P).Nodup→∀ {x:ZC} {z:Str},x∈P→x.2.1[x.2.2]? = some z→(z::ZcH (Zav P x.1)).Perm (ZcH P)
 | [],_,_,_,h,_=>by cases h
 | y::P,nd,x,z,h,hz=>by
  unfold ZD at nd
  rw[Qi,Q8]at nd
  unfold ZcH Zav
  rw[Qi,Qae,Qae]
  rcases QH.mp h with rfl|h
  ·have e:P.map (Za3 x.1)=P:=by
    conv=>rhs;rw[← List.map_id P]
    refine QU fun u hu=>?_
    unfold Za3
    rw[if_neg (fun z:u.1=x.1=>nd.1 (z ▸ Qn (f:=fun x:ZC=>x.1) hu))]
    rfl
   rw[e,ZiV hz]
   unfold Za3
   rw[if_pos rfl]
   exact List.Perm.refl _
  ·have ih:=ZhA P nd.2 h hz
   unfold ZcH Zav at ih
   have e:Za3 x.1 y=y:=if_neg (fun z:y.1=x.1=>nd.1 (z ▸ Qn (f:=fun x:ZC=>x.1) h))
   rw[e]
   exact List.perm_middle.symm.trans (ih.append_left _)
theorem Zk4{a b:Str}(h:ZG (cds a) (cds b)≤0):LeS a b:=fun z=>by
 have z':cds b<cds a:=z
 have:=(Ze1 _ _).mp z'
 have:=Zbf (cds a) (cds b)
 omega
theorem LeS.refl(a:Str):LeS a a:=Zk4 (by rw[Zex];exact QaH _)
theorem LeS.anti{a b:Str}(h:LeS a b)(k:LeS b a):a=b:=by
 have h1:¬ ZG (cds b) (cds a)<0:=fun z=>h ((Ze1 _ _).mpr z)
 have h2:¬ ZG (cds a) (cds b)<0:=fun z=>k ((Ze1 _ _).mpr z)
 have:=Zbf (cds a) (cds b)
 have e:cds a=cds b:=Zer _ _ (by omega)
 obtain⟨⟨a⟩⟩:=a
 obtain⟨⟨b⟩⟩:=b
 have e':a=b:=e
 rw[e']
def ZeJ(P:List ZC):Prop:=∀x∈P,sortedS x.2.1=true
theorem ZeJ.bump{P:List ZC}(h:ZeJ P)(n:Int):ZeJ (Zav P n):=fun x hx=>by
 obtain⟨y,hy,rfl⟩:=QJ.mp hx
 unfold Za3
 split
 ·exact h y hy
 ·exact h y hy
theorem Zdn.le{P:List ZC}(nd:(ZD P).Nodup)(srt:ZeJ P){x:ZC}{z:Str}{k q:Int}(h:Zdn P x z k q):∀y∈ZcH P,LeS z y:=fun y hy=>by
 obtain⟨hx,hz,W,_⟩:=h
 obtain⟨_,zc,hzc,hall⟩:=W
 rw[ZcX nd hx,hz]at hzc
 have hzc':cds z=zc:=Qj hzc
 subst hzc'
 obtain⟨u,hu,hyu⟩:=QaL.mp hy
 cases hh:u.2.1[u.2.2]? with
 | none=>rw[List.drop_eq_nil_of_le (List.getElem?_eq_none_iff.mp hh)]at hyu;cases hyu
 | some hd =>
  have hle:LeS hd y:=by
   have p:(u.2.1.drop u.2.2).Pairwise LeS:=((Zfs _).mp (srt u hu)).sublist (QaD _ _)
   rw[ZiV hh]at p hyu
   rcases QH.mp hyu with rfl|hyu
   ·exact LeS.refl _
   ·exact(List.pairwise_cons.mp p).1 y hyu
  have hd':=ZcX nd hu
  rw[hh]at hd'
  rcases hall u.1 (Qn (f:=fun x:ZC=>x.1) hu) _ hd' with e|b
  ·have e2:=Zd6 nd hu hx e
   subst e2
   have:=Qj (hz.symm.trans hh)
   rw[this];exact hle
  ·refine(Zk4 ?_).trans hle
   rcases b with b|⟨b,_⟩<;>omega
theorem ZjI{P P':List ZC}{ts:List ZS}{k q:Int}(h:Zao P ts P' k q)(nd:(ZD P).Nodup)(srt:ZeJ P):ZeJ P'∧(ts.map (·.2.2)++ZcH P').Perm (ZcH P)∧(ts.map (·.2.2)).Pairwise LeS∧∀a∈ts.map (·.2.2),∀b∈ZcH P',LeS a b:=by
 induction h with
 | nil=>exact⟨srt,List.Perm.refl _,List.Pairwise.nil,fun a ha=>by cases ha⟩
 | snoc h s ih =>
  obtain⟨i1,i2,i3,i4⟩:=ih
  have nd1:=nd
  rw[← h.num]at nd1
  have pm:=ZhA _ nd1 s.1 s.2.1
  have le:=s.le nd1 i1
  refine⟨i1.bump _,?_,?_,fun a ha b hb=>?_⟩
  ·rw[Qh,QS]
   exact(pm.append_left _).trans i2
  ·rw[Qh]
   refine List.pairwise_append.mpr ⟨i3,List.pairwise_singleton _ _,fun a ha b hb=>?_⟩
   have eb:=Qk.mp hb
   rw[eb]
   exact i4 a ha _ (pm.mem_iff.mp (QK ..))
  ·have hb':=pm.mem_iff.mp (Ql _ hb)
   rw[Qh]at ha
   rcases Qm.mp ha with ha|ha
   ·exact i4 a ha b hb'
   ·rw[Qk.mp ha]
    exact le b hb'
theorem Znt{P:List ZC}(h:ZaM P=0):ZcH P=[]:=by
 have e:(ZcH P).length=ZaM P:=by
  unfold ZcH ZaM
  rw[List.length_flatMap]
  congr 1
  refine QU fun x _=>?_
  rw[QI]
 exact QL (e.trans h)
theorem ZjC{P P':List ZC}{ts:List ZS}{k q:Int}(h:Zao P ts P' k q)(nd:(ZD P).Nodup)(srt:ZeJ P)(hl:ZaM P'=0):(ts.map (·.2.2)).Perm (ZcH P)∧sortedS (ts.map (·.2.2))=true:=by
 obtain⟨_,p,s,_⟩:=ZjI h nd srt
 rw[Znt hl,Qav]at p
 exact⟨p,(Zfs _).mpr s⟩
theorem ZiE{K:PySem.W.Frag}{a:Addr}{xs:List V}{k:Nat}{D:Addr}{σ:L2.St}{H1:Hp}{g:TG}{tc:TT}{te:TE}{Q:VK}(Pv:Nat→List V→L2.St→Hp→Prop)(h0:Pv 0 [] (σ++List.replicate k none) (upd H1 D (.lst [])))
  (hl:∀i zs σ H,Pv i zs σ H→SqL K H a xs)
  (hs:∀i zs σ H x p,xs[i]? = some x→Pv i zs σ H→H p=none→g (.ref p) σ (upd H p (.tup [.int i,x])) fun σ4 H4=>tc σ4 H4 fun b H5=>if b=true then te σ4 H5 fun z H6=>H6 D=some (.lst zs)∧zs.length<sizeLine∧Pv (i+1) (zs++[z]) σ4 (upd H6 D (.lst (zs++[z]))) else Pv (i+1) zs σ4 H5)
  (hd:∀zs σ H,Pv xs.length zs σ H→Q (.ref D) H):ZdG (Ite K a) D k σ H1 g tc te Q:=by
 refine⟨fun i m zs σ H=>m=xs.length-i∧i≤xs.length∧Pv i zs σ H,⟨xs.length,by simp,Qp _,h0⟩,?_⟩
 rintro i m zs σ H ⟨rfl,hi,p⟩
 have q1:=hl i zs σ H p
 by_cases hlt:i<xs.length
 ·refine .inr ⟨⟨xs,q1,hlt⟩,Pv (i+1),fun ys' σ' H' p'=>⟨xs.length-(i+1),by omega,rfl,hlt,p'⟩,fun x H' y=>?_⟩
  obtain⟨r,hr,rfl,e⟩:=y
  have e':=e xs q1 _ (Qb hlt)
  subst e'
  exact hs i zs σ H _ r (Qb hlt) p hr
 ·have e:i=xs.length:=by omega
  exact .inl ⟨⟨xs,q1,by omega⟩,hd zs σ H (e ▸ p)⟩
def ZpA(P:List ZC)(x:ZC)(z:Str):Prop:=x∈P∧x.2.1[x.2.2]? = some z∧Win (hdP P) (ZD P) (some x.1)
inductive TkW (P:List ZC):List ZS→List ZC→Prop
 | nil:TkW P [] P
 | snoc {ts:List ZS} {P1:List ZC} {x:ZC} {z:Str}:TkW P ts P1→ZpA P1 x z→TkW P (ts++[(x.1,x.2.2,z)]) (Zav P1 x.1)
theorem Zao.tk{P P':List ZC}{ts:List ZS}{k q:Int}(h:Zao P ts P' k q):TkW P ts P':=by
 induction h with
 | nil=>exact .nil
 | snoc h s ih=>exact .snoc ih ⟨s.1,s.2.1,s.2.2.1⟩
theorem TkW.row{P P':List ZC}{ts:List ZS}(h:TkW P ts P'):∀x∈P',∃y∈P,y.1=x.1∧y.2.1=x.2.1:=by
 induction h with
 | nil=>exact fun x hx=>⟨x,hx,rfl,rfl⟩
 | snoc h s ih =>
  intro x hx
  obtain⟨u,hu,rfl⟩:=QJ.mp hx
  obtain⟨y,hy,e1,e2⟩:=ih u hu
  refine⟨y,hy,?_,?_⟩
  ·unfold Za3;split<;>exact e1
  ·unfold Za3;split<;>exact e2
theorem Zkc{a b:Str}(h:LeS a b):ZG (cds a) (cds b)<0∨a=b:=by
 by_cases e:ZG (cds a) (cds b)<0
 ·exact .inl e
 ·refine .inr (h.anti fun z=>e ((Ze1 _ _).mp z))
theorem Zou{ss:List Str}(h:sortedS ss=true){i j:Nat}(hij:i≤j){x y:Str}(hx:ss[i]? = some x)(hy:ss[j]? = some y):LeS x y:=by
 rcases Nat.lt_or_eq_of_le hij with hlt|rfl
 ·have p:=(Zfs _).mp h
  obtain⟨h1,e1⟩:=Qe.mp hx
  obtain⟨h2,e2⟩:=Qe.mp hy
  rw[← e1,← e2]
  exact QaN.mp p i j h1 h2 hlt
 ·rw[Qj (hx.symm.trans hy)];exact LeS.refl _
theorem Zjo:∀ (ns:List Int) (rs:List (Addr×List Str)),ns.length=rs.length→ZcH (ns.zip (rs.map fun x=>(x.2,0)))=rs.flatMap (·.2)
 | [],[],_=>rfl
 | [],_::_,h=>by cases h
 | _::_,[],h=>by cases h
 | n::ns,x::rs,h=>by
  have ih:=Zjo ns rs (Nat.succ.inj h)
  unfold ZcH at ih ⊢
  rw[Qi,Qak,Qae,Qae,ih]
  rfl
theorem Zjj(rs:List (Addr×List Str)):ZcH (Zan rs)=rs.flatMap (·.2):=Zjo _ _ (by unfold ZbM;rw[Qa,QaE])
theorem ZgC:∀ (ns:List Int) (rs:List (Addr×List Str)),(∀x∈rs,sortedS x.2=true)→ZeJ (ns.zip (rs.map fun x=>(x.2,0)))
 | [],_,_=>fun x hx=>by rw[List.zip_nil_left]at hx;cases hx
 | _::_,[],_=>fun x hx=>by cases hx
 | n::ns,y::rs,h=>fun x hx=>by
  rw[Qi,Qak]at hx
  rcases QH.mp hx with rfl|hx
  ·exact h y (by simp)
  ·exact ZgC ns rs (fun z hz=>h z (Ql _ hz)) x hx
theorem ZkU(rs:List (Addr×List Str)):(ZD (Zan rs)).Nodup:=by
 have e:ZD (Zan rs)=ZbM 0 rs.length:=by
  unfold ZD Zan
  rw[List.map_fst_zip]
  unfold ZbM
  rw[Qa,Qa,QaE]
  exact Qg _
 rw[e]
 exact(ZfG _).imp fun h=>by omega
theorem ZlB(rs:List (Addr×List Str))(h:∀x∈rs,x.2.length≤60):(rs.map fun x=>x.2.length).sum≤rs.length*60:=by
 induction rs with
 | nil=>exact Qg _
 | cons x r ih =>
  have:=ih fun y hy=>h y (Ql _ hy)
  have:=h x (by simp)
  rw[Qi,QN,QC]
  omega
theorem Zao.app{P P1 P2:List ZC}{us ts:List ZS}{k q k' q':Int}(h:Zao P us P1 k q)(g:Zao P1 ts P2 k' q'):Zao P (us++ts) P2 (k+k') (q+q'):=by
 induction g with
 | nil=>rw[Qav,Qai,Qai];exact h
 | snoc _ s ih=>rw[← QS,← Int.add_assoc,← Int.add_assoc];exact .snoc ih s
theorem Zao.cast{P P1:List ZC}{us:List ZS}{k q k' q':Int}(h:Zao P us P1 k q)(e1:k=k')(e2:q=q'):Zao P us P1 k' q':=by subst e1;subst e2;exact h
def kT(u:ZS):List Key:=[.inr u.2.2,.inl u.1,.inl (u.2.1:Int)]
def Zmf(x:ZC):List ZS:=((x.2.1.drop x.2.2).zipIdx x.2.2).map fun e=>(x.1,e.2,e.1)
def Zeo(P:List ZC):List ZS:=P.flatMap Zmf
theorem ZkC{x:ZC}{u:ZS}(h:u∈Zmf x):u.1=x.1∧x.2.2≤u.2.1∧x.2.1[u.2.1]? = some u.2.2:=by
 unfold Zmf at h
 obtain⟨e,he,rfl⟩:=QJ.mp h
 have h1:=List.mem_zipIdx_iff_le_and_getElem?_sub.mp he
 refine⟨rfl,h1.1,?_⟩
 have h2:=h1.2
 rw[List.getElem?_drop]at h2
 show x.2.1[e.2]? = some e.1
 rw[← h2]
 congr 1
 omega
theorem ZhS{P:List ZC}{u:ZS}(h:u∈Zeo P):∃x∈P,u.1=x.1∧x.2.2≤u.2.1∧x.2.1[u.2.1]? = some u.2.2:=by
 obtain⟨x,hx,hu⟩:=QaL.mp h
 exact⟨x,hx,ZkC hu⟩
theorem Zfa(P:List ZC):(Zeo P).length=ZaM P:=by
 unfold Zeo ZaM
 rw[List.length_flatMap]
 congr 1
 refine QU fun x _=>?_
 unfold Zmf
 rw[Qa,List.length_zipIdx,QI]
def Zof(P:List ZC)(D:List ZS):Prop:=D.Perm (Zeo P)∧D.Pairwise fun a b=>Zbv (kT b) (kT a)=false
theorem Zof.len{P:List ZC}{D:List ZS}(O:Zof P D):D.length=ZaM P:=by rw[O.1.length_eq,Zfa]
theorem Zla(rs:List (Addr×List Str))(x:Addr×List Str):Zan (rs++[x])=Zan rs++[((rs.length:Int),x.2,0)]:=by
 unfold Zan
 rw[Qh,Qd,QD]
 have e:ZbM 0 (rs.length+1)=ZbM 0 rs.length++[(rs.length:Int)]:=by
  unfold ZbM
  rw[List.range_succ,Qh,List.map_singleton,Int.zero_add]
 rw[e,List.zip_append (by unfold ZbM;rw[Qa,Qa,QaE])]
 rfl
theorem Zjy(rs:List (Addr×List Str))(x:Addr×List Str):Zeo (Zan (rs++[x]))=Zeo (Zan rs)++(x.2.zipIdx.map fun e=>((rs.length:Int),e.2,e.1)):=by
 rw[Zla]
 unfold Zeo
 rw[List.flatMap_append,List.flatMap_singleton]
 rfl
def Zks(us:List (Addr×ZS)):Zh2:=us.map fun u=>(u.1,kT u.2)
theorem ZfY(us:List (Addr×ZS)):Zfm (Zks us)=us.map fun u=>V.ref u.1:=by unfold Zfm Zks;rw[Qy];rfl
def KAt(H:Hp)(u:Addr×ZS):Prop:=H u.1=some (.tup [.str u.2.2.2,.int u.2.1,.int (u.2.2.1:Int)])
def ZoJ:Sp:=fun vs H Q _=>∃ (r:Addr) (rs:List (Addr×List Str)),vs=[.ref r]∧Za1 H r rs ∧
 ∀ (l:Addr) (us:List (Addr×ZS)) (H':Hp),H l=none→H' l=some (.lst (us.map fun u=>V.ref u.1))→(∀u∈us,KAt H' u)→Zof (Zan rs) (us.map (·.2))→ZH H H'→Q (.ref l) H'
theorem ZjP(T:Zaq K mg cRow cMerge):Df P w K mg base 1 "_law_order" ["_law_rows_here"] ZoJ:=by
 refine T.t_l_order.df Zcu (fun vs H Q E h=>?_) (fun cdv f A outer s H vs Q E hr h=>?_)
 ·obtain⟨r,rs,rfl,_⟩:=h
  rfl
 obtain⟨r,rs,rfl,hrs,q⟩:=h
 refine⟨_,#[Zg,#[Zv,1,Zcu.nd,(Or.inl rfl),#[ZaN,#[Ze]]],#[Zg,#[Zct,PassesOwn.never,#[iE,K,T.b.n_enumerate,#[Za,‹0›,#[Ze]]],#[gT,K,2,#[Zw,#[ZP,2,Zcu.nd,(Or.inr rfl)],#[Zw,#[ZP,3,Zcu.nd,(Or.inl rfl)],(@ZaT _)]]],#[Zj,#[Za0,#[ZeD,QW,PySem.F.slot_list_extend,PySem.F.type_list_extend,Zka,‹1›,#[Za,#[Zbl,ZjQ,#[iE,K,T.b.n_enumerate,#[Za,‹3›,#[Ze]]],(fun _ _ _ _=>#[gT,K,2,#[Zw,#[cg,4,ZjQ],#[Zw,#[cg,5,ZjQ],(@ZaT _)]]]),(fun _ _ _ _=>(@Za9 _)),(fun _ _ _ _=>#[Zay,#[Za,#[cw,5,ZjQ],#[Za,#[cv,2,ZjQ],#[Za,#[cw,4,ZjQ],#[Ze]]]]])],#[Ze]]]]]],#[Zj,#[Zr,#[Zk,(Zpp K),(by rfl),T.b.n_sorted,boot_sorted,#[Za,‹1›,#[Ze]]]]]]],?_⟩
 have hfew:=hrs.few
 refine⟨(by show 0≤sizeLine;decide),fun fo hfo=>?_⟩
 have s1:=Zi hfo (.lst [])
 refine⟨_,rfl,r,_,rfl,SqL.of (s1 _ _ hrs.at'),?_⟩
 refine Zfc (K:=K) (a:=r) (xs:=rs.map fun x=>V.ref x.1) (fun i σ H2=>∃ (v2 v3:Option V) (us:List (Addr×ZS)),σ=[some (.ref r),some (.ref fo),v2,v3]∧H2 fo=some (.lst (us.map fun u=>V.ref u.1))∧(∀u∈us,u.1≠fo∧KAt H2 u)∧us.map (·.2)=Zeo (Zan (rs.take i))∧us.length≤100*i∧ZH H H2) ⟨_,_,[],rfl,Zd,(fun u h=>by cases h),rfl,by decide,s1⟩ (fun i σ H2 hq=>by obtain⟨_,_,_,_,_,_,_,_,s2⟩:=hq;exact SqL.of (s2 _ _ hrs.at')) ?_ ?_
 ·rintro i y σ H2 p hy ⟨v2,v3,us,rfl,hf2,hus,hal,hln,s2⟩ hp
  rw[Qs]at hy
  cases hz:rs[i]? with
  | none=>rw[hz]at hy;cases hy
  | some x =>
  rw[hz]at hy
  cases hy
  have hil:i<rs.length:=(Qe.mp hz).1
  obtain⟨lx,l100,laz⟩:=hrs.lst x (Qw hz)
  have sp:=Zi hp (.tup [.int (i:Int),.ref x.1])
  have hp3:(upd H2 p (.tup [.int (i:Int),.ref x.1])) p=some (.tup [.int (i:Int),.ref x.1]):=Zd
  have hf3:=sp _ _ hf2
  have hus3:∀u∈us,u.1≠fo∧KAt (upd H2 p (.tup [.int (i:Int),.ref x.1])) u:=fun u hu=>⟨(hus u hu).1,sp _ _ (hus u hu).2⟩
  have s3:=s2.trans sp
  generalize upd H2 p (.tup [.int (i:Int),.ref x.1])=H3 at hp3 hf3 hus3 s3 ⊢
  have lx3:=s3 _ _ lx
  refine⟨p,_,rfl,SqT.of hp3,rfl,_,_,rfl,_,_,rfl,rfl,?_⟩
  refine⟨_,rfl,.inl ⟨rfl,_,SqL.of hf3⟩,_,rfl,x.1,x.2.map V.str,rfl,SqL.of lx3,fun D hD=>?_⟩
  refine ZiE (K:=K) (a:=x.1) (xs:=x.2.map V.str) (fun k zs σ H4=>(∃v1 v2:Option V,σ=[some (.ref r),some (.ref fo),some (.int (i:Int)),some (.ref x.1),v1,v2])∧(∃ws:List (Addr×ZS),zs=(ws.map fun u=>V.ref u.1)∧ws.length=k∧ws.map (·.2)=((x.2.zipIdx).take k).map (fun e=>((i:Int),e.2,e.1))∧∀u∈ws,u.1≠D∧H3 u.1=none∧KAt H4 u)∧k≤x.2.length∧H4 D=some (.lst zs)∧ZH H3 H4) ?_ (fun _ _ _ _ h=>SqL.of (h.2.2.2.2 _ _ lx3)) ?_ ?_
  ·exact⟨⟨none,none,rfl⟩,⟨[],rfl,rfl,rfl,fun u h=>by cases h⟩,Qp _,Zd,Zi hD _⟩
  ·rintro k zs σ H4 y p4 hy ⟨⟨v1,v2',rfl⟩,⟨ws,rfl,hwl,hw,hws⟩,hk,hD4,s4⟩ hp4
   rw[Qs]at hy
   cases hz2:x.2[k]? with
   | none=>rw[hz2]at hy;cases hy
   | some z =>
   rw[hz2]at hy
   cases hy
   have hkl:k<x.2.length:=(Qe.mp hz2).1
   have sp4:=Zi hp4 (.tup [.int (k:Int),.str z])
   have hp5:(upd H4 p4 (.tup [.int (k:Int),.str z])) p4=some (.tup [.int (k:Int),.str z]):=Zd
   have hD5:=sp4 _ _ hD4
   have s5:=s4.trans sp4
   have hws5:∀u∈ws,u.1≠D∧H3 u.1=none∧KAt (upd H4 p4 (.tup [.int (k:Int),.str z])) u:=fun u hu=>⟨(hws u hu).1,(hws u hu).2.1,sp4 _ _ (hws u hu).2.2⟩
   generalize upd H4 p4 (.tup [.int (k:Int),.str z])=H5 at hp5 hD5 s5 hws5 ⊢
   refine⟨p4,_,rfl,SqT.of hp5,rfl,_,_,rfl,_,_,rfl,rfl,?_⟩
   refine⟨_,rfl,_,rfl,_,rfl,(by show 3≤sizeLine;decide),fun n hn=>?_⟩
   have sn:=Zi hn (.tup [.str z,.int (i:Int),.int (k:Int)])
   have nDn:D≠n:=Zb hD5 hn
   refine⟨sn _ _ hD5,(by rw[Qa,hwl,sizeLine_eq];omega),⟨_,_,rfl⟩,⟨ws++[(n,((i:Int),k,z))],by rw[Qh];rfl,by rw[Qd,hwl];rfl,?_,fun u hu=>?_⟩,hkl,Zd,fun b o hb=>?_⟩
   ·rw[Qh,hw,QM,List.getElem?_zipIdx,hz2,Qh]
    simp
   ·rcases Qm.mp hu with hu|hu
    ·obtain⟨g1,g2,g3⟩:=hws5 u hu
     exact⟨g1,g2,by show upd _ D _ u.1=_;rw[Zc g1];exact sn _ _ g3⟩
    ·rw[Qk.mp hu]
     exact⟨nDn.symm,s5.free hn,by show upd _ D _ n=_;rw[Zc nDn.symm];exact Zd⟩
   ·rw[Zc (Zb hb hD)];exact sn _ _ (s5 b o hb)
  rintro zs σ H4 ⟨⟨v1,v2',rfl⟩,⟨ws,rfl,hwl,hw,hws⟩,_,hD4,s4⟩
  rw[Qa]at hwl hw
  rw[Qu (by rw[List.length_zipIdx];exact Qg _)]at hw
  have hf4:=s4 _ _ hf3
  have nDf:fo≠D:=Zb hf3 hD
  refine⟨fo,D,_,_,rfl,rfl,hf4,hD4,(by rw[Qa,Qa,hwl,sizeLine_eq];omega),?_⟩
  refine⟨_,_,us++ws,rfl,by rw[Zd,Qh],fun u hu=>?_,?_,by rw[Qd,hwl];omega,fun b o hb=>?_⟩
  ·rcases Qm.mp hu with hu|hu
   ·obtain⟨g1,g2⟩:=hus3 u hu
    exact⟨g1,by show upd _ fo _ u.1=_;rw[Zc g1];exact s4 _ _ g2⟩
   ·obtain⟨g1,g2,g3⟩:=hws u hu
    have nf:u.1≠fo:=fun z=>by rw[z,hf3]at g2;cases g2
    exact⟨nf,by show upd _ fo _ u.1=_;rw[Zc nf];exact g3⟩
  ·rw[Qh,hal,hw,QM,hz]
   show _=Zeo (Zan (rs.take i++[x]))
   rw[Zjy,Qq,QaV (by omega)]
  ·rw[Zc (Zb hb hfo)];exact s4 _ _ (s3 b o hb)
 ·rintro σ H2 ⟨v2,v3,us,rfl,hf2,hus,hal,hln,s2⟩
  rw[Qa,Qu (Qg _)]at hal
  refine⟨_,rfl,fo,Zks us,[false,true,true],rfl,SqL.of (by rw[ZfY];exact hf2),fun t ht=>?_,(by decide),fun t ht=>?_,fun l ts' hl hp hs=>?_⟩
  ·obtain⟨u,hu,rfl⟩:=QJ.mp ht
   exact(hus u hu).2
  ·obtain⟨u,hu,rfl⟩:=QJ.mp ht
   rfl
  ·obtain⟨us',hp',e⟩:=ZhD (fun u:Addr×ZS=>(u.1,kT u.2)) hp us rfl
   have e2:ts'=Zks us':=e
   subst e2
   have sl:=Zi hl (.lst (Zfm (Zks us')))
   refine q l us' _ (s2.free hl) (by rw[Zd,ZfY]) (fun u hu=>sl _ _ (hus u (hp'.mem_iff.mp hu)).2) ⟨?_,?_⟩ (s2.trans sl)
   ·rw[← hal];exact hp'.map _
   ·have:=hs
    unfold Zks at this
    rw[List.pairwise_map]at this ⊢
    exact this
inductive Phi (hd:Hd):List Int→Int→Prop
 | few {N:List Int}:N.length<2→Phi hd N 0
 | no {N:List Int} {f g:Int}:2≤N.length→Phi hd (lo N) f→Phi hd (up N) g→(Win hd (lo N) none∨Win hd (up N) none)→Phi hd N (f+g)
 | both {N:List Int} {f g:Int} {a b:Int} {x y:List Nat}:2≤N.length→Phi hd (lo N) f→Phi hd (up N) g→Win hd (lo N) (some a)→Win hd (up N) (some b)→hd a=some x→hd b=some y→Phi hd N (f+g+(lcp x y:Nat))
theorem Zbs.phi{hd:Hd}{n:Nat}{N:List Int}{k l:Int}(h:Zbs hd n N k l):Phi hd N (l-k)∧0≤k∧k≤((N.length-1:Nat):Int):=by
 induction h with
 | few h=>exact⟨.few h,QaH _,by omega⟩
 | none h _ _ w i1 i2 =>
  rename_i N k l k' l' _ _
  refine⟨?_,by omega,?_⟩
  ·have:=Phi.no h i1.1 i2.1 w
   rwa [show l-k+(l'-k')=l+l'-(k+k') by omega]at this
  ·have e:=congrArg List.length (Za7 N)
   rw[Qd]at e
   have:=(ZbH h).2
   have:=(ZbT h).2
   omega
 | both h _ _ wa wb hx hy i1 i2 =>
  rename_i N k l k' l' a b x y _ _
  refine⟨?_,by omega,?_⟩
  ·have:=Phi.both h i1.1 i2.1 wa wb hx hy
   rwa [show l-k+(l'-k')+((lcp x y:Nat):Int)=l+l'+(lcp x y:Nat)+1-(k+k'+1) by omega]at this
  ·have e:=congrArg List.length (Za7 N)
   rw[Qd]at e
   have:=(ZbH h).2
   have:=(ZbT h).2
   omega
theorem Phi.one{hd:Hd}{N:List Int}{f:Int}(h:Phi hd N f):∀ {g:Int},Phi hd N g→f=g:=by
 induction h with
 | few h =>
  intro g p
  cases p with
  | few _=>rfl
  | no h2 _ _ _=>omega
  | both h2 _ _ _ _ _ _=>omega
 | no h _ _ w i1 i2 =>
  intro g p
  cases p with
  | few h2=>omega
  | no _ p1 p2 _=>rw[i1 p1,i2 p2]
  | both _ _ _ wa wb _ _ =>
   rcases w with w|w
   ·exact nomatch w.one wa
   ·exact nomatch w.one wb
 | both h _ _ wa wb hx hy i1 i2 =>
  intro g p
  cases p with
  | few h2=>omega
  | no _ _ _ w =>
   rcases w with w|w
   ·exact nomatch w.one wa
   ·exact nomatch w.one wb
  | both _ p1 p2 wa' wb' hx' hy' =>
   rw[i1 p1,i2 p2]
   have ea:=Qj (wa.one wa')
   have eb:=Qj (wb.one wb')
   subst ea
   subst eb
   rw[Qj (hx.symm.trans hx'),Qj (hy.symm.trans hy')]
theorem ZiT{hd:Hd}{N:List Int}{a:Int}(h:Win hd N (some a)):∃x,hd a=some x:=by
 obtain⟨_,x,hx,_⟩:=h
 exact⟨x,hx⟩
theorem Phi.ex(hd:Hd):∀ (m:Nat) (N:List Int),N.length≤m→N.Nodup→∃f,Phi hd N f
 | 0,N,h,_=>⟨0,.few (by omega)⟩
 | m+1,N,h,nd=>by
  by_cases h2:2≤N.length
  ·have n1:(lo N).Nodup:=nd.sublist (Qaz _ _)
   have n2:(up N).Nodup:=nd.sublist (QaD _ _)
   obtain⟨f,hf⟩:=Phi.ex hd m (lo N) (by have:=(ZbH h2).1;omega) n1
   obtain⟨g,hg⟩:=Phi.ex hd m (up N) (by have:=(ZbT h2).1;omega) n2
   obtain⟨wa,ha⟩:=Win.ex hd (lo N) n1
   obtain⟨wb,hb⟩:=Win.ex hd (up N) n2
   cases wa with
   | none=>exact⟨_,.no h2 hf hg (.inl ha)⟩
   | some a =>
    cases wb with
    | none=>exact⟨_,.no h2 hf hg (.inr hb)⟩
    | some b =>
     obtain⟨x,hx⟩:=ZiT ha
     obtain⟨y,hy⟩:=ZiT hb
     exact⟨_,.both h2 hf hg ha hb hx hy⟩
  ·exact⟨0,.few (by omega)⟩
theorem Phi.congr{hd hd':Hd}{N:List Int}{f:Int}(h:Phi hd N f):(∀n∈N,hd' n=hd n)→Phi hd' N f:=by
 induction h with
 | few h=>exact fun _=>.few h
 | no h _ _ w i1 i2 =>
  intro e
  have e1:∀n∈lo _,hd' n=hd n:=fun n hn=>e n (Q0 hn)
  have e2:∀n∈up _,hd' n=hd n:=fun n hn=>e n (QZ hn)
  exact .no h (i1 e1) (i2 e2) (w.imp (fun w=>w.congr e1) fun w=>w.congr e2)
 | both h _ _ wa wb hx hy i1 i2 =>
  intro e
  have e1:∀n∈lo _,hd' n=hd n:=fun n hn=>e n (Q0 hn)
  have e2:∀n∈up _,hd' n=hd n:=fun n hn=>e n (QZ hn)
  exact .both h (i1 e1) (i2 e2) (wa.congr e1) (wb.congr e2) (by rw[e1 _ wa.1];exact hx) (by rw[e2 _ wb.1];exact hy)
theorem Phi.sides{hd:Hd}{N:List Int}{f:Int}(h:Phi hd N f)(h2:2≤N.length)(n:Int):∃fA fB e,Phi hd (ZR N n) fA∧Phi hd (Zad N n) fB∧f=fA+fB+e∧(((Win hd (ZR N n) none∨Win hd (Zad N n) none)∧e=0)∨∃a b x y,Win hd (ZR N n) (some a)∧Win hd (Zad N n) (some b)∧hd a=some x∧hd b=some y∧e=((lcp x y:Nat):Int)):=by
 unfold ZR Zad
 cases h with
 | few h=>omega
 | no _ p1 p2 w =>
  by_cases hn:n∈lo N
  ·rw[if_pos hn,if_pos hn];exact⟨_,_,0,p1,p2,by omega,.inl ⟨w,rfl⟩⟩
  ·rw[if_neg hn,if_neg hn];exact⟨_,_,0,p2,p1,by omega,.inl ⟨w.symm,rfl⟩⟩
 | both _ p1 p2 wa wb hx hy =>
  by_cases hn:n∈lo N
  ·rw[if_pos hn,if_pos hn];exact⟨_,_,_,p1,p2,rfl,.inr ⟨_,_,_,_,wa,wb,hx,hy,rfl⟩⟩
  ·rw[if_neg hn,if_neg hn];exact⟨_,_,_,p2,p1,by rw[ZaL];omega,.inr ⟨_,_,_,_,wb,wa,hy,hx,rfl⟩⟩
def lcO(hd:Hd)(w:Option Int)(z:List Nat):Int:=match w.bind hd with
 | some x=>((lcp x z:Nat):Int)
 | none=>0
theorem Zb7{hd:Hd}{a:Int}{x:List Nat}(h:hd a=some x)(z:List Nat):lcO hd (some a) z=((lcp x z:Nat):Int):=by unfold lcO;rw[QaM,h]
theorem Ze0(hd:Hd)(z:List Nat):lcO hd none z=0:=rfl
theorem Zn5(hd:Hd)(w:Option Int)(z:List Nat):0≤lcO hd w z:=by unfold lcO;split<;>omega
theorem ZoE(hd:Hd)(w:Option Int)(z:List Nat):lcO hd w z≤(z.length:Int):=by
 unfold lcO
 split
 ·rename_i x _
  have:=(ZcM x z).2
  omega
 ·omega
theorem Zhu{hd:Hd}{A B:List Int}(p:A.Perm B){w:Option Int}(h:Win hd A w):Win hd B w:=by
 cases w with
 | none=>exact fun n hn=>h n (p.mem_iff.mpr hn)
 | some a =>
  obtain⟨h1,x,hx,h2⟩:=h
  exact⟨p.mem_iff.mp h1,x,hx,fun b hb=>h2 b (p.mem_iff.mpr hb)⟩
theorem amort{hd hd':Hd}{N:List Int}{n:Int}{z:List Nat}(T:Tk hd hd' N n z):∀ (k:Nat) (M:List Int),M.length≤2 ^ k→Sub N M→n∈M→Win hd M (some n)→∀ {kk q f f':Int} {w':Option Int},Ag hd' z (Zby n (ZJ k M n)) kk q→Phi hd M f→Phi hd' M f'→Win hd' M w'→q-kk+f+lcO hd' (some n) z≤f'+lcO hd' w' z
 | k,M,hk,hs,hn,hw,kk,q,f,f',w',ag,pf,pf',ww=>by
  by_cases h2:2≤M.length
  ·cases k with
   | zero=>rw[Nat.pow_zero]at hk;omega
   | succ k =>
   have hsn:=Zca hn
   have hon:=Zd2 (hs.rise T.up) hsn
   have ss:Sub N (ZR M n):=hs.trans (ZfF h2 n)
   have pm:=Zc9 M n
   have hwp:=Zhu pm.symm hw
   have hwA:Win hd (ZR M n) (some n):=hwp.sub hsn
   have oth:∀m∈Zad M n,hd' m=hd m:=fun m hm=>T.oth m fun e=>hon (e ▸ hm)
   have hch:ZJ (k+1) M n=ZJ k (ZR M n) n++[M]:=by show (if 2≤M.length then _ else _)=_;rw[if_pos h2]
   rw[hch]at ag
   obtain⟨k0,q0,ag0,hcase⟩:=ag.last (C:=Zby n (ZJ k (ZR M n) n)) (A:=ZR M n) (B:=Zad M n) (by unfold Zby;rw[Qh];rfl)
   have hlen:(ZR M n).length≤2 ^ k:=by
    have h1:=congrArg List.length (Za7 M)
    rw[Qd]at h1
    unfold ZR
    have h3:(lo M).length=(M.length+1) / 2:=by unfold lo mid;rw[Qq];omega
    rw[Nat.pow_succ]at hk
    split<;>omega
   obtain⟨fA,fB,e,pA,pB,rfl,hE⟩:=pf.sides h2 n
   obtain⟨fA',fB',e',pA',pB',rfl,hE'⟩:=pf'.sides h2 n
   have eB:fB'=fB:=pB'.one (pB.congr oth)
   subst eB
   obtain⟨wA,hwA'⟩:=Win.ex hd' (ZR M n) (Z6 (ss.rise T.up))
   have ih:=amort T k (ZR M n) hlen ss hsn hwA ag0 pA pA' hwA'
   have wwp:=Zhu pm.symm ww
   rcases hE with⟨hE,rfl⟩|⟨a,b,x,y,ha,hb,hx,hy,rfl⟩
   ·-- nothing stays here
    have hbN:Win hd (Zad M n) none:=by
     rcases hE with h|h
     ·exact nomatch h.one hwA
     ·exact h
    have hbN':=hbN.congr oth
    have ew:w'=wA:=wwp.one (hwA'.left hbN')
    subst ew
    rcases hE' with⟨_,rfl⟩|⟨_,_,_,_,_,hb',_⟩
    ·rcases hcase with⟨_,rfl,rfl⟩|⟨_,b',_,_,_,hb',_⟩
     ·omega
     ·exact nomatch hbN'.one hb'
    ·exact nomatch hbN'.one hb'
   ·have ea:=Qj (ha.one hwA)
    subst ea
    have ez:=Qj (hx.symm.trans T.key)
    subst ez
    have hb':=hb.congr oth
    have hy':hd' b=some y:=by rw[oth b hb.1];exact hy
    have hbM:b∈N:=(hs.trans .top).mem (pm.mem_iff.mp (Qf _ hb.1))
    rcases hcase with⟨hc,rfl,rfl⟩|⟨a1,b1,x1,y1,wa1,wb1,hx1,hy1,rfl,rfl⟩
    ·have hAn:Win hd' (ZR M a) none:=by
      rcases hc with h|h
      ·exact h
      ·exact nomatch h.one hb'
     have e1:=hwA'.one hAn
     subst e1
     have ew:w'=some b:=wwp.one (hAn.right hb')
     subst ew
     rw[Ze0]at ih
     rw[Zb7 hy',ZaL y x]
     rcases hE' with⟨_,rfl⟩|⟨_,_,_,_,h,_⟩
     ·omega
     ·exact nomatch h.one hAn
    ·have e1:=hwA'.one wa1
     subst e1
     have e2:=Qj (wb1.one hb')
     subst e2
     have e3:=Qj (hy1.symm.trans hy')
     subst e3
     rw[Zb7 hx1]at ih
     have he':e'=((lcp x1 y1:Nat):Int):=by
      rcases hE' with⟨h,_⟩|⟨_,_,_,_,g1,g2,g3,g4,rfl⟩
      ·rcases h with h|h
       ·exact nomatch h.one wa1
       ·exact nomatch h.one hb'
      ·have:=Qj (g1.one wa1)
       subst this
       have:=Qj (g2.one hb')
       subst this
       rw[Qj (g3.symm.trans hx1),Qj (g4.symm.trans hy')]
     subst he'
     have haN:a1∈N:=(hs.trans .top).mem (pm.mem_iff.mp (Qv _ wa1.1))
     have gx:=T.ge haN hx1
     have gy:=T.ge hbM hy'
     have cy:=ZaL x y1
     have hw2:w'=some a1∨w'=some b1:=by
      by_cases hab:Btr x1 a1 y1 b1
      ·exact .inl (wwp.one (wa1.both hb' hx1 hy' hab))
      ·have hne:a1≠b1:=fun z=>by
        have:=(List.nodup_append.mp (pm.nodup_iff.mpr (Z6 (hs.rise T.up)))).2.2 a1 wa1.1 b1 hb'.1
        exact this z
       exact .inr (wwp.one (wa1.both' hb' hx1 hy' ((Btr.total hne).resolve_left hab)))
     by_cases he:lcp x1 x=lcp y1 x
     ·rw[if_pos he]
      rcases hw2 with rfl|rfl
      ·rw[Zb7 hx1];omega
      ·rw[Zb7 hy'];omega
     ·rw[if_neg he]
      by_cases hlt:lcp y1 x<lcp x1 x
      ·obtain⟨g1,g2⟩:=ZdW (a:=a1) (b:=b1) hlt gy
       have ew:w'=some a1:=wwp.one (wa1.both hb' hx1 hy' g1)
       subst ew
       rw[Zb7 hx1];omega
      ·obtain⟨g1,g2⟩:=ZdW (x:=y1) (y:=x1) (a:=b1) (b:=a1) (by omega:lcp x1 x<lcp y1 x) gx
       have ew:w'=some b1:=wwp.one (wa1.both' hb' hx1 hy' g1)
       subst ew
       rw[ZaL y1 x1]at g2
       rw[Zb7 hy'];omega
  ·have h1:M.length=1:=by have:=Qau hn;omega
   obtain⟨m,rfl⟩:=Qat.mp h1
   have:n=m:=by simpa using hn
   subst this
   have hch:ZJ k [n] n=[]:=by
    cases k with
    | zero=>rfl
    | succ k=>show (if 2≤[n].length then _ else _)=_;rw[if_neg h2]
   rw[hch]at ag
   obtain⟨rfl,rfl⟩:=Ag.one ag .nil
   have e1:=pf.one (.few (by omega))
   have e2:=pf'.one (.few (by omega))
   subst e1
   subst e2
   have hw':w'=none∨w'=some n:=by
    cases w' with
    | none=>exact .inl rfl
    | some b=>exact .inr (by have:=ww.1;simp at this;rw[this])
   rcases hw' with rfl|rfl
   ·have:=ww n (by simp)
    have e:lcO hd' (some n) z=0:=by unfold lcO;rw[QaM,this]
    rw[e,Ze0];decide
   ·omega
theorem Zmy{n b:Int}(hb:b≠n)(P:List ZC):hdP (Zav P n) b=hdP P b:=by
 unfold hdP hdL Zav
 rw[Qy]
 congr 1
 induction P with
 | nil=>rfl
 | cons y P ih =>
  rw[Qi,Qi,Qan,Qan]
  have e1:(Za3 n y).1=y.1:=by unfold Za3;split<;>rfl
  simp only[Function.comp]
  by_cases hy:y.1=b
  ·have hn:y.1≠n:=fun z=>hb (hy.symm.trans z)
   have e2:Za3 n y=y:=if_neg hn
   simp only[e2,hy,decide_true]
  ·simp only[e1,hy,decide_false]
   exact ih
theorem ZnV{P:List ZC}{x:ZC}{z:Str}(up:ZV (ZD P))(srt:ZeJ P)(hx:x∈P)(hz:x.2.1[x.2.2]? = some z)(W:Win (hdP P) (ZD P) (some x.1)):Tk (hdP P) (hdP (Zav P x.1)) (ZD P) x.1 (cds z):=by
 have nd:=Z6 up
 refine⟨W,by rw[ZcX nd hx,hz];rfl,fun b hb=>Zmy hb P,fun y hy=>?_,up⟩
 have hx':Za3 x.1 x∈Zav P x.1:=Qn (f:=Za3 x.1) hx
 have e1:Za3 x.1 x=(x.1,x.2.1,x.2.2+1):=if_pos rfl
 rw[e1]at hx'
 have:=ZcX (by rw[Zc6];exact nd) hx'
 have hy2:hdP (Zav P x.1) x.1=some y:=hy
 rw[this]at hy2
 cases hn:x.2.1[x.2.2+1]? with
 | none=>rw[hn]at hy2;cases hy2
 | some u =>
  rw[hn]at hy2
  have eu:cds u=y:=Qj hy2
  rw[← eu]
  rcases Zkc (Zou (srt x hx) (Qaj _) hz hn) with h|h
  ·omega
  ·rw[h,Zex];exact QaH _
def sgn(ts:List ZS):Nat:=(ts.map fun t=>t.2.2.length).sum
theorem Zh4(ts:List ZS)(t:ZS):sgn (ts++[t])=sgn ts+t.2.2.length:=by unfold sgn;rw[Qh,Qaw];simp
theorem Zl3(M:List Int)(n:Int)(h:M.length≤2 ^ 8):(ZJ 8 M n).length≤hgt M.length:=by
 have h1:=congrArg List.length (Zed 8 M n h)
 rw[List.length_reverse,Qa]at h1
 rw[← h1]
 exact ZkN M.length M n (Qaj _)
theorem Ag.few{hd:Hd}{z:List Nat}{C:List (List Int×List Int)}{k q:Int}(h:Ag hd z C k q):0≤k∧k≤(C.length:Int):=by
 induction h with
 | nil=>exact⟨QaH _,QaH _⟩
 | no _ _ ih=>rw[Qd,QD];omega
 | eq _ _ _ _ _ _ ih=>rw[Qd,QD];omega
 | ne _ _ _ _ _ _ ih=>rw[Qd,QD];omega
theorem Zdn.amort{P:List ZC}{x:ZC}{z:Str}{k q:Int}(s:Zdn P x z k q)(up:ZV (ZD P))(h8:(ZD P).length≤2 ^ 8)(srt:ZeJ P){f f':Int}(pf:Phi (hdP P) (ZD P) f)(pf':Phi (hdP (Zav P x.1)) (ZD P) f'):q-k+f≤f'+(z.length:Int)∧(Win (hdP (Zav P x.1)) (ZD P) none→q-k+f≤f')∧0≤k∧k≤(hgt (ZD P).length:Int):=by
 obtain⟨hx,hz,W,ag⟩:=s
 have T:=ZnV up srt hx hz W
 have hn:x.1∈ZD P:=Qn (f:=fun x:ZC=>x.1) hx
 obtain⟨w',ww⟩:=Win.ex (hdP (Zav P x.1)) (ZD P) (Z6 up)
 have a:=My.amort T 8 (ZD P) h8 .top hn W ag pf pf' ww
 have g0:=Zn5 (hdP (Zav P x.1)) (some x.1) (cds z)
 have g1:=ZoE (hdP (Zav P x.1)) w' (cds z)
 rw[ZeN]at g1
 have hk:=ag.few
 have hc:=Zl3 (ZD P) x.1 h8
 unfold Zby at hk
 rw[Qa]at hk
 refine⟨by omega,fun wn=>?_,hk.1,by omega⟩
 have ew:=ww.one wn
 subst ew
 rw[Ze0]at a
 omega
theorem Zao.amort{P P':List ZC}{ts:List ZS}{k q:Int}(h:Zao P ts P' k q)(up:ZV (ZD P))(h8:(ZD P).length≤2 ^ 8)(srt:ZeJ P){f:Int}(pf:Phi (hdP P) (ZD P) f):ZeJ P'∧0≤k∧k≤(hgt (ZD P).length:Int)*(ts.length:Int)∧∀f',Phi (hdP P') (ZD P) f'→q-k+f≤f'+(sgn ts:Int)∧(∀ts1 t,ts=ts1++[t]→Win (hdP P') (ZD P) none→q-k+f≤f'+(sgn ts1:Int)):=by
 induction h with
 | nil =>
  refine⟨srt,by omega,by simp,fun f' pf'=>?_⟩
  have:=pf.one pf'
  refine⟨by show 0-0+f≤f'+((0:Nat):Int);omega,fun ts1 t e=>by simp at e⟩
 | snoc h s ih =>
  rename_i ts P1 x z k q k1 q1
  obtain⟨srt1,k0,k9,ihf⟩:=ih
  have hnum:=h.num
  obtain⟨f1,pf1⟩:=Phi.ex (hdP P1) (ZD P).length (ZD P) (Qg _) (Z6 up)
  obtain⟨i1,_⟩:=ihf f1 pf1
  have up1:ZV (ZD P1):=by rw[hnum];exact up
  obtain⟨f2,pf2⟩:=Phi.ex (hdP (Zav P1 x.1)) (ZD P).length (ZD P) (Qg _) (Z6 up)
  have am:=s.amort up1 (by rw[hnum];exact h8) srt1 (by rw[hnum];exact pf1) (by rw[hnum];exact pf2)
  rw[hnum]at am
  obtain⟨a1,a2,a3,a4⟩:=am
  refine⟨srt1.bump _,by omega,?_,fun f' pf'=>?_⟩
  ·rw[Qd,QD,Qaf,Int.mul_add]
   omega
  ·have e2:=pf2.one pf'
   subst e2
   refine⟨by rw[Zh4,Qaf];show q+q1-(k+k1)+f≤f2+((sgn ts:Int)+(z.length:Int));omega,fun ts1 t e wn=>?_⟩
   have e3:=(ZdX e).1
   subst e3
   have:=a2 wn
   omega
def hSg(hd:Hd)(N:List Int):Nat:=(N.map fun n=>((hd n).map List.length).getD 0).sum
theorem Zjh(hd:Hd)(A B:List Int):hSg hd (A++B)=hSg hd A+hSg hd B:=by unfold hSg;rw[Qh,Qaw]
def ZhU(hd:Hd)(w:Option Int):Nat:=((w.bind hd).map List.length).getD 0
theorem Phi.le{hd:Hd}{N:List Int}{f:Int}(h:Phi hd N f):∀ {w:Option Int},Win hd N w→0≤f∧f+(ZhU hd w:Int)≤(hSg hd N:Int):=by
 induction h with
 | few h =>
  intro w hw
  rename_i N
  refine⟨QaH _,?_⟩
  cases w with
  | none=>show 0+((0:Nat):Int)≤_;omega
  | some a =>
   have ha:=hw.1
   have:N=[a]:=by
    cases N with
    | nil=>cases ha
    | cons b r =>
     have:r=[]:=QL (by rw[QC]at h;omega)
     subst this
     rw[Qk.mp ha]
   subst this
   show 0+((((some a).bind hd).map List.length).getD 0:Int)≤((([a].map fun n=>((hd n).map List.length).getD 0).sum:Nat):Int)
   rw[QaM]
   simp
 | no h2 _ _ hw i1 i2 =>
  intro w hN
  rename_i N f g _ _
  have eN:=Za7 N
  rw[← eN]at hN
  rw[← eN,Zjh]
  rcases hw with hw|hw
  ·obtain⟨wb,hb⟩:∃wb,Win hd (up N) wb:=by
    cases w with
    | none=>exact⟨none,fun n hn=>hN n (Qf _ hn)⟩
    | some a =>
     refine⟨some a,hN.sub' ?_⟩
     rcases Qm.mp hN.1 with ha|ha
     ·obtain⟨_,x,hx,_⟩:=hN
      rw[hw a ha]at hx;cases hx
     ·exact ha
   have e:=hN.one (hw.right hb)
   subst e
   have j1:=i1 hw
   have j2:=i2 hb
   have:(ZhU hd none:Int)=0:=rfl
   omega
  ·obtain⟨wa,ha⟩:∃wa,Win hd (lo N) wa:=by
    cases w with
    | none=>exact⟨none,fun n hn=>hN n (Qv _ hn)⟩
    | some a =>
     refine⟨some a,hN.sub ?_⟩
     rcases Qm.mp hN.1 with ha|ha
     ·exact ha
     ·obtain⟨_,x,hx,_⟩:=hN
      rw[hw a ha]at hx;cases hx
   have e:=hN.one (ha.left hw)
   subst e
   have j1:=i1 ha
   have j2:=i2 hw
   have:(ZhU hd none:Int)=0:=rfl
   omega
 | both h2 _ _ wa wb hx hy i1 i2 =>
  intro w hN
  rename_i N f g a b x y _ _
  have eN:=Za7 N
  rw[← eN]at hN
  rw[← eN,Zjh]
  have j1:=i1 wa
  have j2:=i2 wb
  have ea:ZhU hd (some a)=x.length:=by unfold ZhU;rw[QaM,hx];rfl
  have eb:ZhU hd (some b)=y.length:=by unfold ZhU;rw[QaM,hy];rfl
  have lx:=(ZcM x y).1
  have ly:=(ZcM x y).2
  have hw:w=some a∨w=some b:=by
   cases w with
   | none=>have:=hN a (Qv _ wa.1);rw[hx]at this;cases this
   | some c =>
    rcases Qm.mp hN.1 with hc|hc
    ·exact .inl ((hN.sub hc).one wa)
    ·exact .inr ((hN.sub' hc).one wb)
  rcases hw with rfl|rfl
  ·omega
  ·omega
theorem Zim{K:PySem.W.Frag}{a:Addr}{xs:List V}{k:Nat}{D:Addr}{σ:L2.St}{H1:Hp}{g:TG}{wi2:TI}{g2:TG}{te:TE}{Q:VK}(Pv:Nat→List V→L2.St→Hp→Prop)(h0:Pv 0 [] (σ++List.replicate k none) (upd H1 D (.lst [])))
  (hl:∀i ys σ H,Pv i ys σ H→SqL K H a xs)
  (hs:∀i x ys σ H,xs[i]? = some x→Pv i ys σ H→g x σ H fun σ4 H4=>wi2 σ4 H4 fun J2 H5=>ZgU J2 D ys σ4 H5 g2 te (Pv (i+1)))
  (hd:∀ys σ H,Pv xs.length ys σ H→Q (.ref D) H):Zjb (Itl K a) D k σ H1 g wi2 g2 te Q:=by
 refine⟨fun i m ys σ H=>m=xs.length-i∧i≤xs.length∧Pv i ys σ H,⟨xs.length,by simp,Qp _,h0⟩,?_⟩
 rintro i m ys σ H ⟨rfl,hi,p⟩
 have q1:=hl i ys σ H p
 by_cases hlt:i<xs.length
 ·refine .inr ⟨⟨xs,xs[i],q1,Qb hlt⟩,Pv (i+1),fun ys' σ' H' p'=>⟨xs.length-(i+1),by omega,rfl,hlt,p'⟩,fun x H' y=>?_⟩
  obtain⟨rfl,e⟩:=y
  exact hs i x ys σ _ (e xs q1) p
 ·have e:i=xs.length:=by omega
  exact .inl ⟨⟨xs,q1,by omega⟩,hd ys σ H (e ▸ p)⟩
theorem ZiG{K:PySem.W.Frag}{a:Addr}{xs:List V}{D:Addr}{ys:List V}{σ:L2.St}{H:Hp}{g2:TG}{te:TE}{N:List V→L2.St→Hp→Prop}(Pv:Nat→List V→L2.St→Hp→Prop)(h0:Pv 0 ys σ H)
  (hl:∀i ys σ H,Pv i ys σ H→SqL K H a xs)
  (hs:∀i x ys σ H,xs[i]? = some x→Pv i ys σ H→g2 x σ H fun σ4 H4=>te σ4 H4 fun y H6=>H6 D=some (.lst ys)∧ys.length<sizeLine∧Pv (i+1) (ys++[y]) σ4 (upd H6 D (.lst (ys++[y]))))
  (hd:∀ys σ H,Pv xs.length ys σ H→N ys σ H):ZgU (Itl K a) D ys σ H g2 te N:=by
 refine⟨fun i m ys σ H=>m=xs.length-i∧i≤xs.length∧Pv i ys σ H,⟨xs.length,by simp,Qp _,h0⟩,?_⟩
 rintro i m ys σ H ⟨rfl,hi,p⟩
 have q1:=hl i ys σ H p
 by_cases hlt:i<xs.length
 ·refine .inr ⟨⟨xs,xs[i],q1,Qb hlt⟩,Pv (i+1),fun ys' σ' H' p'=>⟨xs.length-(i+1),by omega,rfl,hlt,p'⟩,fun x H' y=>?_⟩
  obtain⟨rfl,e⟩:=y
  exact hs i x ys σ _ (e xs q1) p
 ·have e:i=xs.length:=by omega
  exact .inl ⟨⟨xs,q1,by omega⟩,hd ys σ H (e ▸ p)⟩
def ZgH(rs:List (Addr×List Str)):List Int:=rs.flatMap fun x=>x.2.map fun s=>(s.length:Int)
def sgR(rs:List (Addr×List Str)):Nat:=(rs.map fun x=>(x.2.map fun s=>s.length).sum).sum
theorem ZhZ:∀rs:List (Addr×List Str),(ZgH rs).sum=(sgR rs:Int)
 | []=>rfl
 | x::r=>by
  have ih:=ZhZ r
  unfold ZgH sgR at ih ⊢
  rw[Qae,Qaw,ih,Qi,QN,Qaf]
  congr 1
  generalize x.2=ss
  induction ss with
  | nil=>rfl
  | cons s ss ih2=>rw[Qi,Qi,QN,QN,ih2,Qaf]
theorem Zfx:∀rs:List (Addr×List Str),(ZgH rs).length=(rs.map fun x=>x.2.length).sum
 | []=>rfl
 | x::r=>by
  have ih:=Zfx r
  unfold ZgH at ih ⊢
  rw[Qae,Qd,ih,Qa,Qi,QN]
def Zlh:Sp:=fun vs H Q _=>∃ (r:Addr) (rs:List (Addr×List Str)),vs=[.ref r]∧Za1 H r rs∧(∀x∈rs,sortedS x.2=true)∧(rs.map fun x=>x.2.length).sum≤1000∧∀ (t:Addr) (k0 q0 k1 q1:Int) (H':Hp),Zbs (hdP (Zan rs)) 8 (ZD (Zan rs)) k0 q0→ZbG (Zan rs) k1 q1→H' t=some (.tup [.int (((rs.length-1:Nat):Int)+(hgt rs.length:Int)*(((rs.map fun x=>x.2.length).sum:Nat):Int)),.int (k0+k1+(sgR rs:Int))])→ZH H H'→Q (.ref t) H'
theorem Zkf(T:Zaq K mg cRow cMerge)(f_height:Df P w K mg base 1 "height" ["many"] Zfv)(f_how_many:Df P w K mg base 1 "how_many" ["rows"] Zef)(f_counts:Df P w K mg base 16 "counts" ["rows"] Zh6):Df P w K mg base 17 "bounds_of" ["rows"] Zlh:=by
 refine T.t_bounds_of.df Zcr (fun vs H Q E h=>?_) (fun cdv f A outer s H vs Q E hr h=>?_)
 ·obtain⟨r,rs,rfl,_⟩:=h
  rfl
 obtain⟨r,rs,rfl,hrs,hsrt,hsm,q⟩:=h
 refine⟨_,#[Zg,#[Zv,1,Zcr.nd,(Or.inl rfl),#[Zk,(Zeb rfl),(by rfl),T.b.n_max,boot_max,#[Za,#[ZI,Zc4,#[Zk,(Zb5 K),(by rfl),T.b.n_len,Qt,#[Za,‹0›,#[Ze]]],#[Zh]],#[Za,#[Zh],#[Ze]]]]],#[Zg,#[Zv,2,Zcr.nd,(Or.inl rfl),#[Zk,(ZmJ K),(by rfl),T.b.n_sum,boot_sum,#[Za,(@Zl8 _ _ _ _ _ _ _ _ _ _ _ _ _ _ _ _ ZjN rfl rfl rfl #[iL,K,‹0›] (fun _ _ _ _=>#[cg,3,ZjN]) (fun _ _ _ _=>#[iL,K,#[cw,3,ZjN]]) (fun _ _ _ _=>#[cg,4,ZjN]) (fun _ _ _ _=>#[Zk,Z0,(ZaR ZjN rfl (by ac_rfl)),T.b.n_len,Qt,#[Za,#[cw,4,ZjN],#[Ze]]]) (by intro _;rfl) (by intro _ _ _ _ _;rfl)),#[Ze]]]],#[Zj,#[Zr,#[Zay,#[Za,#[ZI,Zax,‹1›,#[ZI,Zcp,#[ZB,f_height,hr,#[Za,#[Zk,(Zb5 K),(by rfl),T.b.n_len,Qt,#[Za,‹0›,#[Ze]]],#[Ze]],(by rfl)],#[ZB,f_how_many,hr,#[Za,‹0›,#[Ze]],(by rfl)]]],#[Za,#[ZI,Zax,#[ZF,(ixT K),#[ZB,f_counts,hr,#[Za,‹0›,#[Ze]],(by rfl)],#[Zh]],‹2›],#[Ze]]]]]]]],?_⟩
 have hfew:=hrs.few
 have hlR:(((rs.map fun x=>V.ref x.1).length:Nat):Int)=(rs.length:Int):=by rw[Qa]
 refine⟨_,rfl,r,_,rfl,.inl (SqL.of hrs.at'),_,_,rfl,rfl,?_⟩
 rw[hlR]
 refine⟨_,_,rfl,?_⟩
 have e1:(if (0:Int)>(rs.length:Int)-1 then (0:Int) else (rs.length:Int)-1)=((rs.length-1:Nat):Int):=by split<;>omega
 rw[e1]
 refine⟨_,rfl,r,rfl,⟨_,SqL.of hrs.at'⟩,fun D hD=>?_⟩
 refine Zim (K:=K) (a:=r) (xs:=rs.map fun x=>V.ref x.1) (fun i zs σ H1=>(∃v3 v4:Option V,σ=[some (.ref r),some (.int ((rs.length-1:Nat):Int)),none,v3,v4])∧zs=(ZgH (rs.take i)).map V.int∧i≤rs.length∧H1 D=some (.lst zs)∧ZH H H1) ?_ (fun _ _ _ _ h=>SqL.of (h.2.2.2.2 _ _ hrs.at')) ?_ ?_
 ·exact⟨⟨none,none,rfl⟩,rfl,Qp _,Zd,Zi hD _⟩
 ·rintro i y zs σ H1 hy ⟨⟨v3,v4,rfl⟩,rfl,hi,hD1,s1⟩
  rw[Qs]at hy
  cases hz:rs[i]? with
  | none=>rw[hz]at hy;cases hy
  | some x =>
  rw[hz]at hy
  cases hy
  have hil:i<rs.length:=(Qe.mp hz).1
  obtain⟨lx,l100,laz⟩:=hrs.lst x (Qw hz)
  have hkl:(ZgH (rs.take i)).length≤100*i:=by
   rw[Zfx]
   have:=Zik (rs.take i) fun y hy=>(hrs.lst y (Q0 hy)).2.1
   rw[Qq]at this
   omega
  refine⟨_,rfl,x.1,rfl,⟨_,SqL.of (s1 _ _ lx)⟩,?_⟩
  refine ZiG (K:=K) (a:=x.1) (xs:=x.2.map V.str) (fun k zs σ H2=>(∃v4:Option V,σ=[some (.ref r),some (.int ((rs.length-1:Nat):Int)),none,some (.ref x.1),v4])∧zs=(ZgH (rs.take i)++(x.2.take k).map fun s=>(s.length:Int)).map V.int∧k≤x.2.length∧H2 D=some (.lst zs)∧ZH H H2) ⟨⟨_,rfl⟩,by simp,Qp _,hD1,s1⟩ (fun _ _ _ _ h=>SqL.of (h.2.2.2.2 _ _ lx)) ?_ ?_
  ·rintro k y zs σ H2 hy ⟨⟨v4,rfl⟩,rfl,hk,hD2,s2⟩
   rw[Qs]at hy
   cases hz2:x.2[k]? with
   | none=>rw[hz2]at hy;cases hy
   | some z =>
   rw[hz2]at hy
   cases hy
   have hkl2:k<x.2.length:=(Qe.mp hz2).1
   have hzl:=(laz z (Qw hz2)).1
   refine⟨_,rfl,z,rfl,by rw[sizeLine_eq];omega,hD2,?_,⟨_,rfl⟩,?_,hkl2,Zd,fun b o hb=>?_⟩
   ·rw[Qa,Qd,Qa,Qq,sizeLine_eq];omega
   ·rw[QM,hz2,Qh,Qh,Qh,Qh,QS];rfl
   ·rw[Zc (Zb hb hD)];exact s2 b o hb
  ·rintro zs σ H2 ⟨⟨v4,rfl⟩,rfl,_,hD2,s2⟩
   rw[Qa,Qu (Qg _)]at hD2
   refine⟨⟨_,_,rfl⟩,?_,hil,?_,s2⟩
   ·rw[Qa,Qu (Qg _),QM,hz]
    unfold ZgH
    rw[List.flatMap_append]
    congr 2
    show _=[x].flatMap _
    rw[List.flatMap_singleton]
   ·rw[hD2,Qa,Qu (Qg _)]
 rintro zs σ H1 ⟨⟨v3,v4,rfl⟩,rfl,_,hD1,s1⟩
 rw[Qa,Qu (Qg _)]at hD1
 have hsl:=Zik rs fun x hx=>(hrs.lst x hx).2.1
 refine⟨D,ZgH rs,rfl,SqL.of hD1,by rw[Zfx];omega,fun n hn=>?_,?_⟩
 ·obtain⟨x,hx,hn⟩:=QaL.mp hn
  obtain⟨s,hs,rfl⟩:=QJ.mp hn
  have:=((hrs.lst x hx).2.2 s hs).1
  omega
 rw[ZhZ]
 have hrs1:=hrs.same s1
 refine⟨_,rfl,_,rfl,r,_,rfl,.inl (SqL.of hrs1.at'),?_⟩
 rw[hlR]
 refine⟨rs.length,rfl,_,rfl,r,rs,rfl,hrs1,fun H2 s2=>?_⟩
 have hrs2:=hrs1.same s2
 refine⟨_,_,rfl,rfl,.inr ⟨by omega,by omega⟩,_,_,rfl,rfl,_,rfl,r,rs,rfl,hrs2,hsrt,fun t k0 q0 k1 q1 H3 hP hE ht s3=>?_⟩
 refine(xw4 t _ _ _ ⟨rfl,rfl,SqT.of ht,rfl,_,rfl,_,_,rfl,rfl,(by show 2≤sizeLine;decide),fun n hn=>?_⟩)
 exact q n k0 q0 k1 q1 _ hP hE Zd (s1.trans (s2.trans (s3.trans (Zi hn _))))
theorem ZbG.takes{P:List ZC}{k q:Int}(h:ZbG P k q):∃ts P',Zao P ts P' k q∧Win (hdP P') (ZD P') none:=by
 induction h with
 | stop w=>exact⟨[],_,.nil,w⟩
 | go s _ ih =>
  obtain⟨ts,P',h,w⟩:=ih
  have h1:=(Zao.nil (P:=_)).snoc s
  refine⟨_,P',(h1.app h).cast (by omega) (by omega),w⟩
theorem ZlF(ts:List ZS):sgn ts=((ts.map (·.2.2)).map fun s=>s.length).sum:=by unfold sgn;rw[Qy];rfl
theorem Ze9:∀rs:List (Addr×List Str),sgR rs=((rs.flatMap (·.2)).map fun s=>s.length).sum
 | []=>rfl
 | x::r=>by
  have ih:=Ze9 r
  unfold sgR at ih ⊢
  rw[Qi,QN,ih,Qae,Qh,Qaw]
theorem Zfp(rs:List (Addr×List Str)):ZV (ZD (Zan rs)):=by
 have e:ZD (Zan rs)=ZbM 0 rs.length:=by
  unfold ZD Zan
  rw[List.map_fst_zip]
  unfold ZbM
  rw[Qa,Qa,QaE]
  exact Qg _
 rw[e]
 exact ZfG _
theorem Zbr(rs:List (Addr×List Str)):(ZD (Zan rs)).length=rs.length:=by unfold ZD Zan ZbM;simp
theorem ZlX{hd:Hd}{N:List Int}(h:Win hd N none):hSg hd N=0:=by
 unfold hSg
 induction N with
 | nil=>rfl
 | cons n r ih =>
  rw[Qi,QN,h n (by simp),ih fun m hm=>h m (Ql _ hm)]
  rfl
theorem Zgk{rs:List (Addr×List Str)}(h60:rs.length≤60)(srt:∀x∈rs,sortedS x.2=true){k0 q0 k1 q1:Int}(hP:Zbs (hdP (Zan rs)) 8 (ZD (Zan rs)) k0 q0)(hE:ZbG (Zan rs) k1 q1):k0+k1≤((rs.length-1:Nat):Int)+(hgt rs.length:Int)*(((rs.map fun x=>x.2.length).sum:Nat):Int)∧q0+q1≤k0+k1+(sgR rs:Int)∧∃ts,(ts.map fun t:ZS=>t.2.2).Perm (rs.flatMap (·.2))∧∀ts1 t,ts=ts1++[t]→q0+q1≤k0+k1+(sgn ts1:Int):=by
 obtain⟨ts,P',tk,w⟩:=hE.takes
 obtain⟨ph,hk0,hk1⟩:=hP.phi
 have up:=Zfp rs
 have nl:=Zbr rs
 have hsr:=ZgC (ZbM 0 rs.length) rs srt
 have am:=tk.amort up (by rw[nl];exact QP h60 (by decide)) hsr ph
 obtain⟨_,b0,b1,b2⟩:=am
 rw[tk.num]at w
 obtain⟨f',pf'⟩:=Phi.ex (hdP P') (ZD (Zan rs)).length (ZD (Zan rs)) (Qg _) (Z6 up)
 have fl:=pf'.le w
 rw[ZlX w]at fl
 have fz:f'=0:=by
  have:(ZhU (hdP P') none:Int)=0:=rfl
  omega
 subst fz
 obtain⟨c1,c2⟩:=b2 0 pf'
 have hl0:ZaM P'=0:=by
  have h1:=tk.tk.row
  have h2:Zeo P'=[]:=by
   apply List.eq_nil_iff_forall_not_mem.mpr
   intro u hu
   obtain⟨x,hx,e1,e2,e3⟩:=ZhS hu
   have h3:x.1∈ZD (Zan rs):=by rw[← tk.num];exact Qn (f:=fun x:ZC=>x.1) hx
   have h4:=w x.1 h3
   rw[ZcX (by rw[tk.num];exact Z6 up) hx]at h4
   have hlt:=(Qe.mp e3).1
   rw[Qb (by omega)]at h4
   cases h4
  rw[← Zfa,h2];rfl
 have hlen:=tk.left (Z6 up)
 rw[ZdM]at hlen
 have hp:=(ZjC tk (Z6 up) hsr hl0).1
 have hp':(ts.map fun t:ZS=>t.2.2).Perm (rs.flatMap (·.2)):=by
  have e:ZcH (Zan rs)=rs.flatMap (·.2):=Zjj rs
  rw[e]at hp
  exact hp
 have hsg:sgn ts=sgR rs:=by
  rw[ZlF,Ze9]
  exact(hp'.map fun s=>s.length).sum_nat
 rw[nl]at b1 hk1
 have hts:ts.length=(rs.map fun x=>x.2.length).sum:=by omega
 rw[hts]at b1
 refine⟨by omega,by omega,ts,hp',fun ts1 t e=>?_⟩
 have:=c2 ts1 t e w
 omega
theorem ZdH{P:List ZC}{k q:Int}(h:ZbG P k q):(ZD P).length≤1→k=0∧q=0:=by
 induction h with
 | stop _=>exact fun _=>⟨rfl,rfl⟩
 | go s _ ih =>
  intro hl
  rename_i P x z k q k1 q1 _
  obtain⟨a,b⟩:=ih (by rw[Zc6];exact hl)
  have ag:=s.2.2.2
  have hch:ZJ 8 (ZD P) x.1=[]:=by show (if 2≤(ZD P).length then _ else _)=_;rw[if_neg (by omega)]
  rw[hch]at ag
  obtain⟨c,d⟩:=ag.one .nil
  omega
theorem Zfy{hd:Hd}{n:Nat}{N:List Int}{k q:Int}(h:Zbs hd n N k q)(hl:N.length≤1):k=0∧q=0:=h.one (.few (n:=n) (by omega))
theorem Zpu:∀n:Nat,n<20→(Txt.mul "ab" (n:Int)).length≤40∧AZ (Txt.mul "ab" (n:Int)):=by unfold AZ;ac_rfl
def hdO(P:List ZC):List (Int×Option Str):=P.map fun x=>(x.1,x.2.1[x.2.2]?)
theorem Zmp(L:List Zz):Zj3 (L.map toL)=hdO (ZaA L):=by unfold Zj3 hdO ZaA;rw[Qy,Qy];rfl
def ZlT(o:Option Str):Nat:=(o.map Str.length).getD 0
theorem ZmZ{P:List ZC}(nd:(ZD P).Nodup):hSg (hdP P) (ZD P)=((hdO P).map fun e=>ZlT e.2).sum:=by
 unfold hSg ZD hdO
 rw[Qy,Qy]
 congr 1
 refine QU fun x hx=>?_
 simp only[Function.comp]
 rw[ZcX nd hx]
 unfold ZlT
 cases x.2.1[x.2.2]? with
 | none=>rfl
 | some z=>show (cds z).length=z.length;exact ZeN z
def Zd8(E:List (Int×Option Str)):List Int:=E.filterMap fun e=>e.2.map fun s=>(s.length:Int)
theorem Zgl:∀E:List (Int×Option Str),(Zd8 E).sum=(((E.map fun e=>ZlT e.2).sum:Nat):Int)
 | []=>rfl
 | e::r=>by
  have ih:=Zgl r
  unfold Zd8 at ih ⊢
  rw[Qi,QN,Qaf,← ih,QaO]
  cases e.2 with
  | none=>show _=((ZlT none:Nat):Int)+_;unfold ZlT;simp
  | some z=>rfl
theorem Ziz(E:List (Int×Option Str))(e:Int×Option Str):Zd8 (E++[e])=Zd8 E++(match e.2 with|some z=>[(z.length:Int)]|none=>[]):=by
 unfold Zd8
 rw[List.filterMap_append]
 congr 1
 obtain⟨e1,o⟩:=e
 cases o<;>rfl
def ZiY(K:PySem.W.Frag):Sp:=fun vs H Q _=>∃ (a:Addr) (ns:List Int),vs=[.ref a]∧SqL K H a (ns.map V.int)∧ns.length≤63∧∀H',Q (.bl true) H'
theorem Zoy{f:Addr}{fd:FuncData}(F:Fun K "law" "law" Zbc f fd)(T:Zaq K mg cRow cMerge):Zdi P w K mg base CX0 18 f fd ["_law_script"] (ZiY K):=by
 have f_l_mix:Df P w K mg base 1 "_law_mix" ["_law_cell", "_law_k"] ZlE:=ZoS T
 have f_l_left:Df P w K mg base 1 "_law_left" ["_law_script", "_law_k"] (ZkZ K):=ZmE T
 have f_l_pick:Df P w K mg base 2 "_law_pick" ["_law_left_here", "_law_many_here"] ZdB:=Znb T f_l_mix
 have f_l_stems:Df P w K mg base 3 "_law_stems" ["_law_left_here"] Zg4:=ZlR T f_l_pick
 have f_l_key:Df P w K mg base 3 "_law_key" ["_law_left_here", "_law_stems_here"] ZkF:=Zoo T f_l_pick
 have f_l_keys:Df P w K mg base 4 "_law_keys" ["_law_left_here", "_law_stems_here", "_law_most"] ZiN:=ZmS T f_l_pick f_l_key
 have f_l_many:Df P w K mg base 3 "_law_many" ["_law_left_here"] Ziq:=Znn T f_l_pick
 have f_l_row:Df P w K mg base 5 "_law_row" ["_law_left_here", "_law_stems_here", "_law_most"] Zip:=ZmG T f_l_keys
 have f_l_rows:Df P w K mg base 6 "_law_rows" ["_law_left_here"] Zi6:=ZlJ T f_l_pick f_l_stems f_l_many f_l_row
 have f_l_same:Df P w K mg base 5 "_law_same" ["_law_found", "_law_due"] (Zld 4):=Zjg T 4
 have f_alike_from:Df P w K mg base 1 "alike_from" ["one", "other", "far"] ZbR:=ZfU T
 have f_alike:Df P w K mg base 2 "alike" ["one", "other"] ZeQ:=Zlf T f_alike_from
 have f_order_at:Df P w K mg base 1 "order_at" ["one", "other", "at"] ZeP:=ZkR T
 have f_liken:Df P w K mg base 3 "liken" ["one", "other"] ZgA:=ZkI T f_alike f_order_at
 have f_liken_from:Df P w K mg base 2 "liken_from" ["one", "other", "far"] ZcK:=ZfK T f_alike_from f_order_at
 have f_first_break:Df P w K mg base 4 "first_break" ["keys"] (Zll K):=Zk1 T f_liken
 have f_refuse_break:Df P w K mg base 5 "refuse_break" ["number", "keys"] (Zff K):=ZjF T f_first_break
 have f_alikes:Df P w K mg base 3 "alikes" ["row"] (Zfu K):=Zkk T f_alike
 have f_halves:Df P w K mg base 1 "halves" ["numbers"] (ZdJ K true):=ZjG T
 have f_Row_to_go:=Zm9 T (P:=P) (w:=w) (base:=base)
 have f_Row_head:=ZmN T f_Row_to_go
 have f_Row_init:=Ziw T f_alikes
 have f_Merge_meet:=Znd T f_Row_head f_liken_from
 have f_Merge_play:=ZiQ T f_Row_head f_halves f_Merge_meet 8
 have f_Merge_play_all:=Zhn T f_Merge_play
 have f_Merge_init:=ZfL T f_refuse_break f_Row_init f_Merge_play_all
 have f_Merge_coming:=ZjB T f_Row_head
 have f_Merge_heads:=Zjz T f_Row_head
 have f_way_up:Df P w K mg base 2 "way_up" ["numbers", "n"] Zlo:=ZnT T f_halves
 have f_matches_up:=Zig T f_way_up
 have f_Merge_play_again:=Zmb T f_Merge_meet
 have f_Merge_send_out:=Zmt T f_Row_head f_matches_up f_Merge_play_again
 have f_Merge_take:=ZmI T f_Merge_coming f_Merge_send_out
 have f_Merge_likenings:=ZgZ T (P:=P) (w:=w) (base:=base)
 have f_Merge_looks:=ZkW T (P:=P) (w:=w) (base:=base)
 have f_Merge_take_few:=ZoD T f_Merge_take
 have f_how_many:=Zhj T (P:=P) (w:=w) (base:=base)
 have f_counts:=ZjZ T f_Merge_init f_Merge_take_few f_how_many f_Merge_likenings f_Merge_looks
 have f_height:Df P w K mg base 1 "height" ["many"] Zfv:=Zj1 T
 have f_bounds_of:=Zkf T f_height f_how_many f_counts
 have f_l_order:=ZjP T (P:=P) (w:=w) (base:=base)
 refine F.ok ZaH (fun vs H Q E h=>?_) (fun cdv A outer s H vs Q E hr h=>?_)
 ·obtain⟨a,ns,rfl,_⟩:=h
  rfl
 obtain⟨a,sc,rfl,hS,h63,q⟩:=h
 refine⟨_,#[Zg,#[Zct,PassesOwn.never,#[Zbh,T.b.n_range,#[Za,#[ZI,Zax,#[Zh],#[Zk,(Zb5 K),(by rfl),T.b.n_len,Qt,#[Za,(@Ze5 _ _ _ _ _ _ _ _ _ _ (slL K) ‹0› (@ZgE _) (@ZgP _ _ _ #[Zh])),#[Ze]]]],#[Ze]]],#[ZP,1,ZaH.nd,(Or.inl rfl)],#[Zg,#[Zv,2,ZaH.nd,(Or.inl rfl),#[ZB,f_l_left,hr,#[Za,‹0›,#[Za,‹1›,#[Ze]]],(by rfl)]],#[Zg,#[Zv,3,ZaH.nd,(Or.inl rfl),#[ZB,f_l_rows,hr,#[Za,‹2›,#[Ze]],(by rfl)]],#[Zg,#[Zfl,4,ZaH.nd,Zm0,#[iL,K,‹3›],(fun _ _ _ _=>#[cg,17,Zm0]),(fun _ _ _ _=>(@Za9 _)),(fun _ _ _ _=>#[Zb9,(ZnI K),(ZaR Zm0 rfl (by ac_rfl)),T.b.n_list,boot_list,#[Za,#[cw,17,Zm0],#[Ze]]])],#[Zg,(@ZnS _ _ 5 6 _ _ _ _ _ _ _ _ _ _ _ rfl ZaH.nd rfl rfl (by decide) rfl rfl #[Za,#[ZB,f_counts,hr,#[Za,‹3›,#[Ze]],(by rfl)],#[Za,#[ZB,f_bounds_of,hr,#[Za,‹3›,#[Ze]],(by rfl)],#[Ze]]] rfl (by rfl)),#[Zg,#[Zaw,#[Zs,(@neD _ K _ hr (by rfl)),‹3›,‹4›,(Zu _)],#[Zj,#[Zr,(@ZfD _ _ _ _)]],#[ZQ]],#[Zg,#[Zfl,7,ZaH.nd,ZkX,#[iL,K,#[ZB,f_l_order,hr,#[Za,‹3›,#[Ze]],(by rfl)]],(fun _ _ _ _=>#[gT,K,3,#[Zw,#[cg,17,ZkX],#[Zw,#[cg,18,ZkX],#[Zw,#[cg,19,ZkX],(@ZaT _)]]]]),(fun _ _ _ _=>(@Za9 _)),(fun _ _ _ _=>#[cw,17,ZkX])],#[Zg,#[Zv,8,ZaH.nd,(Or.inl rfl),#[Zk,(ZmJ K),(by rfl),T.b.n_sum,boot_sum,#[Za,#[Zbl,Zja,#[iL,K,‹7›],(fun _ _ _ _=>#[cg,17,Zja]),(fun _ _ _ _=>(@Za9 _)),(fun _ _ _ _=>#[Zk,Z0,(ZaR Zja rfl (by ac_rfl)),T.b.n_len,Qt,#[Za,#[cw,17,Zja],#[Ze]]])],#[Ze]]]],#[Zg,#[Zv,9,ZaH.nd,(Or.inl rfl),#[Zay,#[Za,#[ZI,Zax,#[Zk,(Zeb rfl),(by rfl),T.b.n_max,boot_max,#[Za,#[Zh],#[Za,#[ZI,Zc4,#[Zk,(Zb5 K),(by rfl),T.b.n_len,Qt,#[Za,‹3›,#[Ze]]],#[Zh]],#[Ze]]]],#[ZI,Zcp,#[Zk,(Zb5 K),(by rfl),T.b.n_len,Qt,#[Za,‹7›,#[Ze]]],#[ZB,f_height,hr,#[Za,#[Zk,(Zb5 K),(by rfl),T.b.n_len,Qt,#[Za,‹3›,#[Ze]]],#[Ze]],(by rfl)]]],#[Za,#[ZI,Zax,#[ZF,(ixT K),‹5›,#[Zh]],‹8›],#[Ze]]]]],#[Zg,#[Zaw,(@PW.pt _ _ _ (@ZhX _ _ _ _ _ _ _ (@ZlH _ _ _ _ #[ZeY,#[ZB,f_l_same,hr,#[Za,‹6›,#[Za,‹9›,#[Ze]]],(by rfl)]]) (@ZhX _ _ _ _ _ _ _ #[Zs,ZdK,#[ZF,(ixT K),‹5›,#[Zh]],#[ZF,(ixT K),‹6›,#[Zh]],(Zu _)] (@Zgy _ _ _ _ #[Zs,ZdK,#[ZF,(ixT K),‹5›,#[Zh]],#[ZF,(ixT K),‹6›,#[Zh]],(Zu _)])))),#[Zj,#[Zr,(@ZfD _ _ _ _)]],#[ZQ]],#[Zg,#[Zv,10,ZaH.nd,(Or.inl rfl),#[ZkD,f_Merge_init,hr,#[Za,‹3›,#[Ze]]]],#[Zg,#[Zv,11,ZaH.nd,(Or.inl rfl),#[Zh]],#[Zg,#[Zct,PassesOwn.never,#[Zbh,T.b.n_range,#[Za,#[Zk,(Zb5 K),(by rfl),T.b.n_len,Qt,#[Za,‹7›,#[Ze]]],#[Ze]]],#[ZP,12,ZaH.nd,(Or.inl rfl)],#[Zg,#[Zv,13,ZaH.nd,(Or.inl rfl),#[Zk,(ZmJ K),(by rfl),T.b.n_sum,boot_sum,#[Za,#[Zbl,ZfW,#[iL,K,#[ZaU,f_Merge_heads,T.cl_Merge,hr,‹10›]],(fun _ _ _ _=>#[gT,K,2,#[Zw,#[cg,17,ZfW],#[Zw,#[cg,18,ZfW],(@ZaT _)]]]),(fun _ _ _ _=>(@Zmu _ _ _ #[Zs,ZeR,#[cw,18,ZfW],#[Zaj],(Zu _)])),(fun _ _ _ _=>#[Zk,Z0,(ZaR ZfW rfl (by ac_rfl)),T.b.n_len,Qt,#[Za,#[cw,18,ZfW],#[Ze]]])],#[Ze]]]],#[Zg,#[Zaw,#[Zs,ZdK,#[ZaU,f_Merge_looks,T.cl_Merge,hr,‹10›],#[ZI,Zax,#[ZI,Zax,#[ZaU,f_Merge_likenings,T.cl_Merge,hr,‹10›],‹11›],‹13›],(Zu _)],#[Zj,#[Zr,(@ZfD _ _ _ _)]],#[ZQ]],#[Zj,#[Zv,11,ZaH.nd,(Or.inl rfl),#[ZI,Zax,‹11›,#[Zk,Z0,(by rfl),T.b.n_len,Qt,#[Za,#[ZF,(ixT K),#[ZaU,f_Merge_take,T.cl_Merge,hr,‹10›],#[Zh]],#[Ze]]]]]]]]],#[Zg,#[Zv,14,ZaH.nd,(Or.inl rfl),#[ZaN,#[Za,#[ZB,f_l_row,hr,#[Za,‹2›,#[Za,#[ZB,f_l_stems,hr,#[Za,‹2›,#[Ze]],(by rfl)],#[Za,#[Zh],#[Ze]]]],(by rfl)],#[Ze]]]],#[Zg,#[Zaw,(@ZlH _ _ _ _ #[ZeY,#[ZB,f_l_same,hr,#[Za,#[ZaN,#[Za,#[ZB,f_counts,hr,#[Za,‹14›,#[Ze]],(by rfl)],#[Za,#[ZB,f_counts,hr,#[Za,#[ZaN,#[Ze]],#[Ze]],(by rfl)],#[Za,#[ZB,f_bounds_of,hr,#[Za,#[ZaN,#[Ze]],#[Ze]],(by rfl)],#[Ze]]]]],#[Za,#[ZaN,#[Za,#[Zay,#[Za,#[Zh],#[Za,#[Zh],#[Ze]]]],#[Za,#[Zay,#[Za,#[Zh],#[Za,#[Zh],#[Ze]]]],#[Za,#[Zay,#[Za,#[Zh],#[Za,#[Zh],#[Ze]]]],#[Ze]]]]],#[Ze]]],(by rfl)]]),#[Zj,#[Zr,(@ZfD _ _ _ _)]],#[ZQ]],#[Zg,#[Zv,15,ZaH.nd,(Or.inr rfl),#[ZI,Zjq,#[Za2],#[ZB,f_l_pick,hr,#[Za,‹2›,#[Za,#[Zh],#[Ze]]],(by rfl)]]],#[Zg,#[Zv,16,ZaH.nd,(Or.inl rfl),#[ZI,Zax,#[Zh],#[ZB,f_l_pick,hr,#[Za,‹2›,#[Za,#[Zh],#[Ze]]],(by rfl)]]],#[Zg,#[Zv,5,ZaH.nd,(Or.inl rfl),#[ZB,f_counts,hr,#[Za,#[Zbl,Zma,#[Zbh,T.b.n_range,#[Za,‹16›,#[Ze]]],(fun _ _ _ _=>#[cg,17,Zma]),(fun _ _ _ _=>(@Za9 _)),(fun _ _ _ _=>#[ZaN,#[Za,#[cv,15,Zma],#[Ze]]])],#[Ze]],(by rfl)]],#[Zj,#[Zaw,#[Zs,ZdK,#[ZF,(ixT K),‹5›,#[Zh]],#[ZI,Zax,#[ZF,(ixT K),‹5›,#[Zh]],#[ZI,Zcp,#[Zk,Z0,(by rfl),T.b.n_len,Qt,#[Za,#[pv,15,(Or.inr (Or.inl rfl))],#[Ze]]],#[ZI,Zc4,‹16›,#[Zh]]]],(Zu _)],#[Zj,#[Zr,(@ZfD _ _ _ _)]],#[ZQ]]]]]]]]]]]]]]]]]]]]],#[Zj,#[Zr,(@ZfD _ _ _ _)]]],?_⟩
 clear f_l_mix f_l_left f_l_pick f_l_stems f_l_key f_l_keys f_l_many f_l_row f_l_rows f_l_same f_alike_from f_alike f_order_at f_liken f_liken_from f_first_break f_refuse_break f_alikes f_halves f_Row_to_go f_Row_head f_Row_init f_Merge_meet f_Merge_play f_Merge_play_all f_Merge_init f_Merge_coming f_Merge_heads f_way_up f_matches_up f_Merge_play_again f_Merge_send_out f_Merge_take f_Merge_likenings f_Merge_looks f_Merge_take_few f_how_many f_counts f_height f_bounds_of f_l_order
 have hcl:=Zez (sc.map V.int) none (some 6)
 have hlen:(sc.map V.int).length=sc.length:=by rw[Qa]
 refine⟨_,rfl,_,rfl,a,_,rfl,hS,fun e he=>⟨e,_,rfl,.inl (SqL.of Zd),_,_,rfl,rfl,_,rfl,by omega,by omega,?_⟩⟩
 have s1:ZH H (upd H e (.lst (ZgW (sc.map V.int) none (some 6)))):=Zi he _
 refine Zdc (fun i σ H2=>∃v1 v2 v3 v4 v5 v6 v7 v8 v9 v10 v11 v12 v13 v14 v15 v16:Option V,σ=[some (.ref a),v1,v2,v3,v4,v5,v6,v7,v8,v9,v10,v11,v12,v13,v14,v15,v16]∧ZH H H2) ⟨_,_,ZpC _ _ _ _ _ _ _ _ _ _ _ _ _ _ ⟨rfl,s1⟩⟩ ?_ ?_
 ·rintro ii σ H2 hi ⟨v1,v2,v3,v4,v5,v6,v7,v8,v9,v10,v11,v12,v13,v14,v15,v16,rfl,s2⟩
  have hi8:(ii:Int)<65:=by omega
  refine⟨_,rfl,_,rfl,a,sc,_,rfl,s2.seq hS,h63,by omega,by omega,fun p H3 hp L3 s3=>?_⟩
  have nHp:H p=none:=s2.free hp
  refine⟨_,rfl,p,0,rfl,L3,by decide,fun r rs c4 H4 hr0 hrs hxs h12 L4 a1 a2 B4=>?_⟩
  have s4:ZH H H4:=fun b o hb=>B4 b o (s3 b o (s2 b o hb)) (Zb hb nHp)
  have hsrtR:∀x∈rs,sortedS x.2=true:=fun x hx=>(hxs x hx).2.2.2.1
  have hsum:=ZlB rs fun x hx=>(hxs x hx).2.2.2.2
  refine⟨_,rfl,r,rfl,⟨_,SqL.of hrs.at'⟩,fun D hD=>?_⟩
  refine Zc7 (K:=K) (a:=r) (xs:=rs.map fun x=>V.ref x.1) (fun i zs σ H5=>(∃v:Option V,σ=[some (.ref a),some (.int (0+(ii:Int))),some (.ref p),some (.ref r),v4,v5,v6,v7,v8,v9,v10,v11,v12,v13,v14,v15,v16,v])∧(∃hs:List (Addr×List Str),zs=hs.map (fun x=>V.ref x.1)∧hs.map (·.2)=(rs.take i).map (·.2)∧∀x∈hs,H5 x.1=some (.lst (x.2.map V.str))∧H4 x.1=none∧x.1≠D)∧i≤rs.length∧H5 D=some (.lst zs)∧ZH H4 H5) ?_ (fun _ _ _ _ h=>SqL.of (h.2.2.2.2 _ _ hrs.at')) ?_ ?_
  ·exact⟨⟨none,rfl⟩,⟨[],rfl,rfl,(fun x h=>by cases h)⟩,Qp _,Zd,Zi hD _⟩
  ·rintro j y zs σ H5 hy ⟨⟨v,rfl⟩,⟨hs,rfl,hhs,hall⟩,hj,hD5,s5⟩
   rw[Qs]at hy
   cases hz:rs[j]? with
   | none=>rw[hz]at hy;cases hy
   | some x =>
   rw[hz]at hy
   cases hy
   have hjl:j<rs.length:=(Qe.mp hz).1
   obtain⟨lx,l100,laz⟩:=hrs.lst x (Qw hz)
   refine⟨_,rfl,x.1,_,rfl,.inl (SqL.of (s5 _ _ lx)),fun c hc=>?_⟩
   have nDc:D≠c:=Zb hD5 hc
   have hln:hs.length=j:=by have:=congrArg List.length hhs;rw[Qa,Qa,Qq]at this;omega
   have hfew:=hrs.few
   refine⟨by rw[Zc nDc];exact hD5,(by rw[Qa];exact Z2 (by omega)),⟨_,rfl⟩,⟨hs++[(c,x.2)],by rw[Qh];rfl,?_,fun u hu=>?_⟩,hjl,Zd,fun b o hb=>?_⟩
   ·rw[Qh,hhs,QM,hz,Qh];rfl
   ·rcases Qm.mp hu with hu|hu
    ·obtain⟨g1,g2,g3⟩:=hall u hu
     exact⟨by rw[Zc g3,Zc (Zb g1 hc)];exact g1,g2,g3⟩
    ·rw[Qk.mp hu]
     exact⟨by rw[Zc nDc.symm];exact Zd,s5.free hc,nDc.symm⟩
   ·have:=s5 b o hb
    rw[Zc (Zb hb hD),Zc (Zb this hc)];exact this
  rintro zs σ H5 ⟨⟨v,rfl⟩,⟨hs,rfl,hhs,hall⟩,_,hD5,s5⟩
  rw[Qa,Qu (Qg _)]at hhs
  have hln:hs.length=rs.length:=by have:=congrArg List.length hhs;rw[Qa,Qa]at this;exact this
  have hrs5:=hrs.same s5
  have in_rs:∀x∈hs,∃y∈rs,y.2=x.2:=fun x hx=>by
   have:x.2∈rs.map (·.2):=by rw[← hhs];exact Qn (f:=fun x:Addr×List Str=>x.2) hx
   exact QJ.mp this
  have hhd5:Za1 H5 D hs:=⟨hD5,by have:=hrs.few;omega,fun x hx=>by
   obtain⟨y,hy,e⟩:=in_rs x hx
   obtain⟨_,l100,laz⟩:=hrs.lst y hy
   rw[e]at l100 laz
   exact⟨(hall x hx).1,l100,laz⟩⟩
  have hsrt:∀x∈hs,sortedS x.2=true:=fun x hx=>by
   obtain⟨y,hy,e⟩:=in_rs x hx
   rw[← e];exact(hxs y hy).2.2.2.1
  have h60:=hrs.few
  refine⟨_,rfl,r,rs,rfl,hrs5,hsrtR,fun ct k0 q0 k1 q1 H6 hP hE hct s6=>?_⟩
  have hrs6:=hrs5.same s6
  refine⟨_,rfl,r,rs,rfl,hrs6,hsrtR,by omega,fun bt k0' q0' k1' q1' H7 hP' hE' hbt s7=>?_⟩
  obtain⟨e1,e2⟩:=hP'.one hP
  subst e1
  subst e2
  obtain⟨e1,e2⟩:=hE'.one (ZkU rs) hE
  subst e1
  subst e2
  obtain⟨b1,b2,_⟩:=Zgk h60 hsrtR hP hE
  have hrs7:=hrs6.same s7
  have hhd7:=(hhd5.same s6).same s7
  have hct7:=s7 _ _ hct
  have s07:=s4.trans (s5.trans (s6.trans s7))
  have L7:=((L4.same s5).same s6).same s7
  have azh:∀x∈hs,∀s∈x.2,AZ s:=fun x hx s hs'=>((hhd7.lst x hx).2.2 s hs').2
  clear hall hhd5 hrs5 hrs6 hD5 hD s6 s7 hP' hE' hct
  refine⟨_,_,rfl,_,rfl,_,rfl,ZbN hs,ZbN hs,(by rw[← ZlY hhs.symm];exact Zjd hrs7),Zjd hhd7,ZeH hs azh,ZeH hs azh,_,rfl,?_⟩
  rw[if_pos rfl,ZlL hs azh]
  refine Zcz ?_
  refine⟨_,rfl,r,rs,rfl,hrs7,fun l us H8 hl0 hl8 hus hO s8=>⟨l,rfl,⟨_,SqL.of hl8⟩,fun D2 hD2=>?_⟩⟩
  have hul:us.length=ZaM (Zan rs):=by have:=hO.len;rw[Qa]at this;exact this
  rw[ZdM]at hul
  have hh720:us.length≤720:=by omega
  refine Zc7 (K:=K) (a:=l) (xs:=us.map fun u=>V.ref u.1) (fun i zs σ H9=>(∃w1 w2 w3:Option V,σ=[some (.ref a),some (.int (0+(ii:Int))),some (.ref p),some (.ref r),some (.ref D),some (.ref ct),some (.ref bt),v7,v8,v9,v10,v11,v12,v13,v14,v15,v16,w1,w2,w3])∧zs=((us.take i).map (·.2.2.2)).map V.str∧i≤us.length∧H9 D2=some (.lst zs)∧ZH H8 H9) ?_ (fun _ _ _ _ h=>SqL.of (h.2.2.2.2 _ _ hl8)) ?_ ?_
  ·exact⟨⟨none,none,none,rfl⟩,rfl,Qp _,Zd,Zi hD2 _⟩
  ·rintro i y zs σ H9 hy ⟨⟨w1,w2,w3,rfl⟩,rfl,hi',hD9,s9⟩
   rw[Qs]at hy
   cases hz:us[i]? with
   | none=>rw[hz]at hy;cases hy
   | some u =>
   rw[hz]at hy
   cases hy
   have hil:i<us.length:=(Qe.mp hz).1
   refine⟨u.1,_,rfl,SqT.of (s9 _ _ (hus u (Qw hz))),rfl,_,_,rfl,_,_,rfl,_,_,rfl,rfl,?_⟩
   refine⟨_,rfl,hD9,(by rw[Qa,Qa,Qq,sizeLine_eq];omega),⟨_,_,_,rfl⟩,?_,hil,Zd,fun b o hb=>?_⟩
   ·rw[QM,hz,Qh,Qh];rfl
   ·rw[Zc (Zb hb hD2)];exact s9 b o hb
  rintro zs σ H9 ⟨⟨w1,w2,w3,rfl⟩,rfl,_,hD9,s9⟩
  rw[Qa,Qu (Qg _)]at hD9
  have s79:=s8.trans s9
  have hrs9:=hrs7.same s79
  have hct9:=s79 _ _ hct7
  have hbt9:=s79 _ _ hbt
  have L9:=L7.same s79
  have s09:=s07.trans s79
  have hkp:(us.map (·.2.2.2)).Perm (rs.flatMap (·.2)):=by
   have h1:=hO.1.map fun u:ZS=>u.2.2
   rw[Qy]at h1
   have h2:(Zeo (Zan rs)).map (fun u:ZS=>u.2.2)=ZcH (Zan rs):=by
    unfold Zeo ZcH
    rw[List.map_flatMap]
    congr 1
    funext x
    unfold Zmf
    rw[Qy]
    have:((fun u:ZS=>u.2.2) ∘ fun e:Str×Nat=>(x.1,e.2,e.1))=Prod.fst:=rfl
    rw[this,List.zipIdx_map_fst]
   rw[h2,Zjj]at h1
   exact h1
  have hsgn:((us.map (·.2.2.2)).map fun s=>(s.length:Int)).sum=(sgR rs:Int):=by
   rw[Ze9,← (hkp.map fun s=>s.length).sum_nat]
   generalize us.map (·.2.2.2)=ks
   induction ks with
   | nil=>rfl
   | cons z ks ih=>rw[Qi,Qi,QN,QN,ih,Qaf]
  have hks:∀s∈us.map (·.2.2.2),s.length≤1000:=fun s hs=>by
   obtain⟨x,hx,hsx⟩:=QaL.mp (hkp.mem_iff.mp hs)
   exact((hrs.lst x hx).2.2 s hsx).1
  clear hl8 hus hl0 hD2 s8 s9 s79 hrs7 hhd7 hct7 L7 s07 hbt
  refine⟨_,rfl,D2,rfl,⟨_,SqL.of hD9⟩,fun D3 hD3=>?_⟩
  refine Zc7 (K:=K) (a:=D2) (xs:=(us.map (·.2.2.2)).map V.str) (fun i zs σ H10=>(∃w1:Option V,σ=[some (.ref a),some (.int (0+(ii:Int))),some (.ref p),some (.ref r),some (.ref D),some (.ref ct),some (.ref bt),some (.ref D2),v8,v9,v10,v11,v12,v13,v14,v15,v16,w1])∧zs=(((us.map (·.2.2.2)).take i).map fun s=>(s.length:Int)).map V.int∧i≤us.length∧H10 D3=some (.lst zs)∧ZH H9 H10) ?_ (fun _ _ _ _ h=>SqL.of (h.2.2.2.2 _ _ hD9)) ?_ ?_
  ·exact⟨⟨none,rfl⟩,rfl,Qp _,Zd,Zi hD3 _⟩
  ·rintro i y zs σ H10 hy ⟨⟨w1,rfl⟩,rfl,hi',hD10,s10⟩
   rw[Qs]at hy
   cases hz:(us.map (·.2.2.2))[i]? with
   | none=>rw[hz]at hy;cases hy
   | some u =>
   rw[hz]at hy
   cases hy
   have hil:i<us.length:=by have:=(Qe.mp hz).1;rw[Qa]at this;exact this
   refine⟨_,rfl,u,rfl,by rw[sizeLine_eq];have:=hks u (Qw hz);omega,hD10,(by rw[Qa,Qa,Qq,sizeLine_eq];omega),⟨_,rfl⟩,?_,hil,Zd,fun b o hb=>?_⟩
   ·rw[QM,hz,Qh,Qh];rfl
   ·rw[Zc (Zb hb hD3)];exact s10 b o hb
  rintro zs σ H10 ⟨⟨w1,rfl⟩,rfl,_,hD10,s10⟩
  rw[Qa,Qu (Qg _)]at hD10
  refine⟨D3,_,rfl,SqL.of hD10,by rw[Qa,Qa];omega,fun n hn=>?_,?_⟩
  ·obtain⟨s,hs,rfl⟩:=QJ.mp hn
   have:=hks s hs
   omega
  rw[hsgn]
  have hrs10:=hrs9.same s10
  have hlR:(((rs.map fun x=>V.ref x.1).length:Nat):Int)=(rs.length:Int):=by rw[Qa]
  have hlD:((((us.map (·.2.2.2)).map V.str).length:Nat):Int)=(us.length:Int):=by rw[Qa,Qa]
  have hD10':=s10 _ _ hD9
  refine⟨_,rfl,r,_,rfl,.inl (SqL.of hrs10.at'),_,_,rfl,rfl,?_⟩
  rw[hlR]
  refine⟨_,_,rfl,?_⟩
  have em:(if (rs.length:Int)-1>(0:Int) then (rs.length:Int)-1 else (0:Int))=((rs.length-1:Nat):Int):=by split<;>omega
  rw[em]
  refine⟨_,rfl,D2,_,rfl,.inl (SqL.of hD10'),_,rfl,r,_,rfl,.inl (SqL.of hrs10.at'),?_⟩
  rw[hlR,hlD]
  refine⟨rs.length,rfl,_,_,rfl,rfl,.inl ⟨by omega,by omega⟩,_,_,rfl,rfl,_,rfl,ct,_,_,_,rfl,rfl,SqT.of (s10 _ _ hct9),rfl,_,rfl,_,_,rfl,rfl,(by show 2≤sizeLine;decide),fun dt hdt=>?_⟩
  have s11:=Zi hdt (.tup [.int (((rs.length-1:Nat):Int)+(us.length:Int)*((hgt rs.length:Nat):Int)),.int (k0'+k1'+(sgR rs:Int))])
  have hdt':(upd H10 dt (.tup [.int (((rs.length-1:Nat):Int)+(us.length:Int)*((hgt rs.length:Nat):Int)),.int (k0'+k1'+(sgR rs:Int))])) dt=some (.tup [.int (((rs.length-1:Nat):Int)+(us.length:Int)*((hgt rs.length:Nat):Int)),.int (k0'+k1'+(sgR rs:Int))]):=Zd
  generalize upd H10 dt (.tup [.int (((rs.length-1:Nat):Int)+(us.length:Int)*((hgt rs.length:Nat):Int)),.int (k0'+k1'+(sgR rs:Int))])=H11 at s11 hdt' ⊢
  have s911:=s10.trans s11
  have hct11:=s911 _ _ hct9
  have hbt11:=s911 _ _ hbt9
  have eC:(us.length:Int)*((hgt rs.length:Nat):Int)=((hgt rs.length:Nat):Int)*(((rs.map fun x=>x.2.length).sum:Nat):Int):=by rw[hul,Int.mul_comm]
  rw[eC]at hdt'
  refine⟨_,rfl,_,rfl,_,_,rfl,ZeO hbt11 hdt' (by show 2≤1000;decide) (.cons (ZeL _) (.cons (ZeL _) .nil)),fun H12 s12=>⟨_,rfl,Zcz ?_⟩⟩
  have hct12:=s12 _ _ hct11
  have hbt12:=s12 _ _ hbt11
  refine⟨_,rfl,ct,_,_,_,rfl,rfl,SqT.of hct12,rfl,_,rfl,bt,_,_,_,rfl,rfl,SqT.of hbt12,rfl,_,_,rfl,rfl,_,rfl,Zbo (fun d=>absurd (of_decide_eq_true d) (by omega)) (fun _=>?_)⟩
  refine⟨_,rfl,ct,_,_,_,rfl,rfl,SqT.of hct12,rfl,_,rfl,bt,_,_,_,rfl,rfl,SqT.of hbt12,rfl,_,_,rfl,rfl,_,rfl,Zbo (fun d=>absurd (of_decide_eq_true d) (by omega)) (fun _=>?_)⟩
  have s912:=s911.trans s12
  have hrs12:=hrs9.same s912
  have L12:=L9.same s912
  have s012:=s09.trans s912
  have hD12:=s912 _ _ hD9
  clear hdt' hdt hct11 hbt11 hct12 hbt12 s10 s11 s12 s911 s912 hD10 hD10' hrs10 hrs9 L9 s09 hct9 hbt9
  refine⟨_,rfl,fun m dx hm hdx nmd=>?_⟩
  have s13:ZH H12 (upd (upd H12 dx (.own m)) m (.ins cMerge dx [])):=fun b o hb=>by rw[Zc (Zb hb hm),Zc (Zb hb hdx)];exact hb
  have hm13:(upd (upd H12 dx (.own m)) m (.ins cMerge dx [])) m=some (.ins cMerge dx []):=Zd
  generalize upd (upd H12 dx (.own m)) m (.ins cMerge dx [])=H13 at s13 hm13 ⊢
  refine(xw4 m dx r rs ⟨rfl,hm13,hrs12.same s13,hsrtR,fun rd sd L st w0 kM qM H14 M14 hnew W14 S14 P14 fp14 k14=>⟨rfl,?_⟩⟩)
  have s14:ZH H12 H14:=fun b o hb=>k14 b o (s13 b o hb) (Zb hb hm)
  have fpn:∀b,MFp ⟨m,rd,sd,L,st,(rs.length:Int),kM,qM,w0⟩ b→H12 b=none:=fun b hb=>by
   rcases fp14 b hb with z|z
   ·rw[z];exact hm
   ·exact s13.free z
  have ok14:=ZdV 8 (hdM L) st (Zx L) M14.up (QP (show (Zx L).length≤60 by unfold Zx;rw[Qa];exact M14.few) (by decide)) (by decide) S14
  have eP:=Zhw hnew
  have P14':Zbs (hdP (Zan rs)) 8 (ZD (Zan rs)) kM qM:=by rw[← eP,← Zcy,← ZaZ];exact P14
  obtain⟨ph,pk0,_⟩:=P14'.phi
  have nl:=Zbr rs
  have h8:(ZD (Zan rs)).length≤2 ^ 8:=by rw[nl];exact QP h60 (by decide)
  clear fp14 k14 hnew S14 P14 hm13 s13 hm hdx nmd
  refine⟨_,rfl,D2,_,rfl,.inl (SqL.of (s14 _ _ hD12)),_,rfl,by rw[hlD];omega,by rw[hlD];omega,?_⟩
  rw[hlD]
  refine Zdc (fun i σ H15=>∃ (X:MS) (ts:List ZS) (k q:Int) (v12 v13:Option V),σ=[some (.ref a),some (.int (0+(ii:Int))),some (.ref p),some (.ref r),some (.ref D),some (.ref ct),some (.ref bt),some (.ref D2),some (.int (sgR rs:Int)),some (.ref dt),some (.ref X.m),some (.int (sgn ts:Int)),v12,v13,v14,v15,v16]∧MOk cRow cMerge H15 X∧Zao (Zan rs) ts (ZaA X.L) k q∧ts.length=i∧X.li=kM+k∧X.lo=qM+q∧(∀b,MFp X b→H12 b=none)∧ZH H12 H15) ⟨⟨m,rd,sd,L,st,(rs.length:Int),kM,qM,w0⟩,[],0,0,_,_,rfl,⟨M14,W14,ok14⟩,by show Zao (Zan rs) [] (ZaA L) 0 0;rw[eP];exact .nil,rfl,by show kM=kM+0;omega,by show qM=qM+0;omega,fpn,s14⟩ ?_ ?_
  ·rintro i σ H15 hi15 ⟨X,ts,k,q',v12,v13,rfl,mg,htk,htl,eli,elo,hf,s15⟩
   have hiu:i<us.length:=by omega
   have nd:(ZD (ZaA X.L)).Nodup:=by rw[← ZaZ];exact mg.M.nd
   obtain⟨dx15,hm15⟩:=mg.M.ob
   refine⟨_,rfl,X.m,dx15,_,rfl,hm15,Zhy ..,X.m,X.rd,X.sd,X.L,X.s,X.nb,X.li,X.lo,Zdj X.w,rfl,mg.M,fun hl H16 hhl0 Hh s16=>?_⟩
   rw[Zmp]at Hh
   obtain⟨hts,he,hl16,hht⟩:=Hh
   have hel:(hdO (ZaA X.L)).length=rs.length:=by
    have h1:=htk.num
    have h2:=congrArg List.length h1
    rw[nl]at h2
    unfold hdO
    rw[Qa]
    unfold ZD at h2
    rw[Qa]at h2
    exact h2
   have htsl:hts.length=rs.length:=by have:=congrArg List.length he;rw[Qa]at this;omega
   have hkl:∀ (j:Nat) (e:Addr×Int×Option Str) (z:Str),hts[j]? = some e→e.2.2=some z→z.length≤1000:=fun j e z hj hz=>by
    have h1:e.2∈hdO (ZaA X.L):=by rw[← he];exact Qn (f:=fun e:Addr×Int×Option Str=>e.2) (Qw hj)
    obtain⟨x,hx,ex⟩:=QJ.mp h1
    obtain⟨e0,he0,ee⟩:=QJ.mp hx
    have h2:x.2.1[x.2.2]? = some z:=by rw[← hz,← ex]
    have h3:=Qw h2
    rw[← ee]at h3
    exact((mg.M.each e0 he0).str z h3).1
   refine⟨hl,rfl,⟨_,SqL.of hl16⟩,fun D4 hD4=>?_⟩
   refine Ziy (K:=K) (a:=hl) (xs:=hts.map fun t=>V.ref t.1) (fun j zs σ H17=>(∃w1 w2:Option V,σ=[some (.ref a),some (.int (0+(ii:Int))),some (.ref p),some (.ref r),some (.ref D),some (.ref ct),some (.ref bt),some (.ref D2),some (.int (sgR rs:Int)),some (.ref dt),some (.ref X.m),some (.int (sgn ts:Int)),some (.int (0+(i:Int))),v13,v14,v15,v16,w1,w2])∧zs=(Zd8 ((hts.take j).map (·.2))).map V.int∧zs.length≤j∧j≤hts.length∧H17 D4=some (.lst zs)∧ZH H16 H17) ?_ (fun _ _ _ _ h=>SqL.of (h.2.2.2.2.2 _ _ hl16)) ?_ ?_
   ·exact⟨⟨none,none,rfl⟩,rfl,Qp _,Qp _,Zd,Zi hD4 _⟩
   ·rintro j y zs σ H17 hy ⟨⟨w1,w2,rfl⟩,rfl,hzl,hj,hD17,s17⟩
    rw[Qs]at hy
    cases hz:hts[j]? with
    | none=>rw[hz]at hy;cases hy
    | some e =>
    rw[hz]at hy
    cases hy
    have hjl:j<hts.length:=(Qe.mp hz).1
    have ez:Zd8 ((hts.take (j+1)).map (·.2))=Zd8 ((hts.take j).map (·.2))++(match e.2.2 with|some z=>[(z.length:Int)]|none=>[]):=by
     rw[QM,hz,Qh]
     exact Ziz _ e.2
    refine⟨e.1,_,rfl,SqT.of (s17 _ _ (hht e (Qw hz))),rfl,_,_,rfl,_,_,rfl,rfl,?_⟩
    cases ho:e.2.2 with
    | none =>
     rw[ho]at ez
     refine⟨_,rfl,rfl,_,rfl,Zfn rfl ?_⟩
     refine⟨⟨_,_,rfl⟩,by rw[ez];simp,by omega,hjl,hD17,s17⟩
    | some z =>
     rw[ho]at ez
     refine⟨_,rfl,rfl,_,rfl,ZlW (fun z=>nomatch z) ?_⟩
     refine⟨_,rfl,z,rfl,by rw[sizeLine_eq];have:=hkl j e z hz ho;omega,hD17,(by rw[sizeLine_eq];omega),⟨_,_,rfl⟩,by rw[ez,Qh];rfl,(by rw[Qa]at hzl;rw[Qd,Qa];show _+1≤_;omega),hjl,Zd,fun b o hb=>?_⟩
     rw[Zc (Zb hb hD4)];exact s17 b o hb
   rintro zs σ H17 ⟨⟨w1,w2,rfl⟩,rfl,hzl,_,hD17,s17⟩
   rw[Qa,Qu (Qg _),he]at hD17
   simp only[List.length_map]at hzl
   rw[Qu (Qg _),he]at hzl
   have hz60:(Zd8 (hdO (ZaA X.L))).length≤60:=by omega
   refine⟨D4,_,rfl,SqL.of hD17,by omega,fun n hn=>?_,?_⟩
   ·obtain⟨e,he',hn'⟩:=List.mem_filterMap.mp hn
    have h1:e∈hts.map (·.2):=by rw[he];exact he'
    obtain⟨tt,htt,rfl⟩:=QJ.mp h1
    obtain⟨j,hj⟩:=List.getElem?_of_mem htt
    cases ho:tt.2.2 with
    | none=>rw[ho]at hn';cases hn'
    | some z =>
     rw[ho]at hn'
     have:=hkl j tt z hj ho
     have:(z.length:Int)=n:=Qj hn'
     omega
   rw[Zgl,← ZmZ nd]
   have mg17:=(mg.same s16).same s17
   obtain⟨dx17,hm17⟩:=mg17.M.ob
   have bound:X.lo≤X.li+(sgn ts:Int)+((hSg (hdP (ZaA X.L)) (ZD (ZaA X.L)):Nat):Int):=by
    obtain⟨_,_,_,am⟩:=htk.amort (Zfp rs) h8 (ZgC _ rs hsrtR) ph
    obtain⟨f',pf'⟩:=Phi.ex (hdP (ZaA X.L)) (ZD (Zan rs)).length (ZD (Zan rs)) (Qg _) (Z6 (Zfp rs))
    obtain⟨c1,_⟩:=am f' pf'
    have W:=mg.W
    rw[Zcy,ZaZ,htk.num]at W
    have fl:=pf'.le W
    rw[htk.num]
    omega
   refine⟨_,rfl,X.m,dx17,_,rfl,hm17,ZeG ..,X.m,X.rd,X.sd,X.L,X.s,X.nb,X.li,X.lo,Zdj X.w,rfl,mg17.M,?_⟩
   refine⟨_,rfl,X.m,dx17,_,rfl,hm17,ZcC ..,X.m,X.rd,X.sd,X.L,X.s,X.nb,X.li,X.lo,Zdj X.w,rfl,mg17.M,?_⟩
   refine⟨_,rfl,_,_,rfl,rfl,_,rfl,_,_,rfl,rfl,_,_,rfl,rfl,_,rfl,Zbo (fun d=>absurd (of_decide_eq_true d) (by omega)) (fun _=>?_)⟩
   refine⟨_,rfl,_,rfl,X.m,dx17,_,rfl,hm17,Ze7 ..,xw9 X.m X.rd X.sd X.L X.s X.nb X.li X.lo X.w ⟨rfl,mg17.M,mg17.W,mg17.ok,fun x2 L' s' w' k3 q3 H18 hR M18 W18 ok18 k18=>?_⟩⟩
   have hleft:=htk.left (ZkU rs)
   rw[ZdM]at hleft
   rcases Zge mg17.W hR with⟨w0',_⟩|⟨y,z,t,stp,eL,rfl,ht2⟩
   ·have h1:ZaM (ZaA X.L)=0:=by
     have h2:Zeo (ZaA X.L)=[]:=by
      apply List.eq_nil_iff_forall_not_mem.mpr
      intro u hu
      obtain⟨x,hx,e1,e2,e3⟩:=ZhS hu
      have h4:=w0' x.1 (Qn (f:=fun x:ZC=>x.1) hx)
      rw[ZcX nd hx]at h4
      have hlt:=(Qe.mp e3).1
      rw[Qb (by omega)]at h4
      cases h4
     rw[← Zfa,h2];rfl
    omega
   have hzs:z.length≤1000:=by
    obtain⟨e0,he0,ee⟩:=QJ.mp stp.1
    have h3:=Qw stp.2.1
    rw[← ee]at h3
    exact((mg.M.each e0 he0).str z h3).1
   refine(xw4 t _ _ _ ⟨rfl,rfl,SqT.of ht2,rfl,z,rfl,by rw[sizeLine_eq];omega,_,_,rfl,rfl,?_⟩)
   refine⟨⟨X.m,X.rd,X.sd,L',s',X.nb,X.li+k3,X.lo+q3,w'⟩,ts++[(y.1,y.2.2,z)],k+k3,q'+q3,_,_,by rw[Zh4,Qaf];rfl,⟨M18,W18,ok18⟩,by show Zao _ _ (ZaA L') _ _;rw[eL];exact .snoc htk stp,by rw[Qd,htl];rfl,by show X.li+k3=_;omega,by show X.lo+q3=_;omega,fun b hb=>hf b (hR.fp.mp hb),fun b o hb=>k18 b o (s17 _ _ (s16 _ _ (s15 b o hb))) fun z=>by rw[hf b z]at hb;cases hb⟩
  ·rintro σ H15 ⟨X,ts,k,q',v12,v13,rfl,mg,htk,htl,eli,elo,hf,s15⟩
   have L15:=L12.same s15
   have s015:=s012.trans s15
   have c40:=L12.ge
   refine⟨_,rfl,_,rfl,p,c4,rfl,L15,by omega,fun sl ss c16 H16 hsl0 hsl16 n1 n4 h24 L16 a3 a4 B16=>?_⟩
   have npsl:p≠sl:=by obtain⟨o,ho⟩:=L15.here;exact Zb ho hsl0
   refine⟨p,sl,c16,9,ss,rfl,L16,by omega,by decide,by decide,hsl16,n1,n4,h24,fun r1 t1 c17 H17 hr10 hr17 ht9 st1 h28 L17 a5 a6 B17=>?_⟩
   have keep:∀ {Ha Hb:Hp},ZH H Ha→But p Ha Hb→ZH H Hb:=fun {Ha Hb} s b x o e=>b x o (s x o e) (Zb e nHp)
   have s017:=keep (keep s015 B16) B17
   have npr1:p≠r1:=by obtain⟨o,ho⟩:=L16.here;exact Zb ho hr10
   refine⟨(by show 1≤sizeLine;decide),fun al hal=>?_⟩
   have s18:=Zi hal (.lst [.ref r1])
   have hal':(upd H17 al (.lst [.ref r1])) al=some (.lst ([(r1,t1)].map fun x=>V.ref x.1)):=Zd
   have L18:=L17.same s18
   have s018:=s017.trans s18
   have hr18:=s18 _ _ hr17
   generalize upd H17 al (.lst [.ref r1])=H18 at s18 hal' L18 s018 hr18 ⊢
   have R18:Za1 H18 al [(r1,t1)]:=⟨hal',(by show 1≤60;decide),fun x hx=>by
    rw[Qk.mp hx]
    exact⟨hr18,by show t1.length≤100;omega,fun s hs=>⟨by have:=(h28 s hs).1;omega,(h28 s hs).2⟩⟩⟩
   clear s18 hal' hr17 hsl16 hsl0 B16 B17 L16 L17 L15 s017 s015
   refine⟨_,rfl,al,[(r1,t1)],rfl,R18,(fun x hx=>by rw[Qk.mp hx];exact st1),fun x1 ka qa kb qb H19 hPa hEa hx1 s19=>?_⟩
   obtain⟨rfl,rfl⟩:=Zfy hPa (by rw[Zbr];exact Qg _)
   obtain⟨rfl,rfl⟩:=ZdH hEa (by rw[Zbr];exact Qg _)
   refine⟨(by show 0≤sizeLine;decide),fun e1 he1=>?_⟩
   have s20:=Zi he1 (.lst [])
   have he1':(upd H19 e1 (.lst [])) e1=some (.lst (([]:List (Addr×List Str)).map fun x=>V.ref x.1)):=Zd
   generalize upd H19 e1 (.lst [])=H20 at s20 he1' ⊢
   have R20:Za1 H20 e1 []:=⟨he1',by decide,fun x hx=>by cases hx⟩
   refine⟨e1,[],rfl,R20,(fun x hx=>by cases hx),fun x2 ka qa kb qb H21 hPb hEb hx2 s21=>?_⟩
   obtain⟨rfl,rfl⟩:=Zfy hPb (by rw[Zbr];exact Qp _)
   obtain⟨rfl,rfl⟩:=ZdH hEb (by rw[Zbr];exact Qp _)
   refine⟨(by show 0≤sizeLine;decide),fun e2 he2=>?_⟩
   have s22:=Zi he2 (.lst [])
   have he2':(upd H21 e2 (.lst [])) e2=some (.lst (([]:List (Addr×List Str)).map fun x=>V.ref x.1)):=Zd
   generalize upd H21 e2 (.lst [])=H22 at s22 he2' ⊢
   have R22:Za1 H22 e2 []:=⟨he2',by decide,fun x hx=>by cases hx⟩
   refine⟨e2,[],rfl,R22,(fun x hx=>by cases hx),by decide,fun x3 ka qa kb qb H23 hPc hEc hx3 s23=>?_⟩
   obtain⟨rfl,rfl⟩:=Zfy hPc (by rw[Zbr];exact Qp _)
   obtain⟨rfl,rfl⟩:=ZdH hEc (by rw[Zbr];exact Qp _)
   have s1923:=s20.trans (s21.trans (s22.trans s23))
   have s2123:=s22.trans s23
   refine⟨(by show 3≤sizeLine;decide),fun q1 hq1=>?_⟩
   have s24:=Zi hq1 (.lst [.ref x1,.ref x2,.ref x3])
   have hq1':(upd H23 q1 (.lst [.ref x1,.ref x2,.ref x3])) q1=some (.lst [.ref x1,.ref x2,.ref x3]):=Zd
   generalize upd H23 q1 (.lst [.ref x1,.ref x2,.ref x3])=H24 at s24 hq1' ⊢
   refine⟨(by show 2≤sizeLine;decide),fun y1 hy1=>?_⟩
   have s25:=Zi hy1 (.tup [.int 0,.int 0])
   have hy1':(upd H24 y1 (.tup [.int 0,.int 0])) y1=some (.tup [.int 0,.int 0]):=Zd
   generalize upd H24 y1 (.tup [.int 0,.int 0])=H25 at s25 hy1' ⊢
   refine⟨(by show 2≤sizeLine;decide),fun y2 hy2=>?_⟩
   have s26:=Zi hy2 (.tup [.int 0,.int 0])
   have hy2':(upd H25 y2 (.tup [.int 0,.int 0])) y2=some (.tup [.int 0,.int 0]):=Zd
   generalize upd H25 y2 (.tup [.int 0,.int 0])=H26 at s26 hy2' ⊢
   refine⟨(by show 2≤sizeLine;decide),fun y3 hy3=>?_⟩
   have s27:=Zi hy3 (.tup [.int 0,.int 0])
   have hy3':(upd H26 y3 (.tup [.int 0,.int 0])) y3=some (.tup [.int 0,.int 0]):=Zd
   generalize upd H26 y3 (.tup [.int 0,.int 0])=H27 at s27 hy3' ⊢
   refine⟨(by show 3≤sizeLine;decide),fun q2 hq2=>?_⟩
   have s28:=Zi hq2 (.lst [.ref y1,.ref y2,.ref y3])
   have hq2':(upd H27 q2 (.lst [.ref y1,.ref y2,.ref y3])) q2=some (.lst [.ref y1,.ref y2,.ref y3]):=Zd
   generalize upd H27 q2 (.lst [.ref y1,.ref y2,.ref y3])=H28 at s28 hq2' ⊢
   have s2428:=s25.trans (s26.trans (s27.trans s28))
   have s2328:=s24.trans s2428
   have fl2:F2 (IsD H28 2) [.int 0,.int 0] [.int 0,.int 0]:=.cons (ZeL _) (.cons (ZeL _) .nil)
   have hbz:H28 x3=some (.tup [.int 0,.int 0]):=s2328 _ _ hx3
   have D28:IsD H28 4 (.ref q1) (.ref q2):=ZmU (s2428 _ _ hq1') hq2' (by show 3≤1000;decide) (.cons (ZeO (s2328 _ _ (s1923 _ _ hx1)) (s28 _ _ (s27 _ _ (s26 _ _ hy1'))) (by show 2≤1000;decide) fl2) (.cons (ZeO (s2328 _ _ (s2123 _ _ hx2)) (s28 _ _ (s27 _ _ hy2')) (by show 2≤1000;decide) fl2) (.cons (ZeO hbz (s28 _ _ hy3') (by show 2≤1000;decide) fl2) .nil)))
   refine⟨_,_,rfl,D28,fun H29 s29=>⟨_,rfl,Zcz ?_⟩⟩
   have s1829:=s19.trans (s1923.trans (s2328.trans s29))
   have L29:=L18.same s1829
   have s029:=s018.trans s1829
   clear D28 fl2 hbz s2328 s2428 s28 s27 s26 s25 s24 s2123 s1923 s19 s20 s21 s22 s23 s29 s1829 hq1 hq2 hq1' hq2' hy1 hy2 hy3 hy1' hy2' hy3' R18 R20 R22 L18 s018 hPa hPb hPc hEa hEb hEc hx1 hx2 hx3
   refine⟨_,rfl,p,c17,20,rfl,L29,by omega,by decide,by decide,fun n30 H30 n0 n20 L30 B30=>?_⟩
   obtain⟨nn,rfl⟩:∃nn:Nat,n30=(nn:Int):=⟨n30.toNat,by omega⟩
   obtain⟨ablen,abz⟩:=Zpu nn (by omega)
   refine⟨_,_,rfl,rfl,by omega,by omega,(by show (2:Int)*(nn:Int)≤1000000;omega),?_⟩
   have s030:=keep s029 B30
   refine⟨_,rfl,p,c17+1,11,rfl,L30,by omega,by decide,by decide,fun m31 H31 m0 m11 L31 B31=>?_⟩
   have s031:=keep s030 B31
   generalize hky:Txt.mul "ab" (nn:Int)=ky at ablen abz ⊢
   refine⟨_,_,rfl,rfl,_,rfl,_,rfl,by omega,by omega,fun D5 hD5=>?_⟩
   refine ZcA (fun j zs σ H32=>(∃w1:Option V,σ=[some (.ref a),some (.int (0+(ii:Int))),some (.ref p),some (.ref r),some (.ref D),some (.ref ct),some (.ref bt),some (.ref D2),some (.int (sgR rs:Int)),some (.ref dt),some (.ref X.m),some (.int (sgn ts:Int)),v12,v13,some (.ref al),some (.str (ky)),some (.int (2+m31)),w1])∧(∃gs:List (Addr×List Str),zs=(gs.map fun x=>V.ref x.1)∧gs.length=j∧∀x∈gs,x.2=[ky]∧x.1≠D5∧H32 x.1=some (.lst [.str ky]))∧H32 D5=some (.lst zs)∧ZH H31 H32) ?_ ?_ ?_
   ·exact⟨⟨none,rfl⟩,⟨[],rfl,rfl,fun x h=>by cases h⟩,Zd,Zi hD5 _⟩
   ·rintro j zs σ H32 hj ⟨⟨w1,rfl⟩,⟨gs,rfl,hgl,hgs⟩,hD32,s32⟩
    have hj13:j<13:=by omega
    refine⟨_,rfl,(by show 1≤sizeLine;decide),fun n hn0=>?_⟩
    have sn:=Zi hn0 (.lst [.str ky])
    have nDn:D5≠n:=Zb hD32 hn0
    refine⟨sn _ _ hD32,(by rw[Qa,hgl,sizeLine_eq];omega),⟨_,rfl⟩,⟨gs++[(n,[ky])],by rw[Qh];rfl,by rw[Qd,hgl];rfl,fun x hx=>?_⟩,Zd,fun b o hb=>?_⟩
    ·rcases Qm.mp hx with hx|hx
     ·obtain⟨g1,g2,g3⟩:=hgs x hx
      exact⟨g1,g2,by rw[Zc g2];exact sn _ _ g3⟩
     ·rw[Qk.mp hx]
      exact⟨rfl,nDn.symm,by rw[Zc nDn.symm];exact Zd⟩
    ·rw[Zc (Zb hb hD5)];exact sn _ _ (s32 b o hb)
   rintro zs σ H32 ⟨⟨w1,rfl⟩,⟨gs,rfl,hgl,hgs⟩,hD32,s32⟩
   have hg13:gs.length≤13:=by omega
   have R32:Za1 H32 D5 gs:=⟨hD32,by omega,fun x hx=>by
    obtain⟨g1,_,g3⟩:=hgs x hx
    rw[g1]
    exact⟨g3,(by show 1≤100;decide),fun s hs=>by rw[Qk.mp hs];exact⟨by omega,abz⟩⟩⟩
   have srtG:∀x∈gs,sortedS x.2=true:=fun x hx=>by rw[(hgs x hx).1];rfl
   refine⟨D5,gs,rfl,R32,srtG,fun x4 ka qa kb qb H33 hPd hEd hx4 s33=>?_⟩
   obtain⟨_,_,tsG,hpG,hqG⟩:=Zgk R32.few srtG hPd hEd
   have allG:∀s∈tsG.map (fun t:ZS=>t.2.2),s=ky:=fun s hs=>by
    obtain⟨x,hx,hsx⟩:=QaL.mp (hpG.mem_iff.mp hs)
    rw[(hgs x hx).1]at hsx
    exact Qk.mp hsx
   have lenG:tsG.length=gs.length:=by
    have h1:=hpG.length_eq
    rw[Qa,List.length_flatMap]at h1
    rw[h1]
    have:∀l:List (Addr×List Str),(∀x∈l,x.2=[ky])→(l.map fun x=>x.2.length).sum=l.length:=fun l=>by
     induction l with
     | nil=>exact fun _=>rfl
     | cons x l ih =>
      intro h
      rw[Qi,QN,ih (fun y hy=>h y (Ql _ hy)),h x (by simp),QD,QC,Nat.add_comm]
    exact this gs fun x hx=>(hgs x hx).1
   have sgG:∀l:List ZS,(∀t∈l,t.2.2=ky)→sgn l=l.length*ky.length:=fun l=>by
    induction l with
    | nil=>intro _;unfold sgn;simp
    | cons x l ih =>
     intro h
     have:=ih fun y hy=>h y (Ql _ hy)
     unfold sgn at this ⊢
     rw[Qi,QN,this,h x (by simp),QC,Nat.add_mul,Nat.one_mul]
     omega
   obtain⟨ts1,tl,eG⟩:∃ts1 tl,tsG=ts1++[tl]:=by
    have hne:tsG≠[]:=fun z=>by rw[z]at lenG;simp at lenG;omega
    exact⟨tsG.dropLast,tsG.getLast hne,(Qax hne).symm⟩
   have hq:=hqG ts1 tl eG
   have hs1:=sgG ts1 fun t ht=>allG _ (Qn (f:=fun t:ZS=>t.2.2) (by rw[eG];exact Qv _ ht))
   have hl1:ts1.length+1=gs.length:=by rw[← lenG,eG,Qd];rfl
   have hfin:(sgn ts1:Int)=(ky.length:Int)*(2+m31-1):=by
    rw[hs1,Int.natCast_mul,Int.mul_comm]
    congr 1
    omega
   refine⟨_,rfl,x4,_,_,_,rfl,rfl,SqT.of hx4,rfl,_,rfl,x4,_,_,_,rfl,rfl,SqT.of hx4,rfl,_,rfl,ky,rfl,by rw[sizeLine_eq];omega,_,rfl,_,_,rfl,rfl,_,_,rfl,rfl,.inl ⟨by omega,by omega⟩,_,_,rfl,rfl,_,_,rfl,rfl,_,rfl,Zbo (fun d=>absurd (of_decide_eq_true d) (by omega)) (fun _=>?_)⟩
   exact⟨_,_,ZpC _ _ _ _ _ _ _ _ _ _ _ _ _ _ ⟨rfl,s031.trans (s32.trans s33)⟩⟩
 ·rintro σ H2 ⟨v1,v2,v3,v4,v5,v6,v7,v8,v9,v10,v11,v12,v13,v14,v15,v16,rfl,s2⟩
  exact q H2
end
theorem Zab{K:PySem.W.Frag}{h:Heap}{mg:Str→Option Value}{x:Str}{st:Stmt}{ps:List Str}{f:Addr}{od an:Option Addr}{sl:Array (Option Value)}{oc kV dc pm cd ct:Value}(X:K.In h)(G:h.Ns mainGlobals mg)
  (a:PySem.W.nsIn K mainGlobals x=some (some (.ref f))) (l:K.lookup f=some ⟨oc,od,.func (PySem.W.fnOf x x (Zo st) (Zn st) (Zf st) .none kV dc pm an cd ct),sl⟩) (c:PySem.W.codeIn K cd x=true) (k:PySem.W.keepIn K (.ref f)=true)
  (hb:∀ (kV doc pm:Value) (an:Option Addr) (cdv ct:Value) (us:List Value),us.length=ps.length→bindArgs (PySem.W.fnOf x x (Zo st) (Zn st) (Zf st) .none kV doc pm an cdv ct) ⟨us,[]⟩=pure (ps.zip us)):Top K mg x st ps :=
 ⟨_,_,ZN (st:=st) l c k,PySem.W.mg_of X G a,(ZN (st:=st) l c k).binds hb⟩
theorem Zcv:∀us:List Value,us.length=1→∃a0,us=[a0]
 | [a0],_=>⟨a0,rfl⟩
theorem ZdC:∀us:List Value,us.length=2→∃a0 a1,us=[a0,a1]
 | [a0,a1],_=>⟨a0,a1,rfl⟩
theorem Zkb:∀us:List Value,us.length=3→∃a0 a1 a2,us=[a0,a1,a2]
 | [a0,a1,a2],_=>⟨a0,a1,a2,rfl⟩
theorem Zqe:∀us:List Value,us.length=4→∃a0 a1 a2 a3,us=[a0,a1,a2,a3]
 | [a0,a1,a2,a3],_=>⟨a0,a1,a2,a3,rfl⟩
theorem all_mk{l:PySem.W.OpenLaw}{w:World}{K:PySem.W.Frag}{h:Heap}{mg:Str→Option Value}{fa:Addr}(X:K.In h)(G:h.Ns mainGlobals mg)(hfa:mg "law" = some (.ref fa))
  {cRow:Addr}
  {cMerge:Addr}
  (aCRow:#[Xns,K,"Row",cRow]) (pgRow:PySem.W.plainGet K cRow Str.empty=true) (hdRow:PySem.W.hasDictIn K cRow=true) (poRow:PySem.W.plainOver K cRow=true) (saRow:PySem.W.findIn K (.ref cRow) "__setattr__" = some (some (.builtin "object.__setattr__"))) (mkRow:PySem.W.makesIn K cRow=true) (kcRow:#[Xki,K,cRow])
  (nARow_all_keys:PySem.W.findIn K (.ref cRow) "all_keys" = some none)
  (nARow_fars:PySem.W.findIn K (.ref cRow) "fars" = some none)
  (nARow_gone:PySem.W.findIn K (.ref cRow) "gone" = some none)
  (aCMerge:#[Xns,K,"Merge",cMerge]) (pgMerge:PySem.W.plainGet K cMerge Str.empty=true) (hdMerge:PySem.W.hasDictIn K cMerge=true) (poMerge:PySem.W.plainOver K cMerge=true) (saMerge:PySem.W.findIn K (.ref cMerge) "__setattr__" = some (some (.builtin "object.__setattr__"))) (mkMerge:PySem.W.makesIn K cMerge=true) (kcMerge:#[Xki,K,cMerge])
  (nAMerge_best:PySem.W.findIn K (.ref cMerge) "best" = some none)
  (nAMerge_likened:PySem.W.findIn K (.ref cMerge) "likened" = some none)
  (nAMerge_looked:PySem.W.findIn K (.ref cMerge) "looked" = some none)
  (nAMerge_next_number:PySem.W.findIn K (.ref cMerge) "next_number" = some none)
  (nAMerge_rows:PySem.W.findIn K (.ref cMerge) "rows" = some none)
  (nAMerge_stays:PySem.W.findIn K (.ref cMerge) "stays" = some none)
  (a0:#[Xns,K,"halves",f0]) (l0:#[Xlk,K,f0,oc0,od0,"halves","halves",Zce,kV0,dc0,pm0,an0,cd0,ct0,sl0]) (c0:#[Xci,K,cd0,"halves"]) (k0:#[Xki,K,f0])
  (a1:#[Xns,K,"way_up",f1]) (l1:#[Xlk,K,f1,oc1,od1,"way_up","way_up",Zb0,kV1,dc1,pm1,an1,cd1,ct1,sl1]) (c1:#[Xci,K,cd1,"way_up"]) (k1:#[Xki,K,f1])
  (a2:#[Xns,K,"height",f2]) (l2:#[Xlk,K,f2,oc2,od2,"height","height",Zb4,kV2,dc2,pm2,an2,cd2,ct2,sl2]) (c2:#[Xci,K,cd2,"height"]) (k2:#[Xki,K,f2])
  (a3:#[Xns,K,"alike",f3]) (l3:#[Xlk,K,f3,oc3,od3,"alike","alike",ZcN,kV3,dc3,pm3,an3,cd3,ct3,sl3]) (c3:#[Xci,K,cd3,"alike"]) (k3:#[Xki,K,f3])
  (a4:#[Xns,K,"liken",f4]) (l4:#[Xlk,K,f4,oc4,od4,"liken","liken",ZcZ,kV4,dc4,pm4,an4,cd4,ct4,sl4]) (c4:#[Xci,K,cd4,"liken"]) (k4:#[Xki,K,f4])
  (a5:#[Xns,K,"liken_from",f5]) (l5:#[Xlk,K,f5,oc5,od5,"liken_from","liken_from",ZaW,kV5,dc5,pm5,an5,cd5,ct5,sl5]) (c5:#[Xci,K,cd5,"liken_from"]) (k5:#[Xki,K,f5])
  (a6:#[Xns,K,"alike_from",f6]) (l6:#[Xlk,K,f6,oc6,od6,"alike_from","alike_from",ZaX,kV6,dc6,pm6,an6,cd6,ct6,sl6]) (c6:#[Xci,K,cd6,"alike_from"]) (k6:#[Xki,K,f6])
  (a7:#[Xns,K,"order_at",f7]) (l7:#[Xlk,K,f7,oc7,od7,"order_at","order_at",Zbq,kV7,dc7,pm7,an7,cd7,ct7,sl7]) (c7:#[Xci,K,cd7,"order_at"]) (k7:#[Xki,K,f7])
  (a8:#[Xns,K,"first_break",f8]) (l8:#[Xlk,K,f8,oc8,od8,"first_break","first_break",ZaK,kV8,dc8,pm8,an8,cd8,ct8,sl8]) (c8:#[Xci,K,cd8,"first_break"]) (k8:#[Xki,K,f8])
  (a9:#[Xns,K,"alikes",f9]) (l9:#[Xlk,K,f9,oc9,od9,"alikes","alikes",Zci,kV9,dc9,pm9,an9,cd9,ct9,sl9]) (c9:#[Xci,K,cd9,"alikes"]) (k9:#[Xki,K,f9])
  (a10:#[Xns,K,"refuse_break",f10]) (l10:#[Xlk,K,f10,oc10,od10,"refuse_break","refuse_break",ZaE,kV10,dc10,pm10,an10,cd10,ct10,sl10]) (c10:#[Xci,K,cd10,"refuse_break"]) (k10:#[Xki,K,f10])
  (a11:#[Xns,K,"matches_up",f11]) (l11:#[Xlk,K,f11,oc11,od11,"matches_up","matches_up",ZaY,kV11,dc11,pm11,an11,cd11,ct11,sl11]) (c11:#[Xci,K,cd11,"matches_up"]) (k11:#[Xki,K,f11])
  (a12:#[Xns,K,"counts",f12]) (l12:#[Xlk,K,f12,oc12,od12,"counts","counts",Zb8,kV12,dc12,pm12,an12,cd12,ct12,sl12]) (c12:#[Xci,K,cd12,"counts"]) (k12:#[Xki,K,f12])
  (a13:#[Xns,K,"bounds_of",f13]) (l13:#[Xlk,K,f13,oc13,od13,"bounds_of","bounds_of",ZaS,kV13,dc13,pm13,an13,cd13,ct13,sl13]) (c13:#[Xci,K,cd13,"bounds_of"]) (k13:#[Xki,K,f13])
  (a14:#[Xns,K,"how_many",f14]) (l14:#[Xlk,K,f14,oc14,od14,"how_many","how_many",Za6,kV14,dc14,pm14,an14,cd14,ct14,sl14]) (c14:#[Xci,K,cd14,"how_many"]) (k14:#[Xki,K,f14])
  (a15:#[Xns,K,"_law_mix",f15]) (l15:#[Xlk,K,f15,oc15,od15,"_law_mix","_law_mix",Zc1,kV15,dc15,pm15,an15,cd15,ct15,sl15]) (c15:#[Xci,K,cd15,"_law_mix"]) (k15:#[Xki,K,f15])
  (a16:#[Xns,K,"_law_left",f16]) (l16:#[Xlk,K,f16,oc16,od16,"_law_left","_law_left",Zb3,kV16,dc16,pm16,an16,cd16,ct16,sl16]) (c16:#[Xci,K,cd16,"_law_left"]) (k16:#[Xki,K,f16])
  (a17:#[Xns,K,"_law_pick",f17]) (l17:#[Xlk,K,f17,oc17,od17,"_law_pick","_law_pick",Zch,kV17,dc17,pm17,an17,cd17,ct17,sl17]) (c17:#[Xci,K,cd17,"_law_pick"]) (k17:#[Xki,K,f17])
  (a18:#[Xns,K,"_law_stems",f18]) (l18:#[Xlk,K,f18,oc18,od18,"_law_stems","_law_stems",Zbj,kV18,dc18,pm18,an18,cd18,ct18,sl18]) (c18:#[Xci,K,cd18,"_law_stems"]) (k18:#[Xki,K,f18])
  (a19:#[Xns,K,"_law_key",f19]) (l19:#[Xlk,K,f19,oc19,od19,"_law_key","_law_key",Zck,kV19,dc19,pm19,an19,cd19,ct19,sl19]) (c19:#[Xci,K,cd19,"_law_key"]) (k19:#[Xki,K,f19])
  (a20:#[Xns,K,"_law_keys",f20]) (l20:#[Xlk,K,f20,oc20,od20,"_law_keys","_law_keys",Zcj,kV20,dc20,pm20,an20,cd20,ct20,sl20]) (c20:#[Xci,K,cd20,"_law_keys"]) (k20:#[Xki,K,f20])
  (a21:#[Xns,K,"_law_row",f21]) (l21:#[Xlk,K,f21,oc21,od21,"_law_row","_law_row",ZcU,kV21,dc21,pm21,an21,cd21,ct21,sl21]) (c21:#[Xci,K,cd21,"_law_row"]) (k21:#[Xki,K,f21])
  (a22:#[Xns,K,"_law_many",f22]) (l22:#[Xlk,K,f22,oc22,od22,"_law_many","_law_many",Zcl,kV22,dc22,pm22,an22,cd22,ct22,sl22]) (c22:#[Xci,K,cd22,"_law_many"]) (k22:#[Xki,K,f22])
  (a23:#[Xns,K,"_law_rows",f23]) (l23:#[Xlk,K,f23,oc23,od23,"_law_rows","_law_rows",ZbE,kV23,dc23,pm23,an23,cd23,ct23,sl23]) (c23:#[Xci,K,cd23,"_law_rows"]) (k23:#[Xki,K,f23])
  (a24:#[Xns,K,"_law_order",f24]) (l24:#[Xlk,K,f24,oc24,od24,"_law_order","_law_order",Zbg,kV24,dc24,pm24,an24,cd24,ct24,sl24]) (c24:#[Xci,K,cd24,"_law_order"]) (k24:#[Xki,K,f24])
  (a25:#[Xns,K,"_law_same",f25]) (l25:#[Xlk,K,f25,oc25,od25,"_law_same","_law_same",ZbC,kV25,dc25,pm25,an25,cd25,ct25,sl25]) (c25:#[Xci,K,cd25,"_law_same"]) (k25:#[Xki,K,f25])
  (a26:#[Xns,K,"law",f26]) (l26:#[Xlk,K,f26,oc26,od26,"law","law",Zbc,kV26,dc26,pm26,an26,cd26,ct26,sl26]) (c26:#[Xci,K,cd26,"law"]) (k26:#[Xki,K,f26])
  (a27:#[Xfi,K,cRow,"__init__",f27]) (i27:#[Xif,K,f27]) (l27:#[Xlk,K,f27,oc27,od27,"__init__","Row.__init__",ZaP,kV27,dc27,pm27,an27,cd27,ct27,sl27]) (c27:#[Xci,K,cd27,"Row.__init__"]) (k27:#[Xki,K,f27])
  (a28:#[Xfi,K,cRow,"to_go",f28]) (i28:#[Xif,K,f28]) (l28:#[Xlk,K,f28,oc28,od28,"to_go","Row.to_go",ZaC,kV28,dc28,pm28,an28,cd28,ct28,sl28]) (c28:#[Xci,K,cd28,"Row.to_go"]) (k28:#[Xki,K,f28])
  (a29:#[Xfi,K,cRow,"head",f29]) (i29:#[Xif,K,f29]) (l29:#[Xlk,K,f29,oc29,od29,"head","Row.head",ZaJ,kV29,dc29,pm29,an29,cd29,ct29,sl29]) (c29:#[Xci,K,cd29,"Row.head"]) (k29:#[Xki,K,f29])
  (a30:#[Xfi,K,cMerge,"__init__",f30]) (i30:#[Xif,K,f30]) (l30:#[Xlk,K,f30,oc30,od30,"__init__","Merge.__init__",Zar,kV30,dc30,pm30,an30,cd30,ct30,sl30]) (c30:#[Xci,K,cd30,"Merge.__init__"]) (k30:#[Xki,K,f30])
  (a31:#[Xfi,K,cMerge,"coming",f31]) (i31:#[Xif,K,f31]) (l31:#[Xlk,K,f31,oc31,od31,"coming","Merge.coming",Zae,kV31,dc31,pm31,an31,cd31,ct31,sl31]) (c31:#[Xci,K,cd31,"Merge.coming"]) (k31:#[Xki,K,f31])
  (a32:#[Xfi,K,cMerge,"take",f32]) (i32:#[Xif,K,f32]) (l32:#[Xlk,K,f32,oc32,od32,"take","Merge.take",Zau,kV32,dc32,pm32,an32,cd32,ct32,sl32]) (c32:#[Xci,K,cd32,"Merge.take"]) (k32:#[Xki,K,f32])
  (a33:#[Xfi,K,cMerge,"take_few",f33]) (i33:#[Xif,K,f33]) (l33:#[Xlk,K,f33,oc33,od33,"take_few","Merge.take_few",ZY,kV33,dc33,pm33,an33,cd33,ct33,sl33]) (c33:#[Xci,K,cd33,"Merge.take_few"]) (k33:#[Xki,K,f33])
  (a34:#[Xfi,K,cMerge,"heads",f34]) (i34:#[Xif,K,f34]) (l34:#[Xlk,K,f34,oc34,od34,"heads","Merge.heads",Zac,kV34,dc34,pm34,an34,cd34,ct34,sl34]) (c34:#[Xci,K,cd34,"Merge.heads"]) (k34:#[Xki,K,f34])
  (a35:#[Xfi,K,cMerge,"likenings",f35]) (i35:#[Xif,K,f35]) (l35:#[Xlk,K,f35,oc35,od35,"likenings","Merge.likenings",ZT,kV35,dc35,pm35,an35,cd35,ct35,sl35]) (c35:#[Xci,K,cd35,"Merge.likenings"]) (k35:#[Xki,K,f35])
  (a36:#[Xfi,K,cMerge,"looks",f36]) (i36:#[Xif,K,f36]) (l36:#[Xlk,K,f36,oc36,od36,"looks","Merge.looks",Zai,kV36,dc36,pm36,an36,cd36,ct36,sl36]) (c36:#[Xci,K,cd36,"Merge.looks"]) (k36:#[Xki,K,f36])
  (a37:#[Xfi,K,cMerge,"play_all",f37]) (i37:#[Xif,K,f37]) (l37:#[Xlk,K,f37,oc37,od37,"play_all","Merge.play_all",Z1,kV37,dc37,pm37,an37,cd37,ct37,sl37]) (c37:#[Xci,K,cd37,"Merge.play_all"]) (k37:#[Xki,K,f37])
  (a38:#[Xfi,K,cMerge,"play",f38]) (i38:#[Xif,K,f38]) (l38:#[Xlk,K,f38,oc38,od38,"play","Merge.play",Zat,kV38,dc38,pm38,an38,cd38,ct38,sl38]) (c38:#[Xci,K,cd38,"Merge.play"]) (k38:#[Xki,K,f38])
  (a39:#[Xfi,K,cMerge,"send_out",f39]) (i39:#[Xif,K,f39]) (l39:#[Xlk,K,f39,oc39,od39,"send_out","Merge.send_out",ZZ,kV39,dc39,pm39,an39,cd39,ct39,sl39]) (c39:#[Xci,K,cd39,"Merge.send_out"]) (k39:#[Xki,K,f39])
  (a40:#[Xfi,K,cMerge,"play_again",f40]) (i40:#[Xif,K,f40]) (l40:#[Xlk,K,f40,oc40,od40,"play_again","Merge.play_again",ZM,kV40,dc40,pm40,an40,cd40,ct40,sl40]) (c40:#[Xci,K,cd40,"Merge.play_again"]) (k40:#[Xki,K,f40])
  (a41:#[Xfi,K,cMerge,"meet",f41]) (i41:#[Xif,K,f41]) (l41:#[Xlk,K,f41,oc41,od41,"meet","Merge.meet",Zap,kV41,dc41,pm41,an41,cd41,ct41,sl41]) (c41:#[Xci,K,cd41,"Merge.meet"]) (k41:#[Xki,K,f41])
  (z0:PySem.W.nsIn K mainGlobals "abs" = some none) (z1:PySem.W.nsIn K mainGlobals "all" = some none) (z2:PySem.W.nsIn K mainGlobals "bool" = some none) (z3:PySem.W.nsIn K mainGlobals "enumerate" = some none) (z4:PySem.W.nsIn K mainGlobals "int" = some none) (z5:PySem.W.nsIn K mainGlobals "isinstance" = some none) (z6:PySem.W.nsIn K mainGlobals "len" = some none) (z7:PySem.W.nsIn K mainGlobals "list" = some none) (z8:PySem.W.nsIn K mainGlobals "max" = some none) (z9:PySem.W.nsIn K mainGlobals "min" = some none) (z10:PySem.W.nsIn K mainGlobals "range" = some none) (z11:PySem.W.nsIn K mainGlobals "sorted" = some none) (z12:PySem.W.nsIn K mainGlobals "str" = some none) (z13:PySem.W.nsIn K mainGlobals "sum" = some none) (z14:PySem.W.nsIn K mainGlobals "tuple" = some none) (z15:PySem.W.nsIn K mainGlobals "zip" = some none) :
  ∃fd:FuncData,(∀ (s:Shared) (v:Value),BindsTo s fd ⟨[v],[]⟩ [("_law_script",v)])∧∀base:Heap,K.In base→base.Ns mainGlobals mg→Zdi l.prog w K mg base CX0 18 fa fd ["_law_script"] (ZiY K):=by
 have e:=hfa.symm.trans (PySem.W.mg_of X G a26)
 cases e
 have T:Zaq K mg cRow cMerge:=⟨⟨QG X G z0,QG X G z1,QG X G z2,QG X G z3,QG X G z4,QG X G z5,QG X G z6,QG X G z7,QG X G z8,QG X G z9,QG X G z10,QG X G z11,QG X G z12,QG X G z13,QG X G z14,QG X G z15⟩,Zab X G a0 l0 c0 k0 (fun _ _ _ _ _ _ us hl=>by obtain⟨_,rfl⟩:=Zcv us hl;exact rfl),Zab X G a1 l1 c1 k1 (fun _ _ _ _ _ _ us hl=>by obtain⟨_,_,rfl⟩:=ZdC us hl;exact rfl),Zab X G a2 l2 c2 k2 (fun _ _ _ _ _ _ us hl=>by obtain⟨_,rfl⟩:=Zcv us hl;exact rfl),Zab X G a3 l3 c3 k3 (fun _ _ _ _ _ _ us hl=>by obtain⟨_,_,rfl⟩:=ZdC us hl;exact rfl),Zab X G a4 l4 c4 k4 (fun _ _ _ _ _ _ us hl=>by obtain⟨_,_,rfl⟩:=ZdC us hl;exact rfl),Zab X G a5 l5 c5 k5 (fun _ _ _ _ _ _ us hl=>by obtain⟨_,_,_,rfl⟩:=Zkb us hl;exact rfl),Zab X G a6 l6 c6 k6 (fun _ _ _ _ _ _ us hl=>by obtain⟨_,_,_,rfl⟩:=Zkb us hl;exact rfl),Zab X G a7 l7 c7 k7 (fun _ _ _ _ _ _ us hl=>by obtain⟨_,_,_,rfl⟩:=Zkb us hl;exact rfl),Zab X G a8 l8 c8 k8 (fun _ _ _ _ _ _ us hl=>by obtain⟨_,rfl⟩:=Zcv us hl;exact rfl),Zab X G a9 l9 c9 k9 (fun _ _ _ _ _ _ us hl=>by obtain⟨_,rfl⟩:=Zcv us hl;exact rfl),Zab X G a10 l10 c10 k10 (fun _ _ _ _ _ _ us hl=>by obtain⟨_,_,rfl⟩:=ZdC us hl;exact rfl),Zab X G a11 l11 c11 k11 (fun _ _ _ _ _ _ us hl=>by obtain⟨_,_,rfl⟩:=ZdC us hl;exact rfl),Zab X G a12 l12 c12 k12 (fun _ _ _ _ _ _ us hl=>by obtain⟨_,rfl⟩:=Zcv us hl;exact rfl),Zab X G a13 l13 c13 k13 (fun _ _ _ _ _ _ us hl=>by obtain⟨_,rfl⟩:=Zcv us hl;exact rfl),Zab X G a14 l14 c14 k14 (fun _ _ _ _ _ _ us hl=>by obtain⟨_,rfl⟩:=Zcv us hl;exact rfl),Zab X G a15 l15 c15 k15 (fun _ _ _ _ _ _ us hl=>by obtain⟨_,_,rfl⟩:=ZdC us hl;exact rfl),Zab X G a16 l16 c16 k16 (fun _ _ _ _ _ _ us hl=>by obtain⟨_,_,rfl⟩:=ZdC us hl;exact rfl),Zab X G a17 l17 c17 k17 (fun _ _ _ _ _ _ us hl=>by obtain⟨_,_,rfl⟩:=ZdC us hl;exact rfl),Zab X G a18 l18 c18 k18 (fun _ _ _ _ _ _ us hl=>by obtain⟨_,rfl⟩:=Zcv us hl;exact rfl),Zab X G a19 l19 c19 k19 (fun _ _ _ _ _ _ us hl=>by obtain⟨_,_,rfl⟩:=ZdC us hl;exact rfl),Zab X G a20 l20 c20 k20 (fun _ _ _ _ _ _ us hl=>by obtain⟨_,_,_,rfl⟩:=Zkb us hl;exact rfl),Zab X G a21 l21 c21 k21 (fun _ _ _ _ _ _ us hl=>by obtain⟨_,_,_,rfl⟩:=Zkb us hl;exact rfl),Zab X G a22 l22 c22 k22 (fun _ _ _ _ _ _ us hl=>by obtain⟨_,rfl⟩:=Zcv us hl;exact rfl),Zab X G a23 l23 c23 k23 (fun _ _ _ _ _ _ us hl=>by obtain⟨_,rfl⟩:=Zcv us hl;exact rfl),Zab X G a24 l24 c24 k24 (fun _ _ _ _ _ _ us hl=>by obtain⟨_,rfl⟩:=Zcv us hl;exact rfl),Zab X G a25 l25 c25 k25 (fun _ _ _ _ _ _ us hl=>by obtain⟨_,_,rfl⟩:=ZdC us hl;exact rfl),⟨_,_,ZN (st:=ZaP) l27 c27 k27,⟨mkRow,a27,i27,kcRow⟩,(ZN (st:=ZaP) l27 c27 k27).binds (ps:=["self", "keys"]) (fun _ _ _ _ _ _ us hl=>by obtain⟨_,_,rfl⟩:=ZdC us hl;exact rfl),PySem.W.mg_of X G aCRow⟩,⟨_,_,ZN (st:=ZaC) l28 c28 k28,⟨a28,i28,k28⟩,(ZN (st:=ZaC) l28 c28 k28).binds (ps:=["self"]) (fun _ _ _ _ _ _ us hl=>by obtain⟨_,rfl⟩:=Zcv us hl;exact rfl)⟩,⟨_,_,ZN (st:=ZaJ) l29 c29 k29,⟨a29,i29,k29⟩,(ZN (st:=ZaJ) l29 c29 k29).binds (ps:=["self"]) (fun _ _ _ _ _ _ us hl=>by obtain⟨_,rfl⟩:=Zcv us hl;exact rfl)⟩,⟨_,_,ZN (st:=Zar) l30 c30 k30,⟨mkMerge,a30,i30,kcMerge⟩,(ZN (st:=Zar) l30 c30 k30).binds (ps:=["self", "rows"]) (fun _ _ _ _ _ _ us hl=>by obtain⟨_,_,rfl⟩:=ZdC us hl;exact rfl),PySem.W.mg_of X G aCMerge⟩,⟨_,_,ZN (st:=Zae) l31 c31 k31,⟨a31,i31,k31⟩,(ZN (st:=Zae) l31 c31 k31).binds (ps:=["self"]) (fun _ _ _ _ _ _ us hl=>by obtain⟨_,rfl⟩:=Zcv us hl;exact rfl)⟩,⟨_,_,ZN (st:=Zau) l32 c32 k32,⟨a32,i32,k32⟩,(ZN (st:=Zau) l32 c32 k32).binds (ps:=["self"]) (fun _ _ _ _ _ _ us hl=>by obtain⟨_,rfl⟩:=Zcv us hl;exact rfl)⟩,⟨_,_,ZN (st:=ZY) l33 c33 k33,⟨a33,i33,k33⟩,(ZN (st:=ZY) l33 c33 k33).binds (ps:=["self", "many"]) (fun _ _ _ _ _ _ us hl=>by obtain⟨_,_,rfl⟩:=ZdC us hl;exact rfl)⟩,⟨_,_,ZN (st:=Zac) l34 c34 k34,⟨a34,i34,k34⟩,(ZN (st:=Zac) l34 c34 k34).binds (ps:=["self"]) (fun _ _ _ _ _ _ us hl=>by obtain⟨_,rfl⟩:=Zcv us hl;exact rfl)⟩,⟨_,_,ZN (st:=ZT) l35 c35 k35,⟨a35,i35,k35⟩,(ZN (st:=ZT) l35 c35 k35).binds (ps:=["self"]) (fun _ _ _ _ _ _ us hl=>by obtain⟨_,rfl⟩:=Zcv us hl;exact rfl)⟩,⟨_,_,ZN (st:=Zai) l36 c36 k36,⟨a36,i36,k36⟩,(ZN (st:=Zai) l36 c36 k36).binds (ps:=["self"]) (fun _ _ _ _ _ _ us hl=>by obtain⟨_,rfl⟩:=Zcv us hl;exact rfl)⟩,⟨_,_,ZN (st:=Z1) l37 c37 k37,⟨a37,i37,k37⟩,(ZN (st:=Z1) l37 c37 k37).binds (ps:=["self"]) (fun _ _ _ _ _ _ us hl=>by obtain⟨_,rfl⟩:=Zcv us hl;exact rfl)⟩,⟨_,_,ZN (st:=Zat) l38 c38 k38,⟨a38,i38,k38⟩,(ZN (st:=Zat) l38 c38 k38).binds (ps:=["self", "numbers"]) (fun _ _ _ _ _ _ us hl=>by obtain⟨_,_,rfl⟩:=ZdC us hl;exact rfl)⟩,⟨_,_,ZN (st:=ZZ) l39 c39 k39,⟨a39,i39,k39⟩,(ZN (st:=ZZ) l39 c39 k39).binds (ps:=["self", "number"]) (fun _ _ _ _ _ _ us hl=>by obtain⟨_,_,rfl⟩:=ZdC us hl;exact rfl)⟩,⟨_,_,ZN (st:=ZM) l40 c40 k40,⟨a40,i40,k40⟩,(ZN (st:=ZM) l40 c40 k40).binds (ps:=["self", "meeting", "comer"]) (fun _ _ _ _ _ _ us hl=>by obtain⟨_,_,_,rfl⟩:=Zkb us hl;exact rfl)⟩,⟨_,_,ZN (st:=Zap) l41 c41 k41,⟨a41,i41,k41⟩,(ZN (st:=Zap) l41 c41 k41).binds (ps:=["self", "one", "other", "far"]) (fun _ _ _ _ _ _ us hl=>by obtain⟨_,_,_,_,rfl⟩:=Zqe us hl;exact rfl)⟩,⟨pgRow,hdRow,poRow,saRow⟩,nARow_all_keys,nARow_fars,nARow_gone,⟨pgMerge,hdMerge,poMerge,saMerge⟩,nAMerge_best,nAMerge_likened,nAMerge_looked,nAMerge_next_number,nAMerge_rows,nAMerge_stays⟩
 exact⟨PySem.W.fnOf "law" "law" (Zo Zbc) (Zn Zbc) (Zf Zbc) .none kV26 dc26 pm26 an26 cd26 ct26,fun s v=>.of_eq rfl,fun base _ _=>Zoy (ZN (st:=Zbc) l26 c26 k26) T⟩
theorem walk{l:PySem.W.OpenLaw}{q:Program}{loose:List Str}{XP:(Str→Option Value)→Heap→Prop}{YP:World→Heap→Prop}{d:DefRec}{K:Params→PySem.W.Frag}(hn:l.most=some 63)(hdf:d.params.defaults=[])
  (hY:∀ (w:World) (h:Heap),YP w h→(K w.params).In h)
  (F:∀ (w:World) (mg:Str→Option Value) (fa:Addr) (h:Heap),(K w.params).In h→h.Ns mainGlobals mg→mg d.name=some (.ref fa) →
   ∃fd:FuncData,(∀ (s:Shared) (u:Value),BindsTo s fd ⟨[u],[]⟩ [("_law_script",u)])∧∀base:Heap,(K w.params).In base→base.Ns mainGlobals mg→Zdi l.prog w (K w.params) mg base CX0 18 fa fd ["_law_script"] (ZiY (K w.params))) :
  PySem.W.WalkO q loose XP YP l.row.toRowW d [] (fun f vs=>PySem.call f vs) :=
 L2.walk_of (n:=63) (k:=18) (x := "_law_script") (CX:=fun _=>CX0) (sp:=fun w=>ZiY (K w.params)) hn (by decide) hdf ⟨rfl,by decide,by decide,rfl⟩ hY F (fun _ _ a ns hl _ hS=>⟨a,ns,rfl,hS,hl,fun _=>rfl⟩) fun _ _ _ _ _ z=>z
end My
open PySem PySem.W PyProof.Rows
namespace PySem.W.Fast
def tw802975069660242779:=0
def tw405230846284096123:=0
def tw10535910843992788968:=0
def tw7497422768659402409:=0
def tw10916457968981364841:=0
def tw5448334540680669613:=0
def tw17018044093083106471:=0
def tw16781805138849086535:=0
def tw965344892296056295:=0
def tw6296827274368458250:=0
def tw6348995687302983595:=0
def tw16253844533729632632:=0
def tw18280580602312894969:=0
def tw10634685138850969817:=0
def tw231453346446493966:=0
def tw7194723798596909039:=0
def tw2775824792694412339:=0
def tw5722187627624312051:=0
def tw12971190008017035799:=0
def tw6692564467208355620:=0
def tw14336934985045047078:=0
def tw10859917487033288972:=0
def tw8813546797895476806:=0
def tw150768576500186771:=0
def tw14727306933397045002:=0
def tw8357006573873725536:=0
def tw12580230272000024609:=0
def tw4438175374926315284:=0
def tw10744598236225877670:=0
def tw13315228551210369289:=0
def tw10610480009395714295:=0
def tw3155727567317226105:=0
def tw16961767287074720627:=0
def tw11244647270258852975:=0
def tw4510164601129213729:=0
def tw17797486839983269019:=0
def tw6864154471612399340:=0
def tw11347660511747962307:=0
def tw2304081363746069432:=0
def tw3772083246506086549:=0
def tw1904874372495984501:=0
def tw11693383958835419628:=0
def tw11569219108716239234:=0
def tw17722215109944411823:=0
def tw2144604506348321896:=0
def tw3314897771923288853:=0
def tw7635371924518798083:=0
def tw16262162656783067612:=0
def tw4747323839284462862:=0
def tw4155665227699338534:=0
def tw11772123459339041311:=0
def tw4233071274868684077:=0
def tw18148158886334755093:=0
def tw16675738409276328020:=0
def tw1257512062591666098:=0
def tw16088158200525835281:=0
def tw11144569915489807454:=0
def tw4889705148306420982:=0
def tw15114159810914766125:=0
def tw13472275248592379082:=0
def tw13452683308681122110:=0
def tw538121405889438575:=0
def tw12533756834166766551:=0
def tw7690126904755836833:=0
def tw8189521706135826674:=0
def tw4896351421343444781:=0
def tw9949990383512123339:=0
def tw15965353419342913901:=0
def tw10531169694271438732:=0
def tw2722037100114221017:=0
def tw16182243560722728318:=0
def tw8842694722814269891:=0
def tw16421673019630370175:=0
def tw8544832393572581254:=0
def tw4974493288088590468:=0
def tw9157028051349579917:=0
def tw4610760157309590017:=0
def tw5412973107591562024:=0
def tw7941308814469914357:=0
def tw4264160808547988429:=0
def tw9081950499639832128:=0
def tw18347860634761445139:=0
def tw15853688956604838421:=0
def tw2492566738676083166:=0
def tw5862964549568021964:=0
def tw940603560303887457:=0
def tw14819806957992076978:=0
def tw7850931134521449429:=0
def tw12249346684462916247:=0
def tw4642359827190012227:=0
def tw8758805508191858952:=0
def tw4391030797235333883:=0
def tw5045558024107672614:=0
def tw1650868014495938411:=0
def tw9173148601420910225:=0
def tw10862992011069423989:=0
def tw17980285494771838745:=0
def tw1802384251202628024:=0
def tw3710342253106334958:=0
def tw9248149589944118286:=0
def tw16907814498486540887:=0
def tw10043868797544027915:=0
def tw18071005695088063336:=0
def tw13282316863540468469:=0
def tw2299175321600551596:=0
def tw13833276922069427755:=0
def tw1944260329755780438:=0
def tw5816403848800042076:=0
def tw273428759247330968:=0
def tw3377847159559361425:=0
def tw15617442097624597872:=0
def tw6074121115892980678:=0
def tw904143254427340586:=0
def tw12632582440570428377:=0
def tw9388327000488590675:=0
def tw13153352159318723947:=0
def tw10875599229545945275:=0
def tw1831152226522774949:=0
def tw4754866897064291463:=0
def tw11736742514318364305:=0
def tw4423040228431819816:=0
def tw16581257579113213810:=0
def tw7092319846546386383:=0
def tw11862051618039087051:=0
def tw1390867584993397803:=0
def tw9532081684115270232:=0
def tw12985921802104588376:=0
def tw11912218514478901941:=0
def tw7914824754788951037:=0
def tw1775656821591743859:=0
def tw16645163084590713366:=0
def tw15995703147889534927:=0
def tw5853268475490253514:=0
def tw8335204087350554960:=0
def tw9439639854415791598:=0
def tw10368241138730097842:=0
def tw16211848630305157649:=0
def tw16341806832349979702:=0
def tw6062963155124419795:=0
def tw17689526292257173145:=0
def tw6358354939265304770:=0
def tw17899222546021529175:=0
def tw16565533540457219798:=0
def tw1919943368294681940:=0
def tw1857360889664286555:=0
def tw16443637887452447837:=0
def tw17643882657062530398:=0
def tw18084048585172729953:=0
def tw13136224253962656677:=0
def tw874836677810840988:=0
def tw10578207484717534020:=0
def tw10341335163761763674:=0
def tw4911708098182722914:=0
def tw11209312942292144143:=0
def tw15105585669810556976:=0
def tw7320214225156942165:=0
def tw4651252590406208815:=0
def tw3879660380871465862:=0
def tw573187617478631958:=0
def tw12591409508277446359:=0
def tw10489398875269093662:=0
def tw18328643716896931376:=0
def tw16824993906766804822:=0
def tw3277139196965849079:=0
def tw14988772620825717240:=0
def tw567102080479481340:=0
def tw16044091730852087146:=0
def tw13815349282517600616:=0
def tw8786555878065457401:=0
def tw3638097654644817471:=0
def tw11252809211503638166:=0
def tw14056674740560984127:=0
def tw17012732786693695113:=0
def tw6396559707162412634:=0
def tw8455330146862241283:=0
def tw5290566298967030896:=0
def tw14602899728720652919:=0
def tw8707566853603393655:=0
def tw13685422199966403650:=0
def tw8157244449691472499:=0
def tw7662799677015993471:=0
def tw10352736005303468446:=0
def tw15890145024868577432:=0
def tw13713970424143978581:=0
def tw7179983925286643235:=0
def tw17218980196410606326:=0
def tw9236007907265645982:=0
def tw6417709795891205054:=0
def tw16142483578445999022:=0
def tw9541956968746814199:=0
def tw11814734143540646250:=0
def tw5998865147466747994:=0
def tw10659343064365829039:=0
def tw8085907960733096294:=0
def tw13230542861331176298:=0
def tw8194990843972497758:=0
def tw12078974085975913481:=0
def tw2973626851377284144:=0
def tw16517688262518893738:=0
def tw2442054005905975259:=0
def tw3221817403712689791:=0
def tw2228274900359068488:=0
def tw1019894349031315537:=0
def tw9603899931529076393:=0
def tw8946049161120341765:=0
def tw5126665032686984522:=0
def tw4648019808040431375:=0
def tw16032871301292892448:=0
def tw15574272050009075382:=0
def tw18068023784240555805:=0
def tw11948361092952623187:=0
def tw6115370065986089126:=0
def tw10938609227327304564:=0
def tw5826311583333169541:=0
def tw9999130789473607020:=0
def tw13964188381540144261:=0
def tw11199393793137617347:=0
def tw5647791141086371115:=0
def tw15509819450446183202:=0
def tw14615643593565626194:=0
def tw12269275859881726553:=0
def tw12180630072733248464:=0
def tw3389536290126865686:=0
def tw5689915417048555267:=0
def tw704559218831009125:=0
def tw2631567302694196718:=0
def tw7225415266959298068:=0
def tw4294935820950285323:=0
def tw246778337887876357:=0
def tw14599009324854524400:=0
def tw3494094071021071383:=0
def tw6079558954392165285:=0
def tw4718309574349192806:=0
def tw4192408865405398496:=0
def tw1209407591797334468:=0
def tw7153858152084942348:=0
def tw2883767079946152923:=0
def tw490403910338366331:=0
def tw13559115309251370666:=0
def tw16613544788730337804:=0
def tw16990897082509910618:=0
def tw11285441181652183187:=0
def tw15729307846866604696:=0
def tw7411340552558644505:=0
def tw7915800599717634333:=0
def tw14465295766963710517:=0
def tw18037899256794661374:=0
def tw4520062925770696520:=0
def tw7595660436780903993:=0
def tw12331467092107137648:=0
def tw11845992652359523923:=0
def tw9358269073203650907:=0
def tw3818212944850487439:=0
def tw1262940425811497071:=0
def tw6000394823128495198:=0
def tw6386622331876160994:=0
def tw9547581005021622494:=0
def tw2776540232716127265:=0
def tw4660724087880405755:=0
def tw17861074258767802851:=0
def tw14539827235731039352:=0
def tw10601227059740305405:=0
def tw10643072462707816834:=0
def tw13948892108434908064:=0
def tw14041738917034913762:=0
def tw5365397452957203575:=0
def tw5148334639694191686:=0
def tw13388214210095101228:=0
def tw13715807764821299602:=0
def tw6611064526854910268:=0
def tw17355462578975265200:=0
def tw15332458258887285092:=0
def tw4876077979199963357:=0
def tw7147391488094976090:=0
def tw7866297348679252262:=0
def tw1573167458300620190:=0
def tw4596258774322932383:=0
def tw11950704737681999677:=0
def tw7714392531464074266:=0
def tw14230562308042070272:=0
def tw9480669272776114124:=0
def tw6404303172651386076:=0
def tw1064316318234565592:=0
def tw17581571347300448063:=0
def tw13245533967423622719:=0
def tw17118784036482053937:=0
def tw6137225814023651934:=0
def tw15162737400542369716:=0
def tw15613346843707969267:=0
def tw6629832860749855039:=0
def tw4072841549953902737:=0
def tw13107696350926296283:=0
def tw2341854906043572843:=0
def tw14883884184228577900:=0
def tw9928472561652009258:=0
def tw8296799545227566668:=0
def tw1563619793230788660:=0
def tw5813526096506177214:=0
def tw5990883233219167427:=0
def tw15879186159126830710:=0
def tw15156104376020575674:=0
def tw14089183867388338088:=0
def tw7123450693111961631:=0
def tw4564619208301423934:=0
def tw4628314432942334855:=0
def tw17304439644218130482:=0
def tw15673860005675071328:=0
def tw12467706853143453442:=0
def tw16667223626249899329:=0
def tw12121319244553816223:=0
def tw14062488106652165767:=0
def tw1149158913167727878:=0
def tw2816092783981358064:=0
def tw14866031201086206768:=0
def tw2336714231609401032:=0
def tw18116206203165518848:=0
def tw12368747075138922439:=0
def tw2157149175045430748:=0
def tw2469887130323923404:=0
def tw13720702221522408735:=0
def tw962828258487544615:=0
def tw17394053107965919310:=0
def tw17453598276950801484:=0
def tw12543152211815764889:=0
def tw9651256287160083850:=0
def tw682299824847269343:=0
def tw5766142879207512029:=0
def tw7527517001292357491:=0
def tw1468307474475942031:=0
def tw14280723766293120804:=0
def tw3190383199175346765:=0
def tw1703989677043334591:=0
def tw5837510996446943178:=0
def tw14414868073552262471:=0
def tw4454095664629677903:=0
def tw3040546976041446730:=0
def tw11508454740545579032:=0
def tw6597375067240254959:=0
def tw10487800436983046790:=0
def tw13619261344929372475:=0
def tw6582099040313281169:=0
def tw13496105673086190862:=0
def tw1945556689236018845:=0
def tw6943248414211862577:=0
def tw17373565905660084021:=0
def tw15548741042370653660:=0
def tw53805053412432202:=0
def tw7257065161126076268:=0
def tw11190434688359179966:=0
def tw13588098582011057764:=0
def tw6123216006014290300:=0
def tw17550312153224755705:=0
def tw156932306688935648:=0
def tw5021974881833344583:=0
def tw14535781608688428382:=0
def tw2803501427506117837:=0
def tw13187560700066777593:=0
def tw3978502378112814447:=0
def tw7332730750482014800:=0
def tw1614941181728610467:=0
def tw8292778670129568399:=0
def tw11161137377604266942:=0
def tw6333201662354023314:=0
def tw2904930169304811376:=0
def tw13804726105795727753:=0
def tw15265545941101804275:=0
def tw11646632795034269113:=0
def tw10795479598657787358:=0
def tw800404834044713046:=0
def tw8596951600250067335:=0
def tw5701155408624830154:=0
def tw13511235105990074119:=0
def tw9433591245881011451:=0
def tw15662425676693606968:=0
def tw8631062108191702317:=0
def tw12122043430774985904:=0
def tw9365356275274576935:=0
def tw14208570672363808835:=0
def tw11818839139663946710:=0
def tw18107349370052317515:=0
def tw16734156882899221688:=0
def tw12158192328782904849:=0
def tw18065476068729714963:=0
def tw17745008799464999603:=0
def tw5276484102719409118:=0
def tw9615356620094986401:=0
def tw10907889330166794153:=0
def tw1584703138006803376:=0
def tw15361972894344091967:=0
def tw10684449134497623315:=0
def tw5782375566900694051:=0
def tw3168125399433616809:=0
def tw7981554794171805878:=0
def tw14924799230564510122:=0
def tw9272781511570969143:=0
def tw1340178761405536208:=0
def tw3199289352486444046:=0
def tw9192752607187275539:=0
def tw8798519068573535027:=0
def tw16092527523595071428:=0
def tw1576112116470424879:=0
def tw11729287355757179573:=0
def tw5530531804131320439:=0
def tw65712121539484030:=0
def tw6448012878491914803:=0
def tw11768348677486719223:=0
def tw14295574460023828257:=0
def tw16126944081309244256:=0
def tw9438881913377187822:=0
def tw5904874446262586017:=0
def tw12523232992468648517:=0
def tw1492934467636672799:=0
def tw7333528755989510677:=0
def tw8971573786039227008:=0
def tw15660156291475970329:=0
def tw7008481351642766881:=0
def tw5250067230399487933:=0
def tw12951339720820218771:=0
def tw14724495679907465877:=0
def tw7650113318182735987:=0
def tw6580226872899327029:=0
def tw5071535530305260012:=0
def tw17734189984801363964:=0
def tw7314382081239707375:=0
def tw59622508872632038:=0
def tw18089030574721350858:=0
def tw18009457267039044736:=0
def tw4754742657862917192:=0
def tw11402077466678977602:=0
def tw4671857039111811966:=0
def tw8445588094111618791:=0
def tw14229596762706415702:=0
def tw7427426452053397177:=0
def tw11514131923008112763:=0
def tw4153189550069315316:=0
def tw14655400430187059089:=0
def tw16648431724300777200:=0
def tw14735321959959153216:=0
def tw15028549801418000885:=0
def tw14995461263229993639:=0
def tw1134223066290132784:=0
def tw2809746273062489048:=0
def tw602670162894221515:=0
def tw16884861190609612526:=0
def tw3203209394848796246:=0
end PySem.W.Fast
set_option maxRecDepth 100000 in
set_option maxHeartbeats 0 in
theorem PySem.Challenge.cw_mergetree_k63_whole_bounds_never_passed_holds : PySem.Challenge.rw_mergetree_k63_whole_bounds_never_passed.Holds := by
 w_on;o_law;k_head;(case hw=>w_witness2)
 k_fill
 refine My.walk (l:=PySem.Challenge.rw_mergetree_k63_whole_bounds_never_passed) rfl rfl (fun w h Y=>PySem.W.kIn_of Y) ?F
 case F =>
  intro w mg fa h KX G hmg
  refine' My.all_mk KX G hmg ?aCRow ?pgRow ?hdRow ?poRow ?saRow ?mkRow ?kcRow ?nARow_all_keys ?nARow_fars ?nARow_gone ?aCMerge ?pgMerge ?hdMerge ?poMerge ?saMerge ?mkMerge ?kcMerge ?nAMerge_best ?nAMerge_likened ?nAMerge_looked ?nAMerge_next_number ?nAMerge_rows ?nAMerge_stays ?a0 ?l0 ?c0 ?k0 ?a1 ?l1 ?c1 ?k1 ?a2 ?l2 ?c2 ?k2 ?a3 ?l3 ?c3 ?k3 ?a4 ?l4 ?c4 ?k4 ?a5 ?l5 ?c5 ?k5 ?a6 ?l6 ?c6 ?k6 ?a7 ?l7 ?c7 ?k7 ?a8 ?l8 ?c8 ?k8 ?a9 ?l9 ?c9 ?k9 ?a10 ?l10 ?c10 ?k10 ?a11 ?l11 ?c11 ?k11 ?a12 ?l12 ?c12 ?k12 ?a13 ?l13 ?c13 ?k13 ?a14 ?l14 ?c14 ?k14 ?a15 ?l15 ?c15 ?k15 ?a16 ?l16 ?c16 ?k16 ?a17 ?l17 ?c17 ?k17 ?a18 ?l18 ?c18 ?k18 ?a19 ?l19 ?c19 ?k19 ?a20 ?l20 ?c20 ?k20 ?a21 ?l21 ?c21 ?k21 ?a22 ?l22 ?c22 ?k22 ?a23 ?l23 ?c23 ?k23 ?a24 ?l24 ?c24 ?k24 ?a25 ?l25 ?c25 ?k25 ?a26 ?l26 ?c26 ?k26 ?a27 ?i27 ?l27 ?c27 ?k27 ?a28 ?i28 ?l28 ?c28 ?k28 ?a29 ?i29 ?l29 ?c29 ?k29 ?a30 ?i30 ?l30 ?c30 ?k30 ?a31 ?i31 ?l31 ?c31 ?k31 ?a32 ?i32 ?l32 ?c32 ?k32 ?a33 ?i33 ?l33 ?c33 ?k33 ?a34 ?i34 ?l34 ?c34 ?k34 ?a35 ?i35 ?l35 ?c35 ?k35 ?a36 ?i36 ?l36 ?c36 ?k36 ?a37 ?i37 ?l37 ?c37 ?k37 ?a38 ?i38 ?l38 ?c38 ?k38 ?a39 ?i39 ?l39 ?c39 ?k39 ?a40 ?i40 ?l40 ?c40 ?k40 ?a41 ?i41 ?l41 ?c41 ?k41 ?z0 ?z1 ?z2 ?z3 ?z4 ?z5 ?z6 ?z7 ?z8 ?z9 ?z10 ?z11 ?z12 ?z13 ?z14 ?z15
  (case aCRow=>k_is)
  (case pgRow=>k_is)
  (case hdRow=>k_is)
  (case poRow=>k_is)
  (case saRow=>k_is)
  (case mkRow=>k_is)
  (case kcRow=>k_is)
  (case nARow_all_keys=>k_is)
  (case nARow_fars=>k_is)
  (case nARow_gone=>k_is)
  (case aCMerge=>k_is)
  (case pgMerge=>k_is)
  (case hdMerge=>k_is)
  (case poMerge=>k_is)
  (case saMerge=>k_is)
  (case mkMerge=>k_is)
  (case kcMerge=>k_is)
  (case nAMerge_best=>k_is)
  (case nAMerge_likened=>k_is)
  (case nAMerge_looked=>k_is)
  (case nAMerge_next_number=>k_is)
  (case nAMerge_rows=>k_is)
  (case nAMerge_stays=>k_is)
  (case a0|l0|c0|k0=>k_is)
  (case a1|l1|c1|k1=>k_is)
  (case a2|l2|c2|k2=>k_is)
  (case a3|l3|c3|k3=>k_is)
  (case a4|l4|c4|k4=>k_is)
  (case a5|l5|c5|k5=>k_is)
  (case a6|l6|c6|k6=>k_is)
  (case a7|l7|c7|k7=>k_is)
  (case a8|l8|c8|k8=>k_is)
  (case a9|l9|c9|k9=>k_is)
  (case a10|l10|c10|k10=>k_is)
  (case a11|l11|c11|k11=>k_is)
  (case a12|l12|c12|k12=>k_is)
  (case a13|l13|c13|k13=>k_is)
  (case a14|l14|c14|k14=>k_is)
  (case a15|l15|c15|k15=>k_is)
  (case a16|l16|c16|k16=>k_is)
  (case a17|l17|c17|k17=>k_is)
  (case a18|l18|c18|k18=>k_is)
  (case a19|l19|c19|k19=>k_is)
  (case a20|l20|c20|k20=>k_is)
  (case a21|l21|c21|k21=>k_is)
  (case a22|l22|c22|k22=>k_is)
  (case a23|l23|c23|k23=>k_is)
  (case a24|l24|c24|k24=>k_is)
  (case a25|l25|c25|k25=>k_is)
  (case a26|l26|c26|k26=>k_is)
  (case a27|i27|l27|c27|k27=>k_is)
  (case a28|i28|l28|c28|k28=>k_is)
  (case a29|i29|l29|c29|k29=>k_is)
  (case a30|i30|l30|c30|k30=>k_is)
  (case a31|i31|l31|c31|k31=>k_is)
  (case a32|i32|l32|c32|k32=>k_is)
  (case a33|i33|l33|c33|k33=>k_is)
  (case a34|i34|l34|c34|k34=>k_is)
  (case a35|i35|l35|c35|k35=>k_is)
  (case a36|i36|l36|c36|k36=>k_is)
  (case a37|i37|l37|c37|k37=>k_is)
  (case a38|i38|l38|c38|k38=>k_is)
  (case a39|i39|l39|c39|k39=>k_is)
  (case a40|i40|l40|c40|k40=>k_is)
  (case a41|i41|l41|c41|k41=>k_is)
  (case z0=>k_is)
  (case z1=>k_is)
  (case z2=>k_is)
  (case z3=>k_is)
  (case z4=>k_is)
  (case z5=>k_is)
  (case z6=>k_is)
  (case z7=>k_is)
  (case z8=>k_is)
  (case z9=>k_is)
  (case z10=>k_is)
  (case z11=>k_is)
  (case z12=>k_is)
  (case z13=>k_is)
  (case z14=>k_is)
  (case z15=>k_is)
