import PyProof.Rows.All
import Wide.All
import OpenK.AllK
import Wide.FinOn
import Lean
import PyProof.EqAt
import PyProof.EqKinds
import PyProof.TupleCall
import PyProof.AttrMissHeap
import KE.KEqDict
import KE.KItemsList
import PyProof.WalksMore
import PySem.Challenge.RW_mergetree_k20_rows_that_grow
set_option maxHeartbeats 4000000
set_option maxRecDepth 100000
set_option Elab.async false
set_option linter.all false
local macro_rules|`(tactic|ac_rfl)=>`(tactic|decide +kernel)
abbrev Qa:=@List.length_map
abbrev Qb:=@List.getElem?_eq_getElem
abbrev Qc:=@PySem.Heap.get?_push_of_some
abbrev Qd:=@List.mem_map_of_mem
abbrev Qe:=@List.map_append
abbrev Qf:=@List.length_append
abbrev Qg:=@Nat.le_refl
abbrev Qh:=@List.map_cons
abbrev Qi:=@List.getElem?_eq_some_iff
abbrev Qj:=@List.map_map
abbrev Qk:=@List.mem_append
abbrev Ql:=@Option.some.inj
abbrev Qm:=@Bool.false_ne_true
abbrev Qn:=@List.getElem?_map
abbrev Qo:=@List.mem_map
abbrev Qp:=@List.mem_singleton
abbrev Qq:=@PySem.Heap.get?_push_size
abbrev Qr:=@PySem.Heap.lt_size
abbrev Qs:=@PySem.boot_len
abbrev Qt:=@List.length_singleton
abbrev Qu:=@List.mem_cons_of_mem
abbrev Qv:=@Nat.zero_le
abbrev Qw:=@List.mem_of_getElem?
abbrev Qx:=@List.map_congr_left
abbrev Qy:=@Nat.le_trans
abbrev Qz:=@List.mem_append_right
abbrev QA:=@List.length_take
abbrev QB:=@Nat.lt_of_lt_of_le
abbrev QC:=@Nat.ne_of_lt
abbrev QD:=@List.take_of_length_le
abbrev QE:=@List.size_toArray
abbrev QF:=@List.getD_eq_getElem?_getD
abbrev QG:=@PySem.W.mg_none_of
abbrev QH:=@List.take_add_one
abbrev QI:=@List.mem_cons
abbrev QJ:=@List.mem_append_left
abbrev QK:=@List.length_cons
abbrev QL:=@PySem.F.plainAttrs_list
abbrev QM:=@List.length_replicate
abbrev QN:=@List.getElem?_eq_none
abbrev QO:=@List.getElem?_append_left
abbrev QP:=@List.getElem?_append_right
abbrev QR:=@Int.add_zero
abbrev QS:=@List.eq_of_mem_replicate
abbrev QT:=@PySem.F.slot_list_append
abbrev QU:=@PySem.F.type_list_append
abbrev QV:=@List.nodup_cons
abbrev QW:=@PyProof.Rows.callWith_type1
abbrev QX:=@PySem.F.plainAttrs_dict
abbrev QY:=@PySem.W.kia_one
abbrev QZ:=@PySem.W.kia_tup
abbrev Q0:=@List.length_drop
abbrev Q1:=@List.filterMap_cons
abbrev Q2:=@List.replicate_succ
abbrev Q3:=@List.getElem_mem
abbrev Q4:=@Nat.lt_irrefl
abbrev Q5:=@List.sum_cons
abbrev Q6:=@Nat.ne_of_gt
abbrev Q7:=@PySem.Heap.size_push
abbrev Q8:=@List.find?_cons
abbrev Q9:=@List.getElem?_eq_none_iff
abbrev Qaa:=@Nat.add_sub_cancel
abbrev Qab:=@List.mem_of_mem_take
abbrev Qac:=@List.mem_of_mem_drop
abbrev Qad:=@PySem.mem_of_lookup
abbrev Qae:=@Nat.add_lt_add_left
abbrev Qaf:=@PySem.Heap.get?_update_of_ne
abbrev Qag:=@List.mem_range
abbrev Qah:=@List.mem_cons_self
abbrev Qai:=@List.getElem?_toArray
abbrev Qaj:=@List.length_filter_le
abbrev Qak:=@List.mem_of_find?_eq_some
abbrev Qal:=@List.getLastD_eq_getLast?
abbrev Qam:=@Nat.le_of_lt
abbrev Qan:=@Bool.eq_false_iff
abbrev Qao:=@List.filter_sublist
abbrev Qap:=@Nat.lt_add_of_pos_right
abbrev Qaq:=@PySem.F.slot_dict_items
abbrev Qar:=@List.any_eq_true
abbrev Qas:=@Int.emod_lt_of_pos
abbrev Qat:=@List.find?_cons_of_neg
abbrev Qau:=@List.mem_filter
abbrev Qav:=@List.filter_map
abbrev Qaw:=@PySem.F.slot_dict_pop
abbrev Qax:=@List.mem_iff_getElem?
abbrev Qay:=@List.reverse_cons
abbrev Qaz:=@List.flatten_cons
abbrev QaA:=@List.append_assoc
abbrev QaB:=@List.pairwise_append
abbrev QaC:=@Bool.and_eq_true
abbrev QaD:=@List.lookup_cons
abbrev QaE:=@Nat.le_add_right
abbrev QaF:=@PySem.evalArgs_none
abbrev QaG:=@List.length_reverse
abbrev QaH:=@Array.length_toList
abbrev QaI:=@List.any_cons
abbrev QaJ:=@List.getLast?_eq_getLast
abbrev QaK:=@Bool.eq_iff_iff
abbrev QaL:=@List.append_nil
abbrev QaM:=@Int.emod_nonneg
abbrev QaN:=@PySem.W.kitx_list
abbrev QaO:=@PySem.W.kitx_dict
abbrev QaP:=@List.map_nil
abbrev QaQ:=@Option.map_eq_some_iff
abbrev QaR:=@Nat.pow_succ
abbrev QaS:=@Nat.sub_self
abbrev QaT:=@List.nodup_append
abbrev QaU:=@List.length_eq_one_iff
abbrev QaV:=@List.length_pos_of_mem
abbrev Qa1:=@List.all_eq_true
abbrev Qa2:=@List.Sublist.map
abbrev Qa3:=@PySem.W.mg_of
abbrev Qa4:=@Nat.le_succ
namespace L2
open PySem PySem.Spec PyProof.Rows
abbrev Key:=Sum Int Str
def Zgu:Key→Value→Bool
 | .inl k,v=>Value.isInt k v
 | .inr x,v=>Value.isStrOf x v
def ZsH(w:World):Key→Int
 | .inl k=>hashInt k
 | .inr x=>hashStr w x
theorem Zay:∀ {k:Key} {v:Value},Zgu k v=true→(∃i t,k=Sum.inl i∧v=Value.int i t)∨(∃x t,k=Sum.inr x∧v=Value.str x t)
 | .inl i,v,h=>by
  obtain⟨t,e⟩:=Value.isInt_shape (k:=i) (v:=v) h
  exact .inl ⟨i,t,rfl,e⟩
 | .inr x,v,h=>by
  obtain⟨t,e⟩:=Value.isStrOf_shape (x:=x) (v:=v) h
  exact .inr ⟨x,t,rfl,e⟩
theorem Zl5(i:Int)(t:Tok):Zgu (.inl i) (.int i t)=true:=by simp[Zgu,Value.isInt]
theorem Zms(x:Str)(t:Tok):Zgu (.inr x) (.str x t)=true:=by simp[Zgu,Value.isStrOf]
theorem Zqf(a b:Int):decide ((Sum.inl a:Key)=Sum.inl b)=(a == b):=by
 by_cases e:a=b
 ·subst e;simp
 ·have h:¬ (Sum.inl a:Key)=Sum.inl b:=fun q=>e (Sum.inl.inj q)
  rw[decide_eq_false h]
  exact(beq_eq_false_iff_ne.mpr e).symm
theorem ZqY(a b:Str):decide ((Sum.inr a:Key)=Sum.inr b)=decide (a=b):=by
 by_cases e:a=b
 ·subst e;simp
 ·have h:¬ (Sum.inr a:Key)=Sum.inr b:=fun q=>e (Sum.inr.inj q)
  rw[decide_eq_false h,decide_eq_false e]
theorem Zqm(a:Int)(b:Str):decide ((Sum.inl a:Key)=Sum.inr b)=false:=decide_eq_false (fun q=>nomatch q)
theorem Zqr(a:Str)(b:Int):decide ((Sum.inr a:Key)=Sum.inl b)=false:=decide_eq_false (fun q=>nomatch q)
def ZN(prog:Program)(w:World):PySem.KeyKind prog w Key where
 is:=Zgu
 hash:=ZsH w
 inj:=fun v a b ha hb=>by
  rcases Zay ha with⟨i,t,rfl,rfl⟩|⟨x,t,rfl,rfl⟩
  ·rcases Zay hb with⟨j,u,rfl,e⟩|⟨y,u,rfl,e⟩
   ·injection e with e1 _;rw[e1]
   ·exact nomatch e
  ·rcases Zay hb with⟨j,u,rfl,e⟩|⟨y,u,rfl,e⟩
   ·exact nomatch e
   ·injection e with e1 _;rw[e1]
 byValue:=fun k v h=>by
  rcases Zay h with⟨i,t,rfl,rfl⟩|⟨x,t,rfl,rfl⟩<;>rfl
 pyHash:=fun hv h=>by
  rcases Zay hv with⟨i,t,rfl,rfl⟩|⟨x,t,rfl,rfl⟩
  ·exact wpAny_pyHash_int h
  ·exact wpAny_pyHash_str h
 eqBool:=fun hu hv h=>by
  rcases Zay hu with⟨i,t,rfl,rfl⟩|⟨x,t,rfl,rfl⟩
  ·rcases Zay hv with⟨j,u,rfl,rfl⟩|⟨y,u,rfl,rfl⟩
   ·rw[Zqf]at h;exact wpAny_eqBool_int h
   ·rw[Zqm]at h;exact SeqAt.EqAt.int_str i t y u _ _ _ _ h
  ·rcases Zay hv with⟨j,u,rfl,rfl⟩|⟨y,u,rfl,rfl⟩
   ·rw[Zqr]at h;exact SeqAt.EqAt.str_int x t j u _ _ _ _ h
   ·rw[ZqY]at h;exact wpAny_eqBool_str h
 «strs»:=fun k x t v h=>by
  rcases Zay h with⟨i,u,rfl,e⟩|⟨y,u,rfl,e⟩
  ·exact nomatch e
  ·injection e with e1 _
   subst e1
   cases v<;>rfl
theorem Zko(prog:Program)(w:World)(k:Key)(v:Value):(ZN prog w).is k v=Zgu k v:=rfl
theorem ZjL(prog:Program)(w:World)(i:Int)(t:Tok):(ZN prog w).is (.inl i) (.int i t)=true:=Zl5 i t
theorem Zj4(prog:Program)(w:World)(x:Str)(t:Tok):(ZN prog w).is (.inr x) (.str x t)=true:=Zms x t
inductive V where
 | non|bl (b:Bool)|int (i:Int)|str (x:Str)|byt (b:Array UInt8)|flt (b:UInt64)|ref (a:Addr)|ty (n:String)
 deriving DecidableEq
def ZI:V→Value→Prop
 | .non,u=>u=Value.none
 | .bl b,u=>u=Value.bool b
 | .int i,u=>∃t,u=Value.int i t
 | .str x,u=>∃t,u=Value.str x t
 | .byt b,u=>∃t,u=Value.bytes b t
 | .flt b,u=>∃t,u=Value.float b t
 | .ref a,u=>u=Value.ref a
 | .ty n,u=>u=Value.type n
abbrev ZG:List V→List Value→Prop:=Paired ZI
theorem ZG.length{xs:List V}{us:List Value}(r:ZG xs us):xs.length=us.length:=Paired.length r
theorem ZG.get:∀ {xs:List V} {us:List Value} {i:Nat} {x:V},ZG xs us→xs[i]? = some x→∃u,us[i]? = some u∧ZI x u
 | _,_,_,_,.nil,e=>by simp at e
 | _,_,0,_,.cons r _,e=>by simp at e;subst e;exact⟨_,rfl,r⟩
 | _,_,i+1,x,.cons _ t,e=>by
  obtain⟨u,h1,h2⟩:=ZG.get (i:=i) (x:=x) t (by simpa using e)
  exact⟨u,by simpa using h1,h2⟩
theorem ZG.set{x:V}{u:Value}(r:ZI x u):∀ {xs:List V} {us:List Value} (i:Nat),ZG xs us→ZG (xs.set i x) (us.set i u)
 | _,_,_,.nil=>.nil
 | _,_,0,.cons _ t=>.cons r t
 | _,_,i+1,.cons q t=>.cons q (ZG.set r i t)
theorem ZG.append:∀ {xs ys:List V} {us ws:List Value},ZG xs us→ZG ys ws→ZG (xs++ys) (us++ws)
 | _,_,_,_,.nil,s=>s
 | _,_,_,_,.cons r t,s=>.cons r (ZG.append t s)
theorem ZG.take:∀ {xs:List V} {us:List Value} (n:Nat),ZG xs us→ZG (xs.take n) (us.take n)
 | _,_,0,_=>.nil
 | _,_,_+1,.nil=>.nil
 | _,_,n+1,.cons r t=>.cons r (ZG.take n t)
theorem ZG.drop:∀ {xs:List V} {us:List Value} (n:Nat),ZG xs us→ZG (xs.drop n) (us.drop n)
 | _,_,0,r=>r
 | _,_,_+1,.nil=>.nil
 | _,_,n+1,.cons _ t=>ZG.drop n t
def ZdA:Option V→Option Value→Prop
 | some v,some u=>ZI v u
 | none,none=>True
 | _,_=>False
def KV{κ:Type}:List (κ×V)→List (κ×Value)→Prop:=Paired fun (p:κ×V) (q:κ×Value)=>p.1=q.1∧ZI p.2 q.2
def kV:Key→V
 | .inl i=>.int i
 | .inr x=>.str x
inductive HO where
  | lst (xs:List V)
  | tup (xs:List V)
  | dK (kvs:List (Key×V))|dT (kvs:List (List Key×V))
  | set (S:Int→Bool) (n:Nat)
  | ins (C dx:Addr) (fs:List (Str×V))
  | own (x:Addr)
  | xd (fs:List (Str×V))
  | met (f x:Addr)
  | rng (lo hi:Int)
  | frz (o:Obj) (u:HO)
  | tbl (ps:Array Value)
  | ext (φ:Heap→Prop)
abbrev Hp:=Addr→Option HO
def upd(H:Hp)(a:Addr)(o:HO):Hp:=fun b=>if b=a then some o else H b
theorem Zb{H:Hp}{a:Addr}{o:HO}:upd H a o a=some o:=by unfold upd;rw[if_pos rfl]
theorem Zc{H:Hp}{a b:Addr}{o:HO}(h:b≠a):upd H a o b=H b:=by unfold upd;rw[if_neg h]
theorem ZoA{H:Hp}{a:Addr}{o u:HO}:upd (upd H a o) a u=upd H a u:=by
 funext b;unfold upd;split<;>rfl
theorem ZmS{H:Hp}{a b:Addr}{o u:HO}(h:H a=some o)(h':H b=some u)(d:o≠u):a≠b:=by
 intro e;subst e;rw[h]at h';exact d (Ql h')
theorem Zd{H:Hp}{a b:Addr}{o:HO}(h:H a=some o)(h':H b=none):a≠b:=by
 intro e;subst e;rw[h]at h';cases h'
section
variable (P:Program) (w:World)
def Z9(H:Hp)(h:Heap)(a:Addr):HO→Prop
 | .lst xs=>xs.length≤sizeLine∧∃ (its:List Value) (n:Nat),ZG xs its∧h.get? a=some { cls:=.type "list",data:=.seq its.toArray n }
 | .tup xs=>xs.length≤sizeLine∧∃its:List Value,ZG xs its∧IsTup h a its.toArray
 | .dK kvs=>kvs.length≤sizeLine∧(a == sysModules)=false∧∃vs,KV kvs vs∧h.DictOf (ZN P w) a vs
 | .dT kvs=>kvs.length≤sizeLine∧(a == sysModules)=false∧∃xs:List (List Key×Addr×Value),
   Paired (fun (p:List Key×V) (q:List Key×Addr×Value)=>p.1=q.1∧H q.2.1=some (.tup (p.1.map kV))∧ZI p.2 q.2.2) kvs xs ∧
   ∃o es ep,h.get? a=some o∧o.ExactDict∧o.data=.dict es ep∧es.toList=xs.map (entryOfKey (tupleKind (ZN P w)))∧(xs.map (·.1)).Nodup
 | .set S n=>h.SetOf (intKind P w) a S n
 | .ins C dx fs=>H dx=some (.own a)∧fs.length≤1000∧dx≠a∧h.get? a=some (PySem.W.instObj C dx) ∧
   ∃mA,h.Ns1 dx mA∧(∀f,ZdA (fs.lookup f) (mA f))∧PySem.Within mA (fs.map (·.1))
 | .own _=>∃o,h.get? a=some o
 | .xd fs=>∃mA,h.Ns1 a mA∧∀f,ZdA (fs.lookup f) (mA f)
 | .rng lo hi=>∃t u v,h.get? a=some { cls:=.type "range",data:=.fields #[.int lo t,.int hi u,.int 1 v] }
 | .frz o u=>h.get? a=some o∧Z9 H h a u
 | .tbl ps=>h.get? a=some { cls:=.none,data:=.fields ps }
 | .met f x=>h.get? a=some (PySem.W.methodObj (.ref f) (.ref x))
 | .ext φ=>φ h∧(∃o,h.get? a=some o)∧∀h1 h2:Heap,φ h1→(∀o,h1.get? a=some o→h2.get? a=some o)→φ h2
def HOk(H:Hp)(h:Heap):Prop:=∀a o,H a=some o→Z9 P w H h a o
end
section
variable {P:Program} {w:World} {H H':Hp} {h h':Heap} {a:Addr} {o:HO}
theorem Z9.lt(x:Z9 P w H h a o):a<h.objs.size:=by
 cases o with
 | lst xs=>obtain⟨_,_,_,_,e⟩:=x;exact Qr e
 | tup xs=>obtain⟨_,_,_,p⟩:=x;exact p.lt
 | dK kvs=>obtain⟨_,_,_,_,o,_,_,e,_⟩:=x;exact Qr e
 | dT kvs=>obtain⟨_,_,_,_,o,_,_,e,_⟩:=x;exact Qr e
 | set S n=>obtain⟨o,_,_,_,e,_⟩:=x;exact Qr e
 | ins C dx fs=>obtain⟨_,_,_,e,_⟩:=x;exact Qr e
 | own y=>obtain⟨_,e⟩:=x;exact Qr e
 | xd fs=>obtain⟨_,⟨_,_,_,e,_⟩,_⟩:=x;exact Qr e
 | rng lo hi=>obtain⟨_,_,_,e⟩:=x;exact Qr e
 | frz ob u=>obtain⟨e,_⟩:=x;exact Qr e
 | tbl ps=>exact Qr (show h.get? a=some _ from x)
 | met f y=>exact Qr (show h.get? a=some _ from x)
 | ext φ=>obtain⟨_,⟨_,e⟩,_⟩:=x;exact Qr e
theorem Paired.mapP{α β:Type}{F G:α→β→Prop}:∀ {l₁:List α} {l₂:List β},Paired F l₁ l₂→(∀a b,F a b→G a b)→Paired G l₁ l₂
 | _,_,.nil,_=>.nil
 | _,_,.cons r t,f=>.cons (f _ _ r) (Paired.mapP t f)
theorem Z9.stay(x:Z9 P w H h a o)(k:∀b u,(b=a∨H b=some (.own a))→h.get? b=some u→h'.get? b=some u)
  (ho:∀b,H b=some (.own a)→H' b=some (.own a)) (ht:∀b xs,H b=some (.tup xs)→H' b=some (.tup xs)):Z9 P w H' h' a o:=by
 induction o with
 | lst xs=>obtain⟨z,its,n,r,e⟩:=x;exact⟨z,its,n,r,k _ _ (.inl rfl) e⟩
 | tup xs=>obtain⟨z,its,r,ob,e,c⟩:=x;exact⟨z,its,r,ob,k _ _ (.inl rfl) e,c⟩
 | dK kvs=>obtain⟨z,y,vs,r,ob,es,ep,e,c⟩:=x;exact⟨z,y,vs,r,ob,es,ep,k _ _ (.inl rfl) e,c⟩
 | dT kvs =>
  obtain⟨z,y,xs,r,ob,es,ep,e,c⟩:=x
  exact⟨z,y,xs,Paired.mapP r fun p q z=>⟨z.1,ht _ _ z.2.1,z.2.2⟩,ob,es,ep,k _ _ (.inl rfl) e,c⟩
 | set S n=>obtain⟨ob,es,ep,t,e,c⟩:=x;exact⟨ob,es,ep,t,k _ _ (.inl rfl) e,c⟩
 | ins C dx fs =>
  obtain⟨d,z,ne,e,mA,⟨od,es,ep,e2,c⟩,r⟩:=x
  exact⟨ho _ d,z,ne,k _ _ (.inl rfl) e,mA,⟨od,es,ep,k _ _ (.inr d) e2,c⟩,r⟩
 | own y=>obtain⟨ob,e⟩:=x;exact⟨ob,k _ _ (.inl rfl) e⟩
 | xd fs=>obtain⟨mA,⟨od,es,ep,e,c⟩,r⟩:=x;exact⟨mA,⟨od,es,ep,k _ _ (.inl rfl) e,c⟩,r⟩
 | rng lo hi=>obtain⟨t,u,v,e⟩:=x;exact⟨t,u,v,k _ _ (.inl rfl) e⟩
 | frz ob u ih=>obtain⟨e,q⟩:=x;exact⟨k _ _ (.inl rfl) e,ih q⟩
 | tbl ps =>
  have e:h.get? a=some { cls:=.none,data:=.fields ps }:=x
  show h'.get? a=some { cls:=.none,data:=.fields ps }
  exact k a _ (.inl rfl) e
 | met f y =>
  have e:h.get? a=some (PySem.W.methodObj (.ref f) (.ref y)):=x
  show h'.get? a=some (PySem.W.methodObj (.ref f) (.ref y))
  exact k a _ (.inl rfl) e
 | ext φ=>obtain⟨p,⟨o,e⟩,st⟩:=x;exact⟨st _ _ p fun o q=>k _ _ (.inl rfl) q,⟨o,k _ _ (.inl rfl) e⟩,st⟩
theorem HOk.lt(x:HOk P w H h)(e:H a=some o):a<h.objs.size:=(x a o e).lt
theorem HOk.fresh(x:HOk P w H h)(e:h.objs.size≤a):H a=none:=by
 cases q:H a with
 | none=>rfl
 | some u=>exact absurd (QB (x.lt q) e) (Q4 _)
theorem HOk.kept(x:HOk P w H h)(k:∀b u,h.get? b=some u→h'.get? b=some u):HOk P w H h':=fun a o e =>
 (x a o e).stay (fun b u _ q=>k b u q) (fun _ q=>q) fun _ _ q=>q
theorem HOk.laid(x:HOk P w H h)(k:∀b u,h.get? b=some u→h'.get? b=some u)(hp:h.objs.size≤a)(new:Z9 P w (upd H a o) h' a o):HOk P w (upd H a o) h':=fun b u e=>by
 have hn:=x.fresh hp
 by_cases hb:b=a
 ·subst hb;rw[Zb]at e;cases e;exact new
 ·rw[Zc hb]at e
  exact(x b u e).stay (fun c v _ q=>k c v q) (fun c q=>by rw[Zc (Zd q hn)];exact q) fun c xs q=>by rw[Zc (Zd q hn)];exact q
end
def Rd(H:Hp)(a:Addr)(u:HO):Prop:=H a=some u∨∃o,H a=some (.frz o u)
theorem Rd.ok{P:Program}{w:World}{H:Hp}{h:Heap}{a:Addr}{u:HO}(r:Rd H a u)(x:HOk P w H h):Z9 P w H h a u:=by
 rcases r with r|⟨o,r⟩
 ·exact x a u r
 ·obtain⟨_,q⟩:=x a _ r
  exact q
def Mut:Option HO→Prop
 | some (.lst _)=>True
 | some (.dK _)=>True
 | some (.dT _)=>True
 | some (.set _ _)=>True
 | some (.ins _ _ _)=>True
 | some (.ext _)=>True
 | _=>False
section
variable {P:Program} {w:World} {H:Hp} {h h':Heap} {x e:Addr} {o':HO}
theorem HOk.write(ok:HOk P w H h)(mu:Mut (H x))(he:e=x∨H e=some (.own x))(k:∀b u,b≠e→h.get? b=some u→h'.get? b=some u)(heo:∃u,h'.get? e=some u)
  (new:Z9 P w (upd H x o') h' x o'):HOk P w (upd H x o') h':=fun b u q=>by
 have nown:∀c y,H c=some (.own y)→c≠x:=fun c y r z=>by subst z;rw[r]at mu;exact mu
 have ntup:∀c xs,H c=some (.tup xs)→c≠x:=fun c xs r z=>by subst z;rw[r]at mu;exact mu
 by_cases hb:b=x
 ·subst hb;rw[Zb]at q;cases q;exact new
 ·rw[Zc hb]at q
  by_cases hbe:b=e
  ·have q':H b=some (.own x):=by
    rcases he with z|z
    ·exact absurd (hbe.trans z) hb
    ·rw[hbe];exact z
   rw[q]at q';cases q'
   obtain⟨v,hv⟩:=heo
   exact⟨v,by rw[hbe];exact hv⟩
  ·refine(ok b u q).stay (fun c v hc r=>k c v ?_ r) (fun c r=>by rw[Zc (nown c b r)];exact r) fun c xs r=>by rw[Zc (ntup c xs r)];exact r
   rcases hc with rfl|hc
   ·exact hbe
   ·rintro rfl
    rcases he with z|z
    ·exact nown c b hc z
    ·rw[hc]at z;cases z;exact hb rfl
end
structure Un (fs ex:List Addr) (H H':Hp) (h h':Heap):Prop where
 keep:∀b o,h.get? b=some o→H b=none→b ∉ fs→b ∉ ex→h'.get? b=some o
 slot:∀b o,h.get? b=some o→H b=none→b∈fs→b ∉ ex→∃sl,h'.get? b=some { o with slots:=sl }
 free:∀b o,h.get? b=some o→H b=none→b ∉ ex→H' b=none
 there:∀b o,h.get? b=some o→b ∉ ex→∃o',h'.get? b=some o'
 tups:∀b xs,H b=some (.tup xs)→H' b=some (.tup xs)
 frzs:∀b o u,H b=some (.frz o u)→H' b=some (.frz o u)
 tbls:∀b ps,H b=some (.tbl ps)→∃more,H' b=some (.tbl (ps++more))
section
variable {fs fs' ex ex':List Addr} {H H1 H2:Hp} {h h1 h2 h':Heap} {a x e:Addr} {o:HO}
theorem Un.any(u:Un fs ex H H1 h h1){b:Addr}{ob:Obj}(q:h.get? b=some ob)(n:H b=none)(hx:b ∉ ex):∃sl,h1.get? b=some { ob with slots:=sl }:=by
 by_cases hb:b∈fs
 ·exact u.slot b ob q n hb hx
 ·exact⟨ob.slots,u.keep b ob q n hb hx⟩
theorem Un.kept(k:∀b u,h.get? b=some u→h'.get? b=some u):Un fs ex H H h h' :=
 ⟨fun b ob q _ _ _=>k b ob q,fun b ob q _ _ _=>⟨ob.slots,k b ob q⟩,fun _ _ _ n _=>n,fun b ob q _=>⟨ob,k b ob q⟩,fun _ _ q=>q,fun _ _ _ q=>q,fun _ ps q=>⟨#[],by rw[q];simp⟩⟩
theorem Un.refl:Un fs ex H H h h:=Un.kept fun _ _ q=>q
theorem Un.laid(k:∀b u,h.get? b=some u→h'.get? b=some u)(hp:h.objs.size≤a)(hn:H a=none):Un fs ex H (upd H a o) h h' where
 keep:=fun b u q _ _ _=>k b u q
 slot:=fun b u q _ _ _=>⟨u.slots,k b u q⟩
 free:=fun b u q n _=>by rw[Zc (QC (QB (Qr q) hp))];exact n
 there:=fun b u q _=>⟨u,k b u q⟩
 tups:=fun b xs q=>by rw[Zc (Zd q hn)];exact q
 frzs:=fun b u xs q=>by rw[Zc (Zd q hn)];exact q
 tbls:=fun b ps q=>⟨#[],by rw[Zc (Zd q hn),q];simp⟩
theorem Un.write(mu:Mut (H x))(he:e=x∨H e=some (.own x))(k:∀b u,b≠e→h.get? b=some u→h'.get? b=some u)(heo:∃u,h'.get? e=some u):Un fs ex H (upd H x o) h h':=by
 have hx:∀b,H b=none→b≠x:=fun b n z=>by subst z;rw[n]at mu;exact mu
 have hb:∀b,H b=none→b≠e:=fun b n z=>by
  subst z
  rcases he with r|r
  ·exact hx b n r
  ·rw[n]at r;cases r
 have hm:∀b u,H b=some u→¬ Mut (some u)→b≠x:=fun b u q nm z=>by subst z;rw[q]at mu;exact nm mu
 refine⟨fun b u q n _ _=>k b u (hb b n) q,fun b u q n _ _=>⟨u.slots,k b u (hb b n) q⟩,fun b u q n _=>by rw[Zc (hx b n)];exact n,fun b u q _=>?_,
  fun b xs q=>by rw[Zc (hm b _ q fun z=>z)];exact q,fun b u xs q=>by rw[Zc (hm b _ q fun z=>z)];exact q,fun b ps q=>⟨#[],by rw[Zc (hm b _ q fun z=>z),q];simp⟩⟩
 by_cases hbe:b=e
 ·subst hbe;exact heo
 ·exact⟨u,k b u hbe q⟩
end
def trk(h:Heap)(H:Hp):List Addr:=(List.range h.objs.size).filter fun a=>(H a).isSome
def ZiY(h:Heap)(H:Hp):Heap:=PySem.W.hideAll h (trk h H)
theorem Zlv(h:Heap)(H:Hp):(ZiY h H).objs.size=h.objs.size:=PySem.W.hideAll_size _ _
theorem ZnY{h:Heap}{H:Hp}{b:Addr}{o:Obj}(e:h.get? b=some o)(n:H b=none):(ZiY h H).get? b=some o :=
 PySem.W.hideAll_get _ e fun hm=>by
  have q:(H b).isSome=true:=(Qau.mp hm).2
  rw[n]at q;simp at q
theorem Zo0{h:Heap}{H:Hp}{b:Addr}{o:Obj}(e:(ZiY h H).get? b=some o):h.get? b=some o∧H b=none:=by
 have e':h.get? b=some o:=PySem.W.of_hideAll (trk h H) e
 refine⟨e',?_⟩
 cases q:H b with
 | none=>rfl
 | some x =>
  have hm:b∈trk h H:=List.mem_filter.mpr ⟨Qag.mpr (Qr e'),by simp[q]⟩
  have z:(ZiY h H).get? b=none:=PySem.W.hideAll_none (trk h H) hm
  rw[z]at e;cases e
def Zos(g h:Heap)(L:Addr):List (Addr×Obj):=(List.range h.objs.size).filterMap fun a=>if a=L∨(g.get? a).isSome=true then none else (h.get? a).map fun o=>(a,o)
def rest(g h:Heap)(L d:Addr):List (Addr×Obj):=(Zos g h L).filter fun p=>decide (p.1≠d)
structure Mod (K:PySem.W.Frag) (mg:Str→Option Value) (base:Heap):Prop where
 kin:K.In base
 glob:base.Ns mainGlobals mg
 blt:∃mb,base.Ns builtinsNs mb∧∀x:Str,x ≠ "__name__"→mb x=bootBuiltins x
 nolimit:base.NoLimit
structure Cx where
 prog:Program
 w:World
 K:PySem.W.Frag
 mg:Str→Option Value
 base:Heap
 A:Around
 N:List Str
 s₀:Shared
 H₀:Hp
 env:Env
 outer:List Env
 stack:List Env
 ex:List Addr
 fn:Str→Bool
 calm:Bool
 pn:List (Addr×Obj)
 xe:Value→Shared→Prop
def frs(l:List Env):List Addr:=l.filterMap (·.frame)
abbrev Cx.fs(X:Cx):List Addr:=frs X.outer
def Vis(sc:Scope)(x:Str):Prop:=sc.names.lookup x=some .local∨sc.names.lookup x=some .cell∨sc.names.lookup x=some .free
def Loc(sc:Scope)(x:Str):Prop:=sc.names.lookup x=some .local∨sc.names.lookup x=some .cell
def Zs0(env:Env)(h:Heap)(m:Str→Option Value)(x:Str)(u:Value):Prop :=
 (env.kindOf x=some .local∧m x=some u)∨((env.kindOf x=some .cell∨env.kindOf x=some .free)∧∃c,env.cells.lookup x=some c∧h.IsCell c (some u))
structure Cx.Ok (X:Cx):Prop where
 mod:Mod X.K X.mg X.base
 kind:X.env.scope.kind=.function
 glob:X.env.globals=mainGlobals
 blt:X.env.builtins=builtinsNs
 above:X.s₀.heap.objs.size≤X.env.locals
 inj:∀x y c,X.env.cells.lookup x=some c→X.env.cells.lookup y=some c→x=y
 has:∀x,(X.env.kindOf x=some .cell∨X.env.kindOf x=some .free)→∃c,X.env.cells.lookup x=some c
 cab:∀x c,X.fn x=true→X.env.cells.lookup x=some c→X.s₀.heap.objs.size≤c
 hd:X.calm=true→X.A.handled=none
 frames:X.A.frames=some X.stack
 stk:X.stack=X.outer∨(X.stack=X.env::X.outer∧X.env.frame=some X.env.locals)
 exf:∀b∈X.ex,b≠X.env.locals∧∀x c,X.env.cells.lookup x=some c→c≠b
 bs:∀b o,X.base.get? b=some o→X.s₀.heap.get? b=some o∧X.H₀ b=none
 bsz:X.base.objs.size≤X.s₀.heap.objs.size
 noex:∀b o,X.base.get? b=some o→b ∉ X.ex
 exfs:∀b∈X.ex,b ∉ X.fs
 funs:X.s₀.heap.FunFrames X.base X.outer
 frf:∀b∈X.fs,X.H₀ b=none
structure Inv (X:Cx) (pins:List (Addr×Obj)) (σ:List (Option V)) (H:Hp) (s:Shared):Prop where
 ok:X.Ok
 os:s.os=X.s₀.os
 bare:AllBare s.gens
 base:Un X.fs X.ex X.H₀ H X.s₀.heap s.heap
 loc:∃m,s.heap.Ns X.env.locals m∧∀ (i:Nat) (x:Str) (v:V),X.N[i]? = some x→σ[i]? = some (some v)→Vis X.env.scope x→∃u,ZI v u∧Zs0 X.env s.heap m x u
 cell:∀x c,X.env.cells.lookup x=some c→∃v,s.heap.IsCell c v
 free:H X.env.locals=none
 freeC:∀x c,X.env.cells.lookup x=some c→H c=none
 pin:∀p∈X.pn++pins,s.heap.get? p.1=some p.2∧H p.1=none∧p.1≠X.env.locals∧p.1 ∉ X.fs∧∀v,p.2.data≠.cell v
 hok:HOk X.prog X.w H s.heap
 len:σ.length=X.N.length
section
variable {X:Cx} {pins:List (Addr×Obj)} {σ:List (Option V)} {H H':Hp} {s:Shared} {h':Heap}
theorem Cx.Ok.nofr(ok:X.Ok){b:Addr}{o:Obj}(e:X.base.get? b=some o):b ∉ X.fs:=fun hb=>by
 have:=(ok.funs.mem hb).1
 rw[e]at this;cases this
theorem Inv.bs(I:Inv X pins σ H s):∀b o,X.base.get? b=some o→s.heap.get? b=some o∧H b=none:=fun b o e =>
 ⟨I.base.keep b o (I.ok.bs b o e).1 (I.ok.bs b o e).2 (I.ok.nofr e) (I.ok.noex b o e),I.base.free b o (I.ok.bs b o e).1 (I.ok.bs b o e).2 (I.ok.noex b o e)⟩
theorem Inv.bk(I:Inv X pins σ H s):∀b o,X.base.get? b=some o→s.heap.get? b=some o:=fun b o e=>(I.bs b o e).1
theorem Inv.mod(I:Inv X pins σ H s):Mod X.K X.mg X.base:=I.ok.mod
theorem Inv.kIn(I:Inv X pins σ H s):X.K.In s.heap:=I.ok.mod.kin.keeps I.bk
theorem Inv.lt(I:Inv X pins σ H s):X.env.locals<s.heap.objs.size:=let ⟨_,hn,_⟩:=I.loc;hn.lt
theorem Inv.sz(I:Inv X pins σ H s):X.s₀.heap.objs.size≤s.heap.objs.size:=Qy I.ok.above (Qam I.lt)
theorem Inv.nofs(I:Inv X pins σ H s){a:Addr}(h:s.heap.objs.size≤a):a ∉ X.fs:=fun hb=>by
 obtain⟨_,o,ho,_⟩:=I.ok.funs.mem hb
 exact absurd (QB (Qr ho) (Qy I.sz h)) (Q4 _)
theorem Inv.cne(I:Inv X pins σ H s):∀x c,X.env.cells.lookup x=some c→c≠X.env.locals:=fun x c e z=>by
 obtain⟨v,o,ho,hd⟩:=I.cell x c e
 obtain⟨m,⟨o',es,ep,ho',hd',_⟩,_⟩:=I.loc
 rw[z,ho']at ho;cases ho;rw[hd']at hd;cases hd
theorem Inv.funs(I:Inv X pins σ H s):s.heap.FunFrames X.base X.outer:=by
 have all:∀ (l:List Env),(∀b∈frs l,b∈X.fs)→X.s₀.heap.FunFrames X.base l→s.heap.FunFrames X.base l:=by
  intro l
  induction l with
  | nil=>intro _ _;trivial
  | cons env r ih =>
   intro hs hl
   obtain⟨hk,⟨L,o,hf,hn,ho,hd⟩,hr⟩:=hl
   have hL:L∈X.fs:=hs L (by unfold frs;rw[Q1,hf];exact Qah)
   obtain⟨sl,e⟩:=I.base.slot L o ho (I.ok.frf L hL) hL fun z=>I.ok.exfs L z hL
   exact⟨hk,⟨L,_,hf,hn,e,hd⟩,ih (fun b hb=>hs b (by unfold frs;rw[Q1,hf];exact Qu _ hb)) hr⟩
 exact all X.outer (fun _ hb=>hb) I.ok.funs
theorem Inv.stack(I:Inv X pins σ H s):s.heap.FunFrames X.base X.stack:=by
 rcases I.ok.stk with e|⟨e,hf⟩
 ·rw[e];exact I.funs
 ·rw[e]
  obtain⟨m,hn,_⟩:=I.loc
  refine .cons (by rw[I.ok.kind];decide) hf hn ?_ I.funs
  exact Heap.get?_none_of_le (Qy I.ok.bsz I.ok.above)
theorem Inv.stkSub(I:Inv X pins σ H s):∀b∈frs X.stack,b∈X.env.locals::X.fs:=fun b hb=>by
 rcases I.ok.stk with e|⟨e,hf⟩
 ·rw[e]at hb;exact Qu _ hb
 ·rw[e]at hb
  unfold frs at hb
  rw[Q1,hf]at hb
  exact hb
theorem Inv.stkFree(I:Inv X pins σ H s):∀b∈frs X.stack,H b=none:=fun b hb=>by
 rcases QI.mp (I.stkSub b hb) with e|hb
 ·rw[e];exact I.free
 ·obtain⟨_,o,ho,_⟩:=I.ok.funs.mem hb
  exact I.base.free b o ho (I.ok.frf b hb) fun z=>I.ok.exfs b z hb
theorem Inv.step{g':Array GenState}{t':Nat}{d':Drawn}{ch:List Addr}(I:Inv X pins σ H s)
  (hch:∀b∈ch,(b∈X.ex∨X.s₀.heap.objs.size≤b)∧b≠X.env.locals∧(∀x c,X.env.cells.lookup x=some c→c≠b)∧∀p∈X.pn++pins,p.1≠b)
  (keep:∀b o,b≠X.env.locals→b ∉ X.fs→b ∉ ch→s.heap.get? b=some o→H b=none→h'.get? b=some o)
  (slot:∀b o,b≠X.env.locals→b∈X.fs→b ∉ ch→s.heap.get? b=some o→H b=none→∃sl,h'.get? b=some { o with slots:=sl }) (free:∀b o,b ∉ ch→s.heap.get? b=some o→H b=none→H' b=none)
  (there:∀b o,b ∉ ch→s.heap.get? b=some o→∃o',h'.get? b=some o')
  (tups:∀b xs,H b=some (.tup xs)→H' b=some (.tup xs)) (frzs:∀b o u,H b=some (.frz o u)→H' b=some (.frz o u)) (tbls:∀b ps,H b=some (.tbl ps)→∃more,H' b=some (.tbl (ps++more)))
  (ns:∀m,s.heap.Ns X.env.locals m→h'.Ns X.env.locals m) (hok:HOk X.prog X.w H' h') (hg:AllBare g') :
  Inv X pins σ H' { s with heap:=h',gens:=g',drawn:=d',toks:=t' }:=by
 have neL:∀b o,X.s₀.heap.get? b=some o→b≠X.env.locals:=fun b o e=>QC (QB (Qr e) I.ok.above)
 have neC:∀b o,X.s₀.heap.get? b=some o→b ∉ X.ex→b ∉ ch:=fun b o e hx hb=>by
  rcases(hch b hb).1 with z|z
  ·exact hx z
  ·exact absurd (QB (Qr e) z) (Q4 _)
 have cellK:∀x c,X.env.cells.lookup x=some c→∀v,s.heap.IsCell c v→h'.IsCell c v:=fun x c e v ⟨o,ho,hd⟩=>by
  have nch:c ∉ ch:=fun z=>(hch c z).2.2.1 x c e rfl
  by_cases hc:c∈X.fs
  ·obtain⟨sl,q⟩:=slot c o (I.cne x c e) hc nch ho (I.freeC x c e)
   exact⟨_,q,hd⟩
  ·exact⟨o,keep c o (I.cne x c e) hc nch ho (I.freeC x c e),hd⟩
 refine⟨I.ok,I.os,hg,⟨fun b o e n hb hx=>?_,fun b o e n hb hx=>?_,fun b o e n hx=>?_,fun b o e hx=>?_,fun b xs e=>tups b xs (I.base.tups b xs e),fun b o xs e=>frzs b o xs (I.base.frzs b o xs e),fun b ps e=>?_⟩,?_,fun x c e=>?_,?_,fun x c e=>?_,fun p hp=>?_,hok,I.len⟩
 ·exact keep b o (neL b o e) hb (neC b o e hx) (I.base.keep b o e n hb hx) (I.base.free b o e n hx)
 ·obtain⟨sl,e1⟩:=I.base.slot b o e n hb hx
  obtain⟨sl',e2⟩:=slot b _ (neL b o e) hb (neC b o e hx) e1 (I.base.free b o e n hx)
  exact⟨sl',e2⟩
 ·obtain⟨o',e1⟩:=I.base.there b o e hx
  exact free b o' (neC b o e hx) e1 (I.base.free b o e n hx)
 ·obtain⟨o',e1⟩:=I.base.there b o e hx
  exact there b o' (neC b o e hx) e1
 ·obtain⟨m1,e1⟩:=I.base.tbls b ps e
  obtain⟨m2,e2⟩:=tbls b _ e1
  exact⟨m1++m2,by rw[e2,Array.append_assoc]⟩
 ·obtain⟨m,hn,hl⟩:=I.loc
  refine⟨m,ns m hn,fun i x v e1 e2 e3=>?_⟩
  obtain⟨u,r,l⟩:=hl i x v e1 e2 e3
  refine⟨u,r,?_⟩
  rcases l with l|⟨k,c,e,z⟩
  ·exact .inl l
  ·exact .inr ⟨k,c,e,cellK x c e _ z⟩
 ·obtain⟨v,z⟩:=I.cell x c e
  exact⟨v,cellK x c e v z⟩
 ·obtain⟨m,⟨o,_,_,ho,_⟩,_⟩:=I.loc
  exact free _ o (fun z=>(hch _ z).2.1 rfl) ho I.free
 ·obtain⟨v,o,ho,hd⟩:=I.cell x c e
  exact free c o (fun z=>(hch c z).2.2.1 x c e rfl) ho (I.freeC x c e)
 ·obtain⟨e,n,ne,nf,d⟩:=I.pin p hp
  have nch:p.1 ∉ ch:=fun z=>(hch p.1 z).2.2.2 p hp rfl
  exact⟨keep p.1 p.2 ne nf nch e n,free p.1 p.2 nch e n,ne,nf,d⟩
theorem Inv.un{t':Nat}(I:Inv X pins σ H s)(u:Un X.fs [] H H' s.heap h')(hok:HOk X.prog X.w H' h'):Inv X pins σ H' { s with heap:=h',toks:=t' }:=by
 obtain⟨m,⟨o,es,ep,ho,r⟩,_⟩:=id I.loc
 obtain⟨sl,hL⟩:=u.any ho I.free (by simp)
 exact I.step (g':=s.gens) (d':=s.drawn) (ch:=[]) (fun _ z=>nomatch z) (fun b o _ hb _ e n=>u.keep b o e n hb (by simp)) (fun b o _ hb _ e n=>u.slot b o e n hb (by simp)) (fun b o _ e n=>u.free b o e n (by simp)) (fun b o _ e=>u.there b o e (by simp)) u.tups u.frzs u.tbls (fun m' hm=>by
  obtain⟨o',es',ep',ho',r'⟩:=hm
  rw[ho]at ho';cases ho'
  exact⟨_,es',ep',hL,r'⟩) hok I.bare
theorem Inv.call{g':Array GenState}{t':Nat}{d':Drawn}{ch:List Addr}(I:Inv X pins σ H s)(u:Un (frs X.stack) ch H H' s.heap h')(hok:HOk X.prog X.w H' h')(hg:AllBare g')
  (hch:∀b∈ch,(b∈X.ex∨X.s₀.heap.objs.size≤b)∧b≠X.env.locals∧(∀x c,X.env.cells.lookup x=some c→c≠b)∧∀p∈X.pn++pins,p.1≠b) :
  Inv X pins σ H' { s with heap:=h',gens:=g',drawn:=d',toks:=t' }:=by
 obtain⟨m,⟨o,es,ep,ho,r⟩,_⟩:=id I.loc
 obtain⟨sl,hL⟩:=u.any ho I.free fun z=>(hch _ z).2.1 rfl
 exact I.step (ch:=ch) hch (fun b o hL hb hc e n=>u.keep b o e n (fun z=>(QI.mp (I.stkSub b z)).elim hL hb) hc) (fun b o _ _ hc e n=>u.any e n hc) (fun b o hc e n=>u.free b o e n hc) (fun b o hc e=>u.there b o e hc) u.tups u.frzs u.tbls (fun m' hm=>by
  obtain⟨o',es',ep',ho',r'⟩:=hm
  rw[ho]at ho';cases ho'
  exact⟨_,es',ep',hL,r'⟩) hok hg
theorem Inv.turned{t':Nat}{it:Addr}(I:Inv X pins σ H s)(k:∀b o,b≠it→s.heap.get? b=some o→h'.get? b=some o)(hn:H it=none)(hL:it≠X.env.locals)
  (h1:it∈X.ex∨X.s₀.heap.objs.size≤it) (h2:∀x c,X.env.cells.lookup x=some c→c≠it) (h3:∀p∈X.pn++pins,p.1≠it):Inv X pins σ H { s with heap:=h',toks:=t' }:=by
 have nit:∀b u,H b=some u→b≠it:=fun b u e z=>by rw[z,hn]at e;cases e
 refine I.step (g':=s.gens) (d':=s.drawn) (ch:=[it]) (fun b hb=>?_) (fun b o _ _ hc e _=>k b o (fun z=>hc (by simp[z])) e) (fun b o _ _ hc e _=>⟨o.slots,k b o (fun z=>hc (by simp[z])) e⟩) (fun _ _ _ _ n=>n)
  (fun b o hc e=>⟨o,k b o (fun z=>hc (by simp[z])) e⟩) (fun _ _ e=>e) (fun _ _ _ e=>e) (fun b ps e=>⟨#[],by rw[e];simp⟩) (fun m hm=>?_) (fun b u e=>?_) I.bare
 ·have e:b=it:=by simpa using hb
  subst e
  exact⟨h1,hL,h2,h3⟩
 ·obtain⟨o,es,ep,ho,r⟩:=hm
  exact⟨o,es,ep,k _ o (Ne.symm hL) ho,r⟩
 ·refine(I.hok b u e).stay (fun c v hc q=>k c v ?_ q) (fun _ q=>q) fun _ _ q=>q
  rcases hc with z|z
  ·rw[z];exact nit b u e
  ·exact nit c _ z
theorem Inv.tok(I:Inv X pins σ H s)(t:Nat):Inv X pins σ H { s with toks:=t }:=I.un (h':=s.heap) (t':=t) Un.refl I.hok
theorem Inv.kept{t':Nat}(I:Inv X pins σ H s)(k:∀b u,s.heap.get? b=some u→h'.get? b=some u):Inv X pins σ H { s with heap:=h',toks:=t' }:=I.un (Un.kept k) (I.hok.kept k)
theorem Inv.laid{a:Addr}{o:HO}{t':Nat}(I:Inv X pins σ H s)(k:∀b u,s.heap.get? b=some u→h'.get? b=some u)(hp:s.heap.objs.size≤a)(new:Z9 X.prog X.w (upd H a o) h' a o) :
  Inv X pins σ (upd H a o) { s with heap:=h',toks:=t' }:=I.un (Un.laid k hp (I.hok.fresh hp)) (I.hok.laid k hp new)
theorem Inv.write{x e:Addr}{o:HO}{t':Nat}(I:Inv X pins σ H s)(mu:Mut (H x))(he:e=x∨H e=some (.own x))(k:∀b u,b≠e→s.heap.get? b=some u→h'.get? b=some u)(heo:∃u,h'.get? e=some u)
  (new:Z9 X.prog X.w (upd H x o) h' x o):Inv X pins σ (upd H x o) { s with heap:=h',toks:=t' }:=I.un (Un.write mu he k heo) (I.hok.write mu he k heo new)
theorem Inv.pins_of{pins':List (Addr×Obj)}(I:Inv X pins σ H s)(h:∀p∈pins',s.heap.get? p.1=some p.2∧H p.1=none∧p.1≠X.env.locals∧p.1 ∉ X.fs∧∀v,p.2.data≠.cell v):Inv X pins' σ H s :=
 ⟨I.ok,I.os,I.bare,I.base,I.loc,I.cell,I.free,I.freeC,fun p hp=>(Qk.mp hp).elim (fun z=>I.pin p (QJ _ z)) (h p),I.hok,I.len⟩
theorem Zjd{N:List Str}(hN:N.Nodup){i j:Nat}{x:Str}(a:N[i]? = some x)(b:N[j]? = some x):i=j:=by
 obtain⟨h1,e1⟩:=Qi.mp a
 obtain⟨h2,e2⟩:=Qi.mp b
 exact(List.getElem_inj hN).mp (e1.trans e2.symm)
theorem ZhI{M:Model}{A:Around}{E:Value→Shared→Prop}{i:Nat}{x:Str}{v:V}{u:Value}{Q:Unit→Shared→Prop}(I:Inv X pins σ H s)(hN:X.N.Nodup)(hi:X.N[i]? = some x)(hx:Loc X.env.scope x)(r:ZI v u)
  (h:∀s',Inv X pins (σ.set i (some v)) H s'→(∃a,Heap.SameBut a s.heap s'.heap∧(a=X.env.locals∨X.env.cells.lookup x=some a))→Q () s') (hf:X.fn x=true∨X.env.scope.names.lookup x=some .local:=by first|exact .inl rfl|exact .inr rfl|assumption):wpAny M A (storeName X.env x u) Q E s:=by
 obtain⟨m,hn,hl⟩:=id I.loc
 have hcls:(X.env.scope.kind == .class||(X.env.scope.kind == .module&&X.env.locals != X.env.globals))=false:=by rw[I.ok.kind];rfl
 have hiσ:i<σ.length:=by rw[I.len];exact(Qi.mp hi).1
 have cne:=I.cne
 have tracked:∀ {a:Addr} {h':Heap},(∃o,s.heap.get? a=some o∧H a=none)→Heap.SameBut a s.heap h'→HOk X.prog X.w H h':=fun {a h'} ha hs b ob e=>by
  obtain⟨_,_,hfree⟩:=ha
  refine(I.hok b ob e).stay (fun c w' hc q=>(hs.2 c ?_).trans q) (fun _ q=>q) fun _ _ q=>q
  rintro rfl
  rcases hc with rfl|hc
  ·rw[hfree]at e;cases e
  ·rw[hfree]at hc;cases hc
 rcases hx with hk|hk
 ·refine wpAny_storeName_local hk hn (fun h' hn' hs=>?_) hcls
  obtain⟨oL,_,_,hoL,_⟩:=id hn
  refine h _ ⟨I.ok,I.os,I.bare,⟨fun b o e n hb hx=>?_,fun b o e n hb hx=>?_,I.base.free,fun b o e hx=>?_,I.base.tups,I.base.frzs,I.base.tbls⟩,⟨_,hn',fun j y v' e1 e2 e3=>?_⟩,fun y c e=>?_,I.free,I.freeC,fun p hp=>?_,tracked ⟨oL,hoL,I.free⟩ hs,by simpa using I.len⟩ ⟨_,hs,.inl rfl⟩
  ·exact(hs.2 b (QC (QB (Qr e) I.ok.above))).trans (I.base.keep b o e n hb hx)
  ·obtain⟨sl,e1⟩:=I.base.slot b o e n hb hx
   exact⟨sl,(hs.2 b (QC (QB (Qr e) I.ok.above))).trans e1⟩
  ·obtain⟨o',e1⟩:=I.base.there b o e hx
   exact⟨o',(hs.2 b (QC (QB (Qr e) I.ok.above))).trans e1⟩
  ·by_cases hj:j=i
   ·subst hj
    rw[hi]at e1;cases e1
    rw[List.getElem?_set_self hiσ]at e2
    cases e2
    exact⟨u,r,.inl ⟨hk,by simp⟩⟩
   ·rw[List.getElem?_set_ne (Ne.symm hj)]at e2
    obtain⟨u',r',q⟩:=hl j y v' e1 e2 e3
    refine⟨u',r',?_⟩
    rcases q with⟨k,e⟩|⟨k,c,e,z⟩
    ·refine .inl ⟨k,?_⟩
     have:y≠x:=fun e=>hj (Zjd hN e1 (e ▸ hi))
     simp[this,e]
    ·exact .inr ⟨k,c,e,z.sameBut hs (cne y c e)⟩
  ·obtain⟨w',z⟩:=I.cell y c e
   exact⟨w',z.sameBut hs (cne y c e)⟩
  ·obtain⟨e,n,ne,nf,d⟩:=I.pin p hp
   exact⟨(hs.2 p.1 ne).trans e,n,ne,nf,d⟩
 ·have hfn:X.fn x=true:=by
   rcases hf with z|z
   ·exact z
   ·rw[z]at hk;cases hk
  obtain⟨c,hc⟩:=I.ok.has x (.inl hk)
  obtain⟨w',z⟩:=I.cell x c hc
  refine wpAny_storeName_cell I.ok.kind hk hc z (fun h' hc' hs=>?_)
  obtain⟨oc,hoc,hocd⟩:=id z
  refine h { s with heap:=h' } ⟨I.ok,I.os,I.bare,⟨fun b o e n hb hx=>?_,fun b o e n hb hx=>?_,I.base.free,fun b o e hx=>?_,I.base.tups,I.base.frzs,I.base.tbls⟩,⟨m,hn.sameBut hs (Ne.symm (cne x c hc)),fun j y v' e1 e2 e3=>?_⟩,fun y c' e=>?_,I.free,I.freeC,fun p hp=>?_,tracked ⟨oc,hoc,I.freeC x c hc⟩ hs,by simpa using I.len⟩ ⟨c,hs,.inr hc⟩
  ·exact(hs.2 b (QC (QB (Qr e) (I.ok.cab x c hfn hc)))).trans (I.base.keep b o e n hb hx)
  ·obtain⟨sl,e1⟩:=I.base.slot b o e n hb hx
   exact⟨sl,(hs.2 b (QC (QB (Qr e) (I.ok.cab x c hfn hc)))).trans e1⟩
  ·obtain⟨o',e1⟩:=I.base.there b o e hx
   exact⟨o',(hs.2 b (QC (QB (Qr e) (I.ok.cab x c hfn hc)))).trans e1⟩
  ·by_cases hj:j=i
   ·subst hj
    rw[hi]at e1;cases e1
    rw[List.getElem?_set_self hiσ]at e2
    cases e2
    exact⟨u,r,.inr ⟨.inl hk,c,hc,hc'⟩⟩
   ·rw[List.getElem?_set_ne (Ne.symm hj)]at e2
    obtain⟨u',r',q⟩:=hl j y v' e1 e2 e3
    refine⟨u',r',?_⟩
    rcases q with q|⟨k,c',e,z'⟩
    ·exact .inl q
    ·refine .inr ⟨k,c',e,z'.sameBut hs ?_⟩
     rintro rfl
     exact hj (Zjd hN e1 (I.ok.inj _ _ _ e hc ▸ hi))
  ·by_cases hcc:c'=c
   ·subst hcc;exact⟨_,hc'⟩
   ·obtain⟨w2,z2⟩:=I.cell y c' e
    exact⟨w2,z2.sameBut hs hcc⟩
  ·obtain⟨e,n,ne,nf,d⟩:=I.pin p hp
   refine⟨(hs.2 p.1 ?_).trans e,n,ne,nf,d⟩
   intro q
   rw[q,hoc]at e
   have q':oc=p.2:=Ql e
   exact d w' (by rw[← q'];exact hocd)
theorem Zea{M:Model}{A:Around}{E:Value→Shared→Prop}{i:Nat}{x:Str}{v:V}{u:Value}{Q:Unit→Shared→Prop}(I:Inv X pins σ H s)(hN:X.N.Nodup)(hi:X.N[i]? = some x)(hx:Loc X.env.scope x)(r:ZI v u)
  (h:∀s',Inv X pins (σ.set i (some v)) H s'→Q () s') (hf:X.fn x=true∨X.env.scope.names.lookup x=some .local:=by first|exact .inl rfl|exact .inr rfl|assumption):wpAny M A (storeName X.env x u) Q E s :=
 ZhI I hN hi hx r (fun s' I' _=>h s' I') hf
theorem Inv.call'{s':Shared}{ch:List Addr}(I:Inv X pins σ H s)(ho:s'.os=s.os)(u:Un (frs X.stack) ch H H' s.heap s'.heap)(hok:HOk X.prog X.w H' s'.heap)(hg:AllBare s'.gens)
  (hch:∀b∈ch,(b∈X.ex∨X.s₀.heap.objs.size≤b)∧b≠X.env.locals∧(∀x c,X.env.cells.lookup x=some c→c≠b)∧∀p∈X.pn++pins,p.1≠b):Inv X pins σ H' s':=by
 obtain⟨h',g',d',t',o'⟩:=s'
 have e:o'=s.os:=ho
 subst e
 exact I.call (g':=g') (t':=t') (d':=d') u hok hg hch
end
abbrev XK:=Value→Option Addr→Hp→Prop
abbrev St:=List (Option V)
abbrev VK:=V→Hp→Prop
abbrev TE:=St→Hp→VK→Prop
abbrev TT:=St→Hp→(Bool→Hp→Prop)→Prop
abbrev TA:=St→Hp→(List V→Hp→Prop)→Prop
structure Zf7 where
 nx:St→Hp→Prop
 rt:VK
 bk:St→Hp→Prop:=fun _ _=>False
 ct:St→Hp→Prop:=fun _ _=>False
abbrev TS:=Zf7→St→Hp→Prop
def EP(X:Cx)(pins:List (Addr×Obj))(σ:St)(Q:VK)(u:Value)(s':Shared):Prop:=∃v H',Inv X pins σ H' s'∧ZI v u∧Q v H'
def TP(X:Cx)(pins:List (Addr×Obj))(σ:St)(Q:Bool→Hp→Prop)(b:Bool)(s':Shared):Prop:=∃H',Inv X pins σ H' s'∧Q b H'
def AP(X:Cx)(pins:List (Addr×Obj))(σ:St)(Q:List V→Hp→Prop)(us:List Value)(s':Shared):Prop:=∃vs H',Inv X pins σ H' s'∧ZG vs us∧Q vs H'
def SP(X:Cx)(pins:List (Addr×Obj))(D:Zf7)(f:Flow)(s':Shared):Prop :=
 match f with
 | .next=>∃σ' H',Inv X pins σ' H' s'∧D.nx σ' H'
 | .brk=>∃σ' H',Inv X pins σ' H' s'∧D.bk σ' H'
 | .cont=>∃σ' H',Inv X pins σ' H' s'∧D.ct σ' H'
 | .ret u=>∃v σ' H',Inv X pins σ' H' s'∧ZI v u∧D.rt v H'
def PE(X:Cx)(e:Expr)(t:TE):Prop :=
 ∀ (pins:List (Addr×Obj)) (s:Shared) (σ:St) (H:Hp) (Q:VK),Inv X pins σ H s→t σ H Q→wpAny (model X.prog X.w) X.A (eval e X.env) (EP X pins σ Q) X.xe s
def PT(X:Cx)(e:Expr)(t:TT):Prop :=
 ∀ (pins:List (Addr×Obj)) (s:Shared) (σ:St) (H:Hp) (Q:Bool→Hp→Prop),Inv X pins σ H s→t σ H Q→wpAny (model X.prog X.w) X.A (isTrue e X.env (eval e X.env)) (TP X pins σ Q) X.xe s
def PW(X:Cx)(e:Expr)(t:TT):Prop :=
 ∀ (whole:Sem Value) (pins:List (Addr×Obj)) (s:Shared) (σ:St) (H:Hp) (Q:Bool→Hp→Prop),Inv X pins σ H s→t σ H Q→wpAny (model X.prog X.w) X.A (isTrue e X.env whole) (TP X pins σ Q) X.xe s
theorem PW.pt{X:Cx}{e:Expr}{t:TT}(h:PW X e t):PT X e t:=h _
def PA(X:Cx)(es:List Expr)(t:TA):Prop :=
 ∀ (pos:Pos) (pins:List (Addr×Obj)) (s:Shared) (σ:St) (H:Hp) (Q:List V→Hp→Prop),Inv X pins σ H s→t σ H Q→wpAny (model X.prog X.w) X.A (spliced (backTo pos (starEach es X.env))) (AP X pins σ Q) X.xe s
def PS(X:Cx)(st:Stmt)(t:TS):Prop :=
 ∀ (pins:List (Addr×Obj)) (s:Shared) (σ:St) (H:Hp) (D:Zf7),Inv X pins σ H s→t D σ H→wpAny (model X.prog X.w) X.A (exec st X.env) (SP X pins D) X.xe s
def PSs(X:Cx)(st:List Stmt)(t:TS):Prop :=
 ∀ (pins:List (Addr×Obj)) (s:Shared) (σ:St) (H:Hp) (D:Zf7),Inv X pins σ H s→t D σ H→wpAny (model X.prog X.w) X.A (execs st X.env) (SP X pins D) X.xe s
theorem thn{α:Type}{t:Sem α}{Q Q':α→Shared→Prop}{M:Model}{A:Around}{E:Value→Shared→Prop}{s:Shared}(h:wpAny M A t Q E s)(hQ:∀a s,Q a s→Q' a s):wpAny M A t Q' E s:=wpAny_mono h hQ fun _ _ x=>x
section
variable {X:Cx}
def Zl8(i:Nat):TE:=fun σ H Q=>∃v,σ[i]? = some (some v)∧Q v H
def tC(v:V):TE:=fun _ H Q=>Q v H
theorem Zkg{i:Nat}{x:Str}{pos:Pos}(hN:X.N[i]? = some x)(hv:Vis X.env.scope x)(hd:(x == ("__debug__" : Str))=false:=by decide)(hcd:(x == ("__classdict__" : Str))=false:=by decide):PE X (.Name x pos) (Zl8 i):=by
 intro pins s σ H Q I h
 obtain⟨v,e,h⟩:=h
 obtain⟨m,hn,hl⟩:=I.loc
 obtain⟨u,r,l⟩:=hl i x v hN e hv
 have fin:EP X pins σ Q u s:=⟨v,H,I,r,h⟩
 rcases l with⟨hk,hm⟩|⟨hk,c,hc,hcell⟩
 ·exact wpAny_Name (wpAny_loadName_local I.ok.kind hk hn hm fin) hd
 ·rcases hk with hk|hk
  ·exact wpAny_Name (wpAny_loadName_cell I.ok.kind hk hc hcell fin) hd
  ·exact wpAny_Name (wpAny_loadName_free I.ok.kind hk hc hcell fin hcd) hd
theorem Zi{i j pos}:PE X (.Constant (.int i) j pos) (tC (.int i)):=fun _ _ _ H _ I h=>wpAny_Constant_int ⟨.int i,H,I.tok _,⟨_,rfl⟩,h⟩
theorem Zf1{b j pos}:PE X (.Constant (.bool b) j pos) (tC (.bl b)):=fun _ _ _ H _ I h=>Constant_bool ⟨.bl b,H,I,rfl,h⟩
theorem ZW{j pos}:PE X (.Constant .none j pos) (tC .non):=fun _ _ _ H _ I h=>Constant_none ⟨.non,H,I,rfl,h⟩
theorem Zz{x j pos}:PE X (.Constant (.str x) j pos) (tC (.str x)):=fun _ _ _ H _ I h=>Calls.Constant_str ⟨.str x,H,I.tok _,⟨_,rfl⟩,h⟩
def Gl(X:Cx)(x:Str):Prop:=X.env.kindOf x=some .globalImplicit
theorem ZiK{E:Value→Shared→Prop}{pins:List (Addr×Obj)}{s:Shared}{σ:St}{H:Hp}{x:Str}{u:Value}{pos:Pos}{Q:Value→Shared→Prop}(I:Inv X pins σ H s)(hg:Gl X x)(hm:X.mg x=some u)(h:Q u s)
  (hd:(x == ("__debug__" : Str))=false:=by decide):wpAny (model X.prog X.w) X.A (eval (.Name x pos) X.env) Q E s :=
 Calls.Name_function_global I.ok.kind hg (Calls.loadGlobal_global (by rw[I.ok.glob];exact I.mod.glob.keeps I.bk) hm h) hd
theorem Zd1{E:Value→Shared→Prop}{pins:List (Addr×Obj)}{s:Shared}{σ:St}{H:Hp}{x:Str}{u:Value}{pos:Pos}{Q:Value→Shared→Prop}(I:Inv X pins σ H s)(hg:Gl X x)(hm:X.mg x=none)(hv:bootBuiltins x=some u)(h:Q u s)
  (hn:x ≠ "__name__":=by decide) (hd:(x == ("__debug__" : Str))=false:=by decide):wpAny (model X.prog X.w) X.A (eval (.Name x pos) X.env) Q E s:=by
 obtain⟨mb,h1,h2⟩:=I.mod.blt
 exact Calls.Name_function_global I.ok.kind hg (Calls.loadGlobal_builtin (by rw[I.ok.glob];exact I.mod.glob.keeps I.bk) hm (by rw[I.ok.blt];exact h1.keeps I.bk) ((h2 x hn).trans hv) h) hd
theorem ZoT{x:Str}{v:V}{u:Value}{pos:Pos}(hg:Gl X x)(hm:X.mg x=some u)(r:ZI v u)(hd:(x == ("__debug__" : Str))=false:=by decide):PE X (.Name x pos) (tC v) :=
 fun _ _ _ H _ I h=>ZiK I hg hm ⟨v,H,I,r,h⟩ hd
theorem Zo9{x:Str}{v:V}{u:Value}{pos:Pos}(hg:Gl X x)(hm:X.mg x=none)(hv:bootBuiltins x=some u)(r:ZI v u)(hn:x ≠ "__name__":=by decide)(hd:(x == ("__debug__" : Str))=false:=by decide):PE X (.Name x pos) (tC v) :=
 fun _ _ _ H _ I h=>Zd1 I hg hm hv ⟨v,H,I,r,h⟩ hn hd
def t2I(ta tb:TE)(k:Int→Int→Hp→Prop):St→Hp→Prop:=fun σ H=>ta σ H fun x H1=>tb σ H1 fun y H2=>∃i j,x=.int i∧y=.int j∧k i j H2
def tAdd(ta tb:TE):TE:=fun σ H Q=>t2I ta tb (fun i j H2=>Q (.int (i+j)) H2) σ H
def tSub(ta tb:TE):TE:=fun σ H Q=>t2I ta tb (fun i j H2=>Q (.int (i-j)) H2) σ H
def tMul(ta tb:TE):TE:=fun σ H Q=>t2I ta tb (fun i j H2=>(-(2 ^ 64)<i∧i<2 ^ 64)∧Q (.int (i*j)) H2) σ H
variable {a b:Expr} {ta tb:TE} {pos:Pos}
def PC(X:Cx)(op:CmpOp)(a b:Expr)(t:TE):Prop :=
 ∀ (pins:List (Addr×Obj)) (s:Shared) (σ:St) (H:Hp) (Q:VK),Inv X pins σ H s→t σ H Q →
  wpAny (model X.prog X.w) X.A (eval a X.env) (fun v s₁=>wpAny (model X.prog X.w) X.A (eval b X.env) (fun u s₂=>wpAny (model X.prog X.w) X.A (compareOp op v u) (EP X pins σ Q) X.xe s₂) X.xe s₁) X.xe s
def ZlD(p:Int→Int→Bool)(ta tb:TE):TE:=fun σ H Q=>t2I ta tb (fun i j H2=>Q (.bl (p i j)) H2) σ H
abbrev tLt:TE→TE→TE:=ZlD fun i j=>decide (i<j)
abbrev tLe:TE→TE→TE:=ZlD fun i j=>decide (i≤j)
abbrev tGt:TE→TE→TE:=ZlD fun i j=>decide (j<i)
abbrev tGe:TE→TE→TE:=ZlD fun i j=>decide (j≤i)
abbrev tEqI:TE→TE→TE:=ZlD fun i j=>decide (i=j)
abbrev tNeI:TE→TE→TE:=ZlD fun i j=>!decide (i=j)
def tIsN(ta:TE):TE:=fun σ H Q=>ta σ H fun x H1=>Q (.bl (decide (x=.non))) H1
def tNotN(ta:TE):TE:=fun σ H Q=>ta σ H fun x H1=>Q (.bl (!decide (x=.non))) H1
def tB(t:TE):TT:=fun σ H Q=>t σ H fun x H1=>∃c,x=.bl c∧Q c H1
theorem ZbP{e:Expr}{t:TE}(h:PE X e t)(he:∀whole,isTrue e X.env whole=(do let v ← whole;standAt e.pos;holding [v] (truthy v)):=by intro _;rfl):PT X e (tB t):=by
 intro pins s σ H Q I hw
 refine isTrue_plain (thn (h pins s σ H _ I hw) ?_) (he _)
 rintro v s1 ⟨x,H1,I1,r1,q1⟩
 obtain⟨d,rfl,q⟩:=q1
 cases r1
 exact wpAny_truthy_bool ⟨H1,I1,q⟩
variable {tA tB':TT} {rest:List Expr}
def ZsQ(t u:TT):TT:=fun σ H Q=>t σ H fun c H1=>if c=true then u σ H1 Q else Q false H1
def tOr(t u:TT):TT:=fun σ H Q=>t σ H fun c H1=>if c=true then Q true H1 else u σ H1 Q
def Zs1(t:TT):TT:=fun σ H Q=>t σ H fun c H1=>Q (!c) H1
theorem ZbH(ha:PT X a tA):PW X (.BoolOp .And [a] pos) tA:=by
 intro wh pins s σ H Q I h
 refine isTrue_and (thn (ha pins s σ H Q I h) fun c s1 e=>?_)
 cases c with
 | true=>exact isTrue_and_nil e
 | false=>exact e
theorem ZfN(ha:PT X a tA):PW X (.BoolOp .Or [a] pos) tA:=by
 intro wh pins s σ H Q I h
 refine isTrue_or (thn (ha pins s σ H Q I h) fun c s1 e=>?_)
 cases c with
 | false=>exact isTrue_or_nil e
 | true=>exact e
theorem ZbQ(ha:PT X a tA)(hb:PW X (.BoolOp .And (b::rest) pos) tB'):PW X (.BoolOp .And (a::b::rest) pos) (ZsQ tA tB'):=by
 intro wh pins s σ H Q I h
 refine isTrue_and (thn (ha pins s σ H _ I h) ?_)
 rintro c s1 ⟨H1,I1,q1⟩
 cases c with
 | true=>exact hb wh pins s1 σ H1 Q I1 q1
 | false=>exact⟨H1,I1,q1⟩
theorem Zig(ha:PT X a tA)(hb:PW X (.BoolOp .Or (b::rest) pos) tB'):PW X (.BoolOp .Or (a::b::rest) pos) (tOr tA tB'):=by
 intro wh pins s σ H Q I h
 refine isTrue_or (thn (ha pins s σ H _ I h) ?_)
 rintro c s1 ⟨H1,I1,q1⟩
 cases c with
 | true=>exact⟨H1,I1,q1⟩
 | false=>exact hb wh pins s1 σ H1 Q I1 q1
theorem Zd4(ha:PT X a tA):PT X (.UnaryOp .Not a pos) (Zs1 tA):=by
 intro pins s σ H Q I h
 exact isTrue_not (ha pins s σ H (fun c H1=>Q (!c) H1) I h)
def Zsb(ta tb:TE):TE:=fun σ H Q=>ta σ H fun x H1=>∃c,x=.bl c∧if c=true then tb σ H1 Q else Q (.bl false) H1
def tOrV(ta tb:TE):TE:=fun σ H Q=>ta σ H fun x H1=>∃c,x=.bl c∧if c=true then Q (.bl true) H1 else tb σ H1 Q
def Zri(ta:TE):TE:=fun σ H Q=>ta σ H fun x H1=>∃c,x=.bl c∧Q (.bl (!c)) H1
theorem ZeT{op}{t:TE}(h:PE X a t):PE X (.BoolOp op [a] pos) t:=fun pins s σ H Q I hw=>BoolOp_one (h pins s σ H Q I hw)
theorem ZdS(ha:PE X a ta)(hb:PE X (.BoolOp .And (b::rest) pos) tb):PE X (.BoolOp .And (a::b::rest) pos) (Zsb ta tb):=by
 intro pins s σ H Q I h
 refine BoolOp_and (thn (ha pins s σ H _ I h) ?_)
 rintro v s1 ⟨x,H1,I1,r1,q1⟩
 obtain⟨c,rfl,q1⟩:=q1
 cases r1
 refine wpAny_truthy_bool ?_
 cases c with
 | true=>exact hb pins s1 σ H1 Q I1 q1
 | false=>exact⟨.bl false,H1,I1,rfl,q1⟩
theorem Zqz(ha:PE X a ta):PE X (.UnaryOp .Not a pos) (Zri ta):=by
 intro pins s σ H Q I h
 refine UnaryOp_ (thn (ha pins s σ H _ I h) ?_)
 rintro v s1 ⟨x,H1,I1,r1,q1⟩
 obtain⟨c,rfl,q1⟩:=q1
 cases r1
 exact not_of (wpAny_truthy_bool ⟨.bl (!c),H1,I1,rfl,q1⟩)
def tIf(t:TT)(ta tb:TE):TE:=fun σ H Q=>t σ H fun c H1=>if c=true then ta σ H1 Q else tb σ H1 Q
theorem Zbu{c:Expr}(hc:PT X c tA)(ha:PE X a ta)(hb:PE X b tb):PE X (.IfExp c a b pos) (tIf tA ta tb):=by
 intro pins s σ H Q I h
 refine wpAny_IfExp (thn (hc pins s σ H _ I h) ?_)
 rintro d s1 ⟨H1,I1,q1⟩
 cases d with
 | true=>exact ha pins s1 σ H1 Q I1 q1
 | false=>exact hb pins s1 σ H1 Q I1 q1
end
def SqL(K:PySem.W.Frag)(H:Hp)(a:Addr)(xs:List V):Prop :=
 Rd H a (.lst xs) ∨
  ∃ (o:Obj) (its:Array Value) (n:Nat),K.lookup a=some o∧o.cls=.type "list"∧o.dict=none∧o.data=.seq its n∧its.size≤sizeLine∧ZG xs its.toList
def SqT(K:PySem.W.Frag)(H:Hp)(a:Addr)(xs:List V):Prop :=
 Rd H a (.tup xs) ∨
  ∃ (o:Obj) (its:Array Value) (n:Nat),K.lookup a=some o∧o.cls=.type "tuple"∧o.data=.seq its n∧its.size≤sizeLine∧ZG xs its.toList
def ZsS:Value→Option V
 | .none=>some .non
 | .bool b=>some (.bl b)
 | .int i _=>some (.int i)
 | .str x _=>some (.str x)
 | .bytes b _=>some (.byt b)
 | .float b _=>some (.flt b)
 | .ref a=>some (.ref a)
 | .type n=>some (.ty n)
 | _=>none
theorem ZI.abs{x:V}{u:Value}(r:ZI x u):ZsS u=some x:=by
 cases x with
 | non=>cases r;rfl
 | bl _=>cases r;rfl
 | int _=>obtain⟨t,rfl⟩:=r;rfl
 | str _=>obtain⟨t,rfl⟩:=r;rfl
 | byt _=>obtain⟨t,rfl⟩:=r;rfl
 | flt _=>obtain⟨t,rfl⟩:=r;rfl
 | ref _=>cases r;rfl
 | ty _=>cases r;rfl
theorem ZI.inj{x y:V}{u:Value}(r:ZI x u)(q:ZI y u):x=y:=Ql (r.abs.symm.trans q.abs)
theorem ZG.inj:∀ {xs ys:List V} {us:List Value},ZG xs us→ZG ys us→xs=ys
 | _,_,_,.nil,.nil=>rfl
 | _,_,_,.cons r t,.cons r' t'=>by rw[r.inj r',ZG.inj t t']
section
variable {X:Cx} {pins:List (Addr×Obj)} {σ:St} {H:Hp} {s:Shared} {a:Addr} {xs ys:List V}
theorem SqL.of{K:PySem.W.Frag}(h:H a=some (.lst xs)):SqL K H a xs:=.inl (.inl h)
theorem SqT.of{K:PySem.W.Frag}(h:H a=some (.tup xs)):SqT K H a xs:=.inl (.inl h)
theorem Inv.list(I:Inv X pins σ H s)(h:SqL X.K H a xs):∃its:List Value,ZG xs its∧PlainL s.heap a its.toArray∧xs.length≤sizeLine:=by
 rcases h with h|⟨o,its,n,hk,hc,hd,hs,hz,r⟩
 ·obtain⟨z,its,n,r,e⟩:=h.ok I.hok
  exact⟨its,r,⟨_,n,e,rfl,rfl,rfl⟩,z⟩
 ·refine⟨its.toList,r,⟨o,n,I.kIn a o hk,hc,hd,by simpa using hs⟩,?_⟩
  have e:=r.length
  simp only[Array.length_toList]at e
  omega
theorem Inv.tuple(I:Inv X pins σ H s)(h:SqT X.K H a xs):∃its:List Value,ZG xs its∧IsTup s.heap a its.toArray∧xs.length≤sizeLine:=by
 rcases h with h|⟨o,its,n,hk,hc,hs,hz,r⟩
 ·obtain⟨z,its,r,p⟩:=h.ok I.hok
  exact⟨its,r,p,z⟩
 ·refine⟨its.toList,r,⟨o,I.kIn a o hk,hc,n,by simpa using hs⟩,?_⟩
  have e:=r.length
  simp only[Array.length_toList]at e
  omega
theorem Inv.list_inj(I:Inv X pins σ H s)(h:SqL X.K H a xs)(h':SqL X.K H a ys):xs=ys:=by
 obtain⟨its,r,⟨o,n,e,_,_,d⟩,_⟩:=I.list h
 obtain⟨its',r',⟨o',n',e',_,_,d'⟩,_⟩:=I.list h'
 rw[e]at e';cases e'
 rw[d]at d'
 injection d' with d1 _
 have:its=its':=by simpa using congrArg Array.toList d1
 subst this
 exact r.inj r'
theorem Inv.tuple_inj(I:Inv X pins σ H s)(h:SqT X.K H a xs)(h':SqT X.K H a ys):xs=ys:=by
 obtain⟨its,r,⟨o,e,_,n,d⟩,_⟩:=I.tuple h
 obtain⟨its',r',⟨o',e',_,n',d'⟩,_⟩:=I.tuple h'
 rw[e]at e';cases e'
 rw[d]at d'
 injection d' with d1 _
 have:its=its':=by simpa using congrArg Array.toList d1
 subst this
 exact r.inj r'
end
abbrev Cx.wish(X:Cx)(E:Value→Shared→Prop):Cx:={ X with xe:=E }
abbrev Cx.nox(X:Cx):Cx:=X.wish fun _ _=>False
theorem Cx.Ok.wish{X:Cx}(ok:X.Ok)(E:Value→Shared→Prop):(X.wish E).Ok :=
 ⟨ok.mod,ok.kind,ok.glob,ok.blt,ok.above,ok.inj,ok.has,ok.cab,ok.hd,ok.frames,ok.stk,ok.exf,ok.bs,ok.bsz,ok.noex,ok.exfs,ok.funs,ok.frf⟩
theorem Cx.Ok.unwish{X:Cx}{E:Value→Shared→Prop}(ok:(X.wish E).Ok):X.Ok :=
 ⟨ok.mod,ok.kind,ok.glob,ok.blt,ok.above,ok.inj,ok.has,ok.cab,ok.hd,ok.frames,ok.stk,ok.exf,ok.bs,ok.bsz,ok.noex,ok.exfs,ok.funs,ok.frf⟩
section
variable {X:Cx} {pins:List (Addr×Obj)} {σ:St} {H:Hp} {s:Shared} {E:Value→Shared→Prop}
theorem Inv.wish(I:Inv X pins σ H s)(E:Value→Shared→Prop):Inv (X.wish E) pins σ H s:=⟨I.ok.wish E,I.os,I.bare,I.base,I.loc,I.cell,I.free,I.freeC,I.pin,I.hok,I.len⟩
theorem Inv.unwish(I:Inv (X.wish E) pins σ H s):Inv X pins σ H s:=⟨I.ok.unwish,I.os,I.bare,I.base,I.loc,I.cell,I.free,I.freeC,I.pin,I.hok,I.len⟩
theorem SP.unwish{D:Zf7}{f:Flow}{s':Shared}(h:SP (X.wish E) pins D f s'):SP X pins D f s':=by
 cases f with
 | next=>obtain⟨σ',H',I,q⟩:=h;exact⟨σ',H',I.unwish,q⟩
 | brk=>obtain⟨σ',H',I,q⟩:=h;exact⟨σ',H',I.unwish,q⟩
 | cont=>obtain⟨σ',H',I,q⟩:=h;exact⟨σ',H',I.unwish,q⟩
 | ret u=>obtain⟨v,σ',H',I,r,q⟩:=h;exact⟨v,σ',H',I.unwish,r,q⟩
theorem PSs.nox{st:List Stmt}{t:TS}(h:PSs X.nox st t):PSs X st t:=fun pins s σ H D I hw =>
 wpAny_mono (h pins s σ H D (I.wish _) hw) (fun _ _ q=>q.unwish) fun _ _ z=>False.elim z
end
section
variable {X:Cx} {st:Stmt} {rest:List Stmt} {t u:TS} {e:Expr} {te:TE} {pos:Pos}
def ZrP:TS:=fun D σ H=>D.nx σ H
def ZsP(t u:TS):TS:=fun D σ H=>t { D with nx:=u D } σ H
theorem ZF:PSs X [] ZrP:=fun _ _ σ H _ I h=>wpAny_execs_nil ⟨σ,H,I,h⟩
theorem Zf(h1:PS X st t)(h2:PSs X rest u):PSs X (st::rest) (ZsP t u):=by
 intro pins s σ H D I h
 refine wpAny_execs_cons (thn (h1 pins s σ H { D with nx:=u D } I h) fun f s1 q=>?_)
 cases f with
 | next =>
  obtain⟨σ',H',I',q⟩:=q
  exact h2 pins s1 σ' H' D I' q
 | ret v=>exact q
 | brk=>exact q
 | cont=>exact q
theorem Zj(h1:PS X st t):PSs X [st] t:=by
 intro pins s σ H D I h
 refine wpAny_execs_cons (thn (h1 pins s σ H D I h) fun f s1 q=>?_)
 cases f with
 | next=>exact wpAny_execs_nil q
 | ret v=>exact q
 | brk=>exact q
 | cont=>exact q
def tBreak:TS:=fun D σ H=>D.bk σ H
def tCont:TS:=fun D σ H=>D.ct σ H
theorem Inv.quiet{pins:List (Addr×Obj)}{σ:St}{H:Hp}{s:Shared}(I:Inv X pins σ H s):interactive X.env=false:=by simp[interactive,I.ok.kind]
def Zrx(te:TE):TS:=fun D σ H=>te σ H fun _ H1=>D.nx σ H1
theorem Z8(he:PE X e te)(hs:swapsWith e none pos.line X.env=pure false:=by rfl):PS X (.Expr e pos) (Zrx te):=by
 intro pins s σ H D I h
 exact wpAny_Expr_any (thn (he pins s σ H _ I h) fun v s1 ⟨x,H1,I1,r1,q1⟩=>⟨σ,H1,I1,q1⟩) I.quiet hs
def ZsR(te:TE):TS:=fun D σ H=>te σ H D.rt
theorem Zr(he:PE X e te):PS X (.Return (some e) pos) (ZsR te):=by
 intro pins s σ H D I h
 exact wpAny_Return_some (thn (he pins s σ H _ I h) fun v s1 ⟨x,H1,I1,r1,q1⟩=>⟨x,σ,H1,I1,r1,q1⟩)
def tRetN:TS:=fun D _ H=>D.rt .non H
def Zsy(c:TT)(t u:TS):TS:=fun D σ H=>c σ H fun b H1=>if b=true then t D σ H1 else u D σ H1
theorem Z3{c:Expr}{a b:List Stmt}{tc:TT}(hc:PT X c tc)(ha:PSs X a t)(hb:PSs X b u):PS X (.If c a b pos) (Zsy tc t u):=by
 intro pins s σ H D I h
 refine wpAny_If (thn (hc pins s σ H _ I h) ?_)
 rintro d s1 ⟨H1,I1,q1⟩
 cases d with
 | true=>exact ha pins s1 σ H1 D I1 q1
 | false=>exact hb pins s1 σ H1 D I1 q1
def tNever:TS:=fun _ _ _=>False
end
abbrev TG:=V→St→Hp→(St→Hp→Prop)→Prop
abbrev TGs:=List V→St→Hp→(St→Hp→Prop)→Prop
def PG(X:Cx)(target:Expr)(t:TG):Prop :=
 ∀ (pins:List (Addr×Obj)) (s:Shared) (σ:St) (H:Hp) (v:V) (u:Value) (Q:St→Hp→Prop),Inv X pins σ H s→ZI v u→t v σ H Q →
  wpAny (model X.prog X.w) X.A (assign target X.env u) (fun _ s'=>∃σ' H',Inv X pins σ' H' s'∧Q σ' H') X.xe s
def PGs(X:Cx)(ts:List Expr)(t:TGs):Prop :=
 ∀ (pins:List (Addr×Obj)) (s:Shared) (σ:St) (H:Hp) (vs:List V) (us:List Value) (Q:St→Hp→Prop),Inv X pins σ H s→ZG vs us→t vs σ H Q →
  wpAny (model X.prog X.w) X.A (assignInOrder ((assignEach ts X.env).map (·.2)) us) (fun _ s'=>∃σ' H',Inv X pins σ' H' s'∧Q σ' H') X.xe s
abbrev ZlI:=V→V→V→Hp→(Hp→Prop)→Prop
def ZqU(X:Cx)(t:ZlI):Prop :=
 ∀ (pins:List (Addr×Obj)) (s:Shared) (σ:St) (H:Hp) (o i v:V) (ov iv u:Value) (Q:Hp→Prop),Inv X pins σ H s→ZI o ov→ZI i iv→ZI v u→t o i v H Q →
  wpAny (model X.prog X.w) X.A (setItem ov iv u) (fun _ s'=>∃H',Inv X pins σ H' s'∧Q H') X.xe s
abbrev TIp:=V→V→Hp→VK→Prop
def PIp(X:Cx)(op:Operator)(t:TIp):Prop :=
 ∀ (pins:List (Addr×Obj)) (s:Shared) (σ:St) (H:Hp) (x y:V) (v u:Value) (Q:VK),Inv X pins σ H s→ZI x v→ZI y u→t x y H Q →
  wpAny (model X.prog X.w) X.A (inplaceOp op v u) (EP X pins σ Q) X.xe s
section
variable {X:Cx} {pos:Pos}
def Zlr(i:Nat):TG:=fun v σ H Q=>Q (σ.set i (some v)) H
theorem ZD{i:Nat}{x:Str}(hN:X.N.Nodup)(hi:X.N[i]? = some x)(hx:Loc X.env.scope x)(hf:X.fn x=true∨X.env.scope.names.lookup x=some .local:=by first|exact .inl rfl|exact .inr rfl|assumption):PG X (.Name x pos) (Zlr i):=by
 intro pins s σ H v u Q I r h
 exact wpAny_assign_Name (Zea I hN hi hx r (fun s' I'=>⟨_,H,I',h⟩) hf)
def ZsD:TGs:=fun vs σ H Q=>vs=[]∧Q σ H
def Zry(t:TG)(u:TGs):TGs:=fun vs σ H Q=>∃v r,vs=v::r∧t v σ H fun σ' H'=>u r σ' H' Q
theorem ZaF:PGs X [] ZsD:=by
 intro pins s σ H vs us Q I r h
 obtain⟨e,h⟩:=h
 subst e
 cases r
 exact assignInOrder_nil ⟨σ,H,I,h⟩
theorem ZC{e:Expr}{es:List Expr}{t:TG}{u:TGs}(h1:PG X e t)(h2:PGs X es u)
  (hs:(assignEach (e::es) X.env).map (·.2)=assign e X.env::(assignEach es X.env).map (·.2):=by rfl):PGs X (e::es) (Zry t u):=by
 intro pins s σ H vs us Q I r h
 obtain⟨v,vr,e1,h⟩:=h
 subst e1
 cases r with
 | cons r rr =>
  rw[hs]
  refine assignInOrder_cons (thn (h1 pins s σ H _ _ _ I r h) ?_)
  rintro _ s1 ⟨σ1,H1,I1,q1⟩
  exact h2 pins s1 σ1 H1 _ _ Q I1 rr q1
def Zrw(K:PySem.W.Frag)(n:Nat)(t:TGs):TG:=fun v σ H Q=>∃a xs,v=.ref a∧SqT K H a xs∧xs.length=n∧t xs σ H Q
theorem Zq4{es:List Expr}{k:Nat}{t:TGs}{n:Nat}(hc:X.calm=true)(h:PGs X es t)
  (hn:(assignEach es X.env).length=n:=by rfl) (hst:(assignEach es X.env).findIdx? (·.1)=none:=by rfl):PG X (.Tuple es k pos) (Zrw X.K n t):=by
 intro pins s σ H v u Q I r hw
 obtain⟨a,xs,e1,hq,hl,hw⟩:=hw
 subst e1
 cases r
 obtain⟨its,rv,ht,hz⟩:=I.tuple hq
 refine assign_Tuple_tuple (I.ok.hd hc) ht (by simp[hn,← hl,rv.length]) hst fun h' hx=>?_
 have I1:Inv X pins σ H { s with heap:=h' }:=I.kept (t':=s.toks) fun b o e=>hx b o (QC (Qr e)) e
 exact h pins _ σ H xs _ Q I1 (by simpa using rv) hw
def Zsv(to ti:TE)(t:ZlI):TG:=fun v σ H Q=>to σ H fun o H1=>ti σ H1 fun i H2=>t o i v H2 fun H3=>Q σ H3
theorem ZaS{o i:Expr}{to ti:TE}{t:ZlI}(ho:PE X o to)(hi:PE X i ti)(hs:ZqU X t)
  (ha:∀v,assign (.Subscript o i pos) X.env v=(do
   let ov ← holding [v] (eval o X.env)
   let iv ← holding [v,ov] (eval i X.env)
   standAt pos
   holding [v,ov,iv] (setItem ov iv v)
   release [v,ov,iv] []):=by intro _;rfl):PG X (.Subscript o i pos) (Zsv to ti t):=by
 intro pins s σ H v u Q I r h
 rw[ha]
 refine wpAny_bind (wpAny_holding (thn (ho pins s σ H _ I h) ?_))
 rintro ov s1 ⟨x,H1,I1,r1,q1⟩
 refine wpAny_bind (wpAny_holding (thn (hi pins s1 σ H1 _ I1 q1) ?_))
 rintro iv s2 ⟨y,H2,I2,r2,q2⟩
 refine wpAny_bind (wpAny_standAt (wpAny_bind (wpAny_holding (thn (hs pins s2 σ H2 x y v ov iv u _ I2 r1 r2 r q2) ?_))))
 rintro _ s3 ⟨H3,I3,q3⟩
 exact wpAny_release ⟨σ,H3,I3,q3⟩
def Zra(te:TE)(g:TG):TS:=fun D σ H=>te σ H fun x H1=>g x σ H1 D.nx
theorem Z4{tg e:Expr}{te:TE}{g:TG}(he:PE X e te)(hg:PG X tg g)(hs:swapsWithSole [tg] e pos.line X.env=pure false:=by rfl)(hw:swappedStores [tg] e X.env=pure none:=by rfl)
  (h1:(assignEach [tg] X.env).map (·.2)=[assign tg X.env]:=by rfl):PS X (.Assign [tg] e pos) (Zra te g):=by
 intro pins s σ H D I h
 refine wpAny_Assign_stores (thn (he pins s σ H _ I h) ?_) hs hw
 rintro v s1 ⟨x,H1,I1,r1,q1⟩
 rw[h1]
 exact thn (hg pins s1 σ H1 x v _ I1 r1 q1) fun _ s2 q=>q
theorem Zy{i:Nat}{x:Str}{e:Expr}{te:TE}{pos':Pos}(hN:X.N.Nodup)(hi:X.N[i]? = some x)(hx:Loc X.env.scope x)(he:PE X e te)(hs:swapsWith e (some (.Name x pos')) pos.line X.env=pure false:=by rfl)(hf:X.fn x=true∨X.env.scope.names.lookup x=some .local:=by first|exact .inl rfl|exact .inr rfl|assumption) :
  PS X (.Assign [.Name x pos'] e pos) (Zra te (Zlr i)):=by
 intro pins s σ H D I h
 refine wpAny_Assign_Name (thn (he pins s σ H _ I h) ?_) hs
 rintro v s1 ⟨y,H1,I1,r1,q1⟩
 exact Zea I1 hN hi hx r1 (fun s2 I2=>⟨_,H1,I2,q1⟩) hf
def Zsu(i j:Nat)(ta:TA):TS:=fun D σ H=>ta σ H fun vs H1=>∃v w,vs=[v,w]∧D.nx ((σ.set i (some v)).set j (some w)) H1
theorem ZfI{i j:Nat}{x y:Str}{a b:Expr}{ta:TA}{px py pt:Pos}{kt k2 pt2}(hc:X.calm=true)(hN:X.N.Nodup)(hi:X.N[i]? = some x)(hj:X.N[j]? = some y)(hij:i≠j)
  (hx:X.env.scope.names.lookup x=some .local) (hy:X.env.scope.names.lookup y=some .local) (ha:PA X [a,b] ta)
  (hw:swappedStores [.Tuple [.Name x px,.Name y py] kt pt] (.Tuple [a,b] k2 pt2) X.env=pure (some [x,y]))
  (hs:swapsWithSole [.Tuple [.Name x px,.Name y py] kt pt] (.Tuple [a,b] k2 pt2) pos.line X.env=pure false:=by rfl) :
  PS X (.Assign [.Tuple [.Name x px,.Name y py] kt pt] (.Tuple [a,b] k2 pt2) pos) (Zsu i j ta):=by
 intro pins s σ H D I h
 rw[exec_Assign_arm]
 refine wpAny_bind (wpAny_standAt ?_)
 rw[hs]
 refine wpAny_bind (wpAny_pure ?_)
 rw[if_neg (by decide)]
 refine wpAny_bind (Tuple_ (thn (ha _ pins s σ H _ I h) ?_))
 rintro us s1 ⟨vs,H1,I1,r1,q1⟩
 obtain⟨v,w,e1,q1⟩:=q1
 subst e1
 obtain⟨u1,u2,rfl,rv,rw'⟩:∃u1 u2,us=[u1,u2]∧ZI v u1∧ZI w u2:=by
  cases r1 with
  | cons p q =>
   cases q with
   | cons p' q' =>
    cases q'
    exact⟨_,_,rfl,p,p'⟩
 refine wpAny_newObj_type ?_ (by show 2≤sizeLine;decide)
 have I2:Inv X pins σ H1 { s1 with heap:=s1.heap.push { cls:=.type "tuple",data:=.seq [u1,u2].toArray } }:=I1.kept (t':=s1.toks) fun b o e=>Qc _ e
 rw[hw]
 refine wpAny_bind (wpAny_pure ?_)
 show wpAny (model X.prog X.w) X.A (do rule "assign.swapped-stores";let items ← unpackItems (.ref s1.heap.objs.size) 2 none;assignInOrder [fun v=>bindName X.env y v,fun v=>bindName X.env x v] items.reverse;pure Flow.next) _ _ _
 refine wpAny_bind (wpAny_rule (wpAny_bind (unpackItems_tuple (items:=#[u1,u2]) (I.ok.hd hc) (IsTup.new s1.heap _) fun h' hx'=>?_)))
 have I3:=I2.kept (h':=h') (t':=s1.toks) fun b o e=>hx' b o (QC (Qr e)) e
 show wpAny _ _ (assignInOrder [fun v=>bindName X.env y v,fun v=>bindName X.env x v] [u2,u1] >>= fun _=>pure Flow.next) _ _ _
 refine wpAny_bind (assignInOrder_cons (wpAny_bindName (Zea I3 hN hj (.inl hy) rw' (fun s2 I4=>?_) (.inr hy))))
 refine assignInOrder_cons (wpAny_bindName (Zea I4 hN hi (.inl hx) rv (fun s3 I5=>assignInOrder_nil (wpAny_pure ?_)) (.inr hx)))
 rw[List.set_comm _ _ (Ne.symm hij)]at I5
 exact⟨_,H1,I5,q1⟩
def Zst(i:Nat)(te:TE)(ti:TIp):TS:=fun D σ H=>∃x,σ[i]? = some (some x)∧te σ H fun y H1=>ti x y H1 fun z H2=>D.nx (σ.set i (some z)) H2
theorem ZqJ{i:Nat}{x:Str}{e:Expr}{te:TE}{op:Operator}{ti:TIp}{pos':Pos}(hN:X.N.Nodup)(hi:X.N[i]? = some x)(hx:Loc X.env.scope x)(he:PE X e te)(ho:PIp X op ti)(hf:X.fn x=true∨X.env.scope.names.lookup x=some .local:=by first|exact .inl rfl|exact .inr rfl|assumption) :
  PS X (.AugAssign (.Name x pos') op e pos) (Zst i te ti):=by
 intro pins s σ H D I h
 obtain⟨v,e1,h⟩:=h
 obtain⟨m,hn,hl⟩:=I.loc
 have vis:Vis X.env.scope x:=by rcases hx with k|k;exact .inl k;exact .inr (.inl k)
 obtain⟨u,r,l⟩:=hl i x v hi e1 vis
 refine wpAny_AugAssign_Name ?_
 have go:wpAny (model X.prog X.w) X.A (eval e X.env) (fun w s₂=>wpAny (model X.prog X.w) X.A (inplaceOp op u w) (fun r s₃=>wpAny (model X.prog X.w) X.A (storeName X.env x r) (fun _=>SP X pins D .next) X.xe s₃) X.xe s₂) X.xe s:=by
  refine thn (he pins s σ H _ I h) ?_
  rintro w s1 ⟨y,H1,I1,r1,q1⟩
  refine thn (ho pins s1 σ H1 v y u w _ I1 r r1 q1) ?_
  rintro z s2 ⟨zv,H2,I2,r2,q2⟩
  exact Zea I2 hN hi hx r2 (fun s3 I3=>⟨_,H2,I3,q2⟩) hf
 rcases l with⟨hk,hm⟩|⟨hk,c,hc,hcell⟩
 ·exact wpAny_loadName_local I.ok.kind hk hn hm go
 ·rcases hk with hk|hk
  ·exact wpAny_loadName_cell I.ok.kind hk hc hcell go
  ·rcases hx with k|k
   ·have:X.env.scope.names.lookup x=some .free:=hk
    rw[k]at this;cases this
   ·have:X.env.scope.names.lookup x=some .free:=hk
    rw[k]at this;cases this
def tAugS(to ti te:TE)(tget:V→V→Hp→VK→Prop)(tip:TIp)(tset:ZlI):TS:=fun D σ H=>to σ H fun o H1=>ti σ H1 fun i H2=>tget o i H2 fun x H3=>te σ H3 fun y H4=>tip x y H4 fun z H5=>tset o i z H5 fun H6=>D.nx σ H6
def PGet(X:Cx)(t:V→V→Hp→VK→Prop):Prop :=
 ∀ (pins:List (Addr×Obj)) (s:Shared) (σ:St) (H:Hp) (o i:V) (ov iv:Value) (Q:VK),Inv X pins σ H s→ZI o ov→ZI i iv→t o i H Q →
  wpAny (model X.prog X.w) X.A (getItem ov iv) (EP X pins σ Q) X.xe s
def ipI(f:Int→Int→Int):TIp:=fun x y H Q=>∃i j,x=.int i∧y=.int j∧Q (.int (f i j)) H
theorem ZqD:PIp X .Add (ipI fun i j=>i+j):=by
 intro pins s σ H x y v u Q I r1 r2 h
 obtain⟨i,j,e1,e2,q⟩:=h
 subst e1;subst e2
 obtain⟨t,rfl⟩:=r1
 obtain⟨t',rfl⟩:=r2
 exact iadd_int ⟨.int _,H,I.tok _,⟨_,rfl⟩,q⟩
end
section
variable {X:Cx} {pos:Pos}
def Zq6(c:TT)(tb:TS):TS:=fun D σ H=>∃W:Nat→St→Hp→Prop,(∃m,W m σ H)∧∀m σ H,W m σ H →
 c σ H fun b H1=>if b=true then ∃N:St→Hp→Prop,(∀σ' H',N σ' H'→∃m',m'<m∧W m' σ' H')∧tb { D with nx:=N,ct:=N,bk:=D.nx } σ H1 else D.nx σ H1
theorem Zd6{c:Expr}{body:List Stmt}{tc:TT}{tb:TS}(hp:PassesOwn (model X.prog X.w) X.A X.env X.xe)(hc:PT X c tc)(hb:PSs X body tb):PS X (.While c body [] pos) (Zq6 tc tb):=by
 intro pins s σ H D I h
 obtain⟨W,⟨m0,w0⟩,turn⟩:=h
 refine wpAny_While (codeAny_whileLoop (fun n s'=>∃σ' H',Inv X pins σ' H' s'∧W n σ' H') ?_ m0 ⟨σ,H,I,w0⟩)
 rintro n s1 ⟨σ1,H1,I1,w1⟩
 refine wpAny_passesOwn hp (thn (hc pins s1 σ1 H1 _ I1 (turn n σ1 H1 w1)) ?_)
 rintro b s2 ⟨H2,I2,q2⟩
 cases b with
 | true =>
  obtain⟨N,hN,q2⟩:=q2
  rw[if_pos rfl]
  refine wpAny_passesOwn hp (thn (hb pins s2 σ1 H2 _ I2 q2) fun f s3 q3=>?_)
  cases f with
  | next =>
   obtain⟨σ3,H3,I3,n3⟩:=q3
   obtain⟨m',hm,w3⟩:=hN σ3 H3 n3
   exact⟨m',hm,σ3,H3,I3,w3⟩
  | cont =>
   obtain⟨σ3,H3,I3,n3⟩:=q3
   obtain⟨m',hm,w3⟩:=hN σ3 H3 n3
   exact⟨m',hm,σ3,H3,I3,w3⟩
  | brk=>exact q3
  | ret v=>exact q3
 | false =>
  rw[if_neg Qm]
  exact wpAny_execs_nil ⟨σ1,H2,I2,q2⟩
end
structure It where
 go:Nat→Hp→Prop
 yld:Nat→Hp→V→Hp→Prop
 stop:Nat→Hp→Prop
def Zf8(X:Cx)(pins:List (Addr×Obj))(H:Hp)(b:Addr):Prop :=
 H b=none∧b≠X.env.locals∧b ∉ X.fs∧(b∈X.ex∨X.s₀.heap.objs.size≤b)∧(∀x c,X.env.cells.lookup x=some c→c≠b)∧∀p∈X.pn++pins,p.1≠b
theorem Inv.fpOk{X:Cx}{pins:List (Addr×Obj)}{σ:St}{H H':Hp}{s:Shared}{b:Addr}(I:Inv X pins σ H s)(hb:s.heap.objs.size≤b)(hn:H' b=none):Zf8 X pins H' b:=by
 refine⟨hn,Q6 (QB I.lt hb),I.nofs hb,.inr (Qy I.sz hb),fun x c e z=>?_,fun p hp z=>?_⟩
 ·obtain⟨v,q⟩:=I.cell x c e
  exact absurd (QB q.lt (by rw[z];exact hb)) (Q4 _)
 ·exact absurd (QB (Qr (I.pin p hp).1) (by rw[z];exact hb)) (Q4 _)
structure Zjo (P:Program) (w:World) (K:PySem.W.Frag) (tg:Expr) (J:It) (fp:List Addr) (it:Addr) (tn:Nat→Heap→Prop):Prop where
 mem:it∈fp
 obj:∀i h,tn i h→∀b∈fp,∃o,h.get? b=some o∧∀v,o.data≠.cell v
 keep:∀i h h',tn i h→(∀b∈fp,∀o,h.get? b=some o→h'.get? b=some o)→tn i h'
 item:∀ (X:Cx),X.prog=P→X.w=w→X.K=K→X.calm=true→∀ (i:Nat) (pins:List (Addr×Obj)) (s:Shared) (σ:St) (H:Hp) (E:Value→Shared→Prop),Inv X pins σ H s→(∀b∈fp,Zf8 X pins H b)→tn i s.heap→J.go i H →
  wpAny (model P w) X.A (pyNext (.ref it)) (fun r s1=>∃u,r=some u ∧
   wpAny (model P w) X.A (letOwnedTupleGo tg (.ref it) u) (fun _ s2=>∃x H',Inv X pins σ H' s2∧ZI x u∧J.yld i H x H'∧tn (i+1) s2.heap∧∀b∈fp,H' b=none) E s1) E s
 done:∀ (X:Cx),X.prog=P→X.w=w→X.K=K→X.calm=true→∀ (i:Nat) (pins:List (Addr×Obj)) (s:Shared) (σ:St) (H:Hp) (E:Value→Shared→Prop),Inv X pins σ H s→(∀b∈fp,Zf8 X pins H b)→tn i s.heap→J.stop i H →
  wpAny (model P w) X.A (pyNext (.ref it)) (fun r s1=>r=none∧Inv X pins σ H s1) E s
 self:∀ (A:Around) (i:Nat) (s:Shared) (Q:Value→Shared→Prop) (E:Value→Shared→Prop),tn i s.heap→Q (.ref it) s→wpAny (model P w) A (pyIter (.ref it)) Q E s
abbrev TI:=St→Hp→(It→Hp→Prop)→Prop
def PIE(X:Cx)(pins:List (Addr×Obj))(σ:St)(tg:Expr)(R:It→Hp→Prop)(itv:Value)(s2:Shared):Prop :=
 ∃ (it:Addr) (fp:List Addr) (tn:Nat→Heap→Prop) (J:It) (H':Hp),itv=.ref it∧Inv X pins σ H' s2∧Zjo X.prog X.w X.K tg J fp it tn∧tn 0 s2.heap∧(∀b∈fp,Zf8 X pins H' b)∧R J H'
def PI(X:Cx)(tg iter:Expr)(wi:TI):Prop :=
 ∀ (pins:List (Addr×Obj)) (s:Shared) (σ:St) (H:Hp) (R:It→Hp→Prop),Inv X pins σ H s→wi σ H R →
  wpAny (model X.prog X.w) X.A (eval iter X.env) (fun v s1=>wpAny (model X.prog X.w) X.A (pyIter v) (PIE X pins σ tg R) X.xe s1) X.xe s
theorem Zk8{M:Model}{A:Around}{E:Value→Shared→Prop}{s:Shared}{tg:Expr}{it:Addr}{u:Value}{o:Obj}{n:String}{vs:Array Value}{Q:Unit→Shared→Prop}(ho:s.heap.get? it=some o)(hc:o.cls=.type n)(hd:o.data=.fields vs)
  (hn:["enumerate", "zip", "dict_itemiterator", "dict_reverseitemiterator", "odict_iterator", "itertools.zip_longest", "itertools.pairwise"].contains n=false) (hQ:Q () s):wpAny M A (letOwnedTupleGo tg (.ref it) u) Q E s:=by
 unfold letOwnedTupleGo
 cases tg<;>first
  | exact wpAny_pure hQ
  | (cases u<;>first
    | exact wpAny_pure hQ
    | (refine wpAny_bind (wpAny_load ho ?_);rw[hc,hd];show wpAny M A (if (["enumerate", "zip", "dict_itemiterator", "dict_reverseitemiterator", "odict_iterator", "itertools.zip_longest", "itertools.pairwise"].contains n&&vs[0]? == some (rawInt _))=true then _ else _) Q E s;rw[if_neg (by intro h;rw[hn,Bool.false_and]at h;cases h)];exact wpAny_pure hQ))
def Itl(K:PySem.W.Frag)(a:Addr):It :=
 ⟨fun i H=>∃xs x,SqL K H a xs∧xs[i]? = some x,fun i H x H'=>H'=H∧∀xs,SqL K H a xs→xs[i]? = some x,fun i H=>∃xs,SqL K H a xs∧xs.length≤i⟩
def Itt(K:PySem.W.Frag)(a:Addr):It :=
 ⟨fun i H=>∃xs x,SqT K H a xs∧xs[i]? = some x,fun i H x H'=>H'=H∧∀xs,SqT K H a xs→xs[i]? = some x,fun i H=>∃xs,SqT K H a xs∧xs.length≤i⟩
def Itr(lo:Int)(n:Nat):It:=⟨fun i _=>i<n,fun i H x H'=>H'=H∧x=.int (lo+i),fun i _=>n≤i⟩
theorem ZlJ{P:Program}{w:World}{K:PySem.W.Frag}{tg:Expr}(a it:Addr):Zjo P w K tg (Itl K a) [it] it (fun i h=>h.IsListIter it a i) where
 mem:=by simp
 obj:=fun i h st b hb=>by
  have e:b=it:=by simpa using hb
  subst e
  obtain⟨o,e,c,d⟩:=st
  exact⟨o,e,fun v z=>by rw[d]at z;cases z⟩
 keep:=fun i h h' st k=>st.at fun o e=>k it (by simp) o e
 item:=by
  intro X hP hw hK hc i pins s σ H E I hf st hg
  subst hP hw hK
  obtain⟨xs,x,hq,hx⟩:=hg
  obtain⟨its,rv,p,hz⟩:=I.list hq
  obtain⟨u,hu,ru⟩:=rv.get hx
  obtain⟨f0,f1,f2,f3,f4,f5⟩:=hf it (by simp)
  refine wpAny_pyNext_list_item st p.isList (x:=u) (by simpa using hu) fun h' st' sb=>?_
  have I1:Inv X pins σ H { s with heap:=h' }:=I.turned (t':=s.toks) (fun b o hb e=>(sb.2 b hb).trans e) f0 f1 f3 f4 f5
  obtain⟨o,e,c,d⟩:=id st'
  exact⟨u,rfl,Zk8 (s:={ s with heap:=h' }) e c d (by decide) ⟨x,H,I1,ru,⟨rfl,fun ys hy=>by rw[I.list_inj hy hq];exact hx⟩,st',fun b hb=>(hf b hb).1⟩⟩
 done:=by
  intro X hP hw hK hc i pins s σ H E I hf st hg
  subst hP hw hK
  obtain⟨xs,hq,hx⟩:=hg
  obtain⟨its,rv,p,hz⟩:=I.list hq
  obtain⟨f0,f1,f2,f3,f4,f5⟩:=hf it (by simp)
  have hl:=rv.length
  exact wpAny_pyNext_list_end (I.ok.hd hc) st p.isList (by simp;omega) fun h' eb=>⟨rfl,I.turned (t':=s.toks) (fun b o hb e=>eb b o hb e) f0 f1 f3 f4 f5⟩
 self:=fun _ _ _ _ _ st h=>wpAny_pyIter_listiter st h
theorem Zkc{P:Program}{w:World}{K:PySem.W.Frag}{tg:Expr}(it:Addr)(lo:Int)(n:Nat):Zjo P w K tg (Itr lo n) [it] it (fun i h=>IsRangeIter h it (lo+(i:Nat)*1) ((n:Int)-(i:Nat)) 1) where
 mem:=by simp
 obj:=fun i h st b hb=>by
  have e:b=it:=by simpa using hb
  subst e
  exact⟨_,st,fun v z=>by
   have z':Data.fields _=Data.cell v:=z
   cases z'⟩
 keep:=fun i h h' st k=>k it (by simp) _ st
 item:=by
  intro X hP hw hK hc i pins s σ H E I hf st hg
  subst hP hw hK
  obtain⟨f0,f1,f2,f3,f4,f5⟩:=hf it (by simp)
  have W:=Walks.range (prog:=X.prog) (w:=X.w) (I.ok.hd hc) it lo 1 n
  refine W.item i s _ _ hg st fun v h' tk hv st' kk=>?_
  obtain⟨t,rfl⟩:=hv
  have I1:Inv X pins σ H { s with heap:=h',toks:=tk }:=I.turned (fun b o hb e=>kk b o (by simpa using hb) e) f0 f1 f3 f4 f5
  refine⟨_,rfl,Zk8 (s:={ s with heap:=h',toks:=tk }) (n := "range_iterator") st' rfl rfl (by decide) ⟨.int (lo+i),H,I1,⟨t,?_⟩,⟨rfl,rfl⟩,st',fun b hb=>(hf b hb).1⟩⟩
  rw[Int.mul_one]
 done:=by
  intro X hP hw hK hc i pins s σ H E I hf st hg
  subst hP hw hK
  obtain⟨f0,f1,f2,f3,f4,f5⟩:=hf it (by simp)
  exact wpAny_pyNext_range_end (I.ok.hd hc) st (by have:n≤i:=hg;omega) fun h' eb=>⟨rfl,I.turned (t':=s.toks) (fun b o hb e=>eb b o hb e) f0 f1 f3 f4 f5⟩
 self:=fun _ _ _ _ _ st h=>wpAny_pyIter_rangeiter st h
section
variable {X:Cx} {tg:Expr}
def Zp5(K:PySem.W.Frag)(tl:TE):TI:=fun σ H R=>tl σ H fun x H1=>∃a,x=.ref a∧(∃xs,SqL K H1 a xs)∧R (Itl K a) H1
def iTup(K:PySem.W.Frag)(tl:TE):TI:=fun σ H R=>tl σ H fun x H1=>∃a,x=.ref a∧(∃xs,SqT K H1 a xs)∧R (Itt K a) H1
theorem Zpn{l:Expr}{tl:TE}(hl:PE X l tl):PI X tg l (Zp5 X.K tl):=by
 intro pins s σ H R I h
 refine thn (hl pins s σ H _ I h) ?_
 rintro v s1 ⟨x,H1,I1,r1,q1⟩
 obtain⟨a,e,⟨xs,hq⟩,q⟩:=q1
 subst e
 cases r1
 obtain⟨its,rv,p,hz⟩:=I1.list hq
 refine wpAny_pyIter_list p.isList ?_
 refine⟨s1.heap.objs.size,[s1.heap.objs.size],_,_,H1,rfl,I1.kept (t':=s1.toks) fun b o e=>Qc _ e,ZlJ a _,⟨_,Qq _ rfl,rfl,rfl⟩,fun b hb=>?_,q⟩
 have e:b=s1.heap.objs.size:=by simpa using hb
 subst e
 exact I1.fpOk (Qg _) (I1.hok.fresh (Qg _))
theorem Zjv{pins:List (Addr×Obj)}{σ:St}{H:Hp}{s:Shared}{R:It→Hp→Prop}{E:Value→Shared→Prop}{lo hi:Int}{t u v:Tok}{tk:Nat}(I:Inv X pins σ H s)(h1:-(2 ^ 62)≤lo)(h2:lo<2 ^ 62)(h3:-(2 ^ 62)≤hi)(h4:hi<2 ^ 62)
  (q:R (Itr lo (hi-lo).toNat) H):wpAny (model X.prog X.w) X.A (pyIter (.ref s.heap.objs.size)) (PIE X pins σ tg R) E { s with heap:=s.heap.push { cls:=.type "range",data:=.fields #[.int lo t,.int hi u,.int 1 v] },toks:=tk }:=by
 refine wpAny_pyIter_range (IsRange.new ..) (small_one h1 h2 h3 h4) ?_
 have I1:Inv X pins σ H { s with heap:=s.heap.push { cls:=.type "range",data:=.fields #[.int lo t,.int hi u,.int 1 v] },toks:=tk }:=I.kept fun b o e=>Qc _ e
 refine⟨(s.heap.push { cls:=.type "range",data:=.fields #[.int lo t,.int hi u,.int 1 v] }).objs.size,[(s.heap.push { cls:=.type "range",data:=.fields #[.int lo t,.int hi u,.int 1 v] }).objs.size],_,_,H,rfl,
  I1.kept (t':=tk) fun b o e=>Qc _ e,Zkc _ lo (hi-lo).toNat,?_,fun b hb=>?_,q⟩
 ·have e1:lo+((0:Nat):Int)*1=lo:=by simp
  have e2:(((hi-lo).toNat:Nat):Int)-((0:Nat):Int)=Builtin.Range.rangeSize lo hi 1:=by rw[rangeSize_one];split<;>omega
  show IsRangeIter _ _ (lo+((0:Nat):Int)*1) ((((hi-lo).toNat:Nat):Int)-((0:Nat):Int)) 1
  rw[e1,e2]
  exact Qq _ rfl
 ·have e:b=(s.heap.push { cls:=.type "range",data:=.fields #[.int lo t,.int hi u,.int 1 v] }).objs.size:=by simpa using hb
  subst e
  exact I1.fpOk (Qg _) (I1.hok.fresh (Qg _))
def ZrH(ta:TA):TI:=fun σ H R=>ta σ H fun vs H1=>∃j:Int,vs=[.int j] ∧ -(2 ^ 62)≤j∧j<2 ^ 62∧R (Itr 0 j.toNat) H1
def Zsp(ta:TA):TI:=fun σ H R=>ta σ H fun vs H1=>∃i j:Int,vs=[.int i,.int j]∧(-(2 ^ 62)≤i∧i<2 ^ 62 ∧ -(2 ^ 62)≤j∧j<2 ^ 62)∧R (Itr i (j-i).toNat) H1
theorem Zbi{a:Expr}{ta:TA}{p pos:Pos}(hg:Gl X "range")(hm:X.mg "range" = none)(ha:PA X [a] ta)(hs:starEach [a] X.env=[(false,eval a X.env)]:=by rfl):PI X tg (.Call (.Name "range" p) [a] [] pos) (ZrH ta):=by
 intro pins s σ H R I h
 refine Call_ (Zd1 I hg hm boot_range (QW (thn (ha pos pins s σ H _ I h) ?_) hs rfl))
 rintro us s1 ⟨vs,H1,I1,r1,q1⟩
 obtain⟨j,e,q1,q2,q⟩:=q1
 subst e
 cases r1 with
 | cons r rr =>
  cases rr
  obtain⟨t,rfl⟩:=r
  exact call_range_1 (Zjv I1 (by omega) (by omega) q1 q2 (by simpa using q))
theorem ZlM{a b:Expr}{ta:TA}{p pos:Pos}(hg:Gl X "range")(hm:X.mg "range" = none)(ha:PA X [a,b] ta)(hs:starEach [a,b] X.env=[(false,eval a X.env),(false,eval b X.env)]:=by rfl)(hs2:starEach [b] X.env=[(false,eval b X.env)]:=by rfl) :
  PI X tg (.Call (.Name "range" p) [a,b] [] pos) (Zsp ta):=by
 intro pins s σ H R I h
 refine Call_ (Zd1 I hg hm boot_range (QW (thn (ha pos pins s σ H _ I h) ?_) (by rw[hs,hs2]) (by rw[hs2];rfl)))
 rintro us s1 ⟨vs,H1,I1,r1,q1⟩
 obtain⟨i,j,e,⟨q1,q2,q3,q4⟩,q⟩:=q1
 subst e
 cases r1 with
 | cons r rr =>
  cases rr with
  | cons r' rr =>
   cases rr
   obtain⟨t,rfl⟩:=r
   obtain⟨t',rfl⟩:=r'
   exact call_range_2 (Zjv I1 q1 q2 q3 q4 q)
def Zsz(wi:TI)(g:TG)(tb:TS):TS:=fun D σ H=>wi σ H fun J H1=>∃W:Nat→Nat→St→Hp→Prop,(∃m,W 0 m σ H1)∧∀i m σ H,W i m σ H →
 (J.stop i H∧D.nx σ H)∨(J.go i H∧∃N:St→Hp→Prop,(∀σ' H',N σ' H'→∃m',m'<m∧W (i+1) m' σ' H')∧∀x H',J.yld i H x H'→g x σ H' fun σ2 H2=>tb { D with nx:=N,ct:=N,bk:=D.nx } σ2 H2)
def Zgr(fp:List Addr)(h:Heap):List (Addr×Obj):=fp.filterMap fun b=>(h.get? b).map fun o=>(b,o)
theorem Zdx{fp:List Addr}{h:Heap}{b:Addr}{o:Obj}(hb:b∈fp)(e:h.get? b=some o):(b,o)∈Zgr fp h:=List.mem_filterMap.mpr ⟨b,hb,by rw[e];rfl⟩
theorem ZlV{fp:List Addr}{h:Heap}{p:Addr×Obj}(hp:p∈Zgr fp h):p.1∈fp∧h.get? p.1=some p.2:=by
 obtain⟨b,hb,e⟩:=List.mem_filterMap.mp hp
 cases q:h.get? b with
 | none=>rw[q]at e;cases e
 | some o =>
  rw[q]at e
  have e':(b,o)=p:=Ql e
  subst e'
  exact⟨hb,q⟩
theorem Inv.pinned{pins:List (Addr×Obj)}{σ:St}{H:Hp}{s:Shared}{fp:List Addr}(I:Inv X pins σ H s)(hf:∀b∈fp,Zf8 X pins H b)(ho:∀b∈fp,∃o,s.heap.get? b=some o∧∀v,o.data≠.cell v):Inv X (pins++Zgr fp s.heap) σ H s :=
 I.pins_of fun p hp=>(Qk.mp hp).elim (fun z=>I.pin p (Qz _ z)) fun z=>by
  obtain⟨hb,e⟩:=ZlV z
  obtain⟨f0,f1,f2,_⟩:=hf p.1 hb
  obtain⟨o,e',d⟩:=ho p.1 hb
  rw[e]at e';cases e'
  exact⟨e,f0,f1,f2,d⟩
theorem Inv.unpinned{pins pl:List (Addr×Obj)}{σ:St}{H:Hp}{s:Shared}(I:Inv X (pins++pl) σ H s):Inv X pins σ H s:=I.pins_of fun p hp=>I.pin p (Qz _ (QJ _ hp))
theorem ZbK{iter:Expr}{body:List Stmt}{wi:TI}{g:TG}{tb:TS}{pos:Pos}(hp:PassesOwn (model X.prog X.w) X.A X.env X.xe)(hc:X.calm=true)(hi:PI X tg iter wi)(hg:PG X tg g)(hb:PSs X body tb)
  (hs:∀x,foldedSetIterable iter X.env x=pure x:=by intro _;rfl):PS X (.For tg iter body [] pos) (Zsz wi g tb):=by
 intro pins s σ H D I h
 refine wpAny_For (thn (hi pins s σ H _ I h) fun v s1 h1=>thn h1 fun itv s2 h2=>?_) hs
 obtain⟨it,fp,tn,J,H2,e,I2,T,st2,f2,W,⟨m0,w0⟩,turn⟩:=h2
 subst e
 have stat:∀ {H':Hp},(∀b∈fp,H' b=none)→∀b∈fp,Zf8 X pins H' b:=fun hn b hb=>⟨hn b hb,(f2 b hb).2⟩
 refine codeAny_forLoop_any (fun n s'=>∃i σ' H',Inv X pins σ' H' s'∧tn i s'.heap∧(∀b∈fp,H' b=none)∧W i n σ' H') ?_ m0 ⟨0,σ,H2,I2,st2,fun b hb=>(f2 b hb).1,w0⟩
 rintro n s3 ⟨i,σ3,H3,I3,st3,fr3,w3⟩
 rcases turn i n σ3 H3 w3 with⟨stop,qn⟩|⟨go,N,hN,step⟩
 ·refine wpAny_passesOwn hp (thn (T.done X rfl rfl rfl hc i pins s3 σ3 H3 X.xe I3 (stat fr3) st3 stop) ?_)
  rintro r s4 ⟨hr,I4⟩
  subst hr
  exact wpAny_execs_nil ⟨σ3,H3,I4,qn⟩
 ·refine wpAny_passesOwn hp (thn (T.item X rfl rfl rfl hc i pins s3 σ3 H3 X.xe I3 (stat fr3) st3 go) ?_)
  rintro r s4 ⟨u,hr,h4⟩
  subst hr
  refine wpAny_passesOwn hp (thn h4 ?_)
  rintro _ s5 ⟨x,H5,I5,r5,y5,st5,fr5⟩
  have I5':=I5.pinned (stat fr5) (T.obj _ _ st5)
  refine wpAny_passesOwn hp (thn (hg _ s5 σ3 H5 x u _ I5' r5 (step x H5 y5)) ?_)
  rintro _ s6 ⟨σ6,H6,I6,q6⟩
  refine wpAny_passesOwn hp (thn (hb _ s6 σ6 H6 _ I6 q6) fun f s7 q7=>?_)
  have again:∀ {σ7:St} {H7:Hp},Inv X (pins++Zgr fp s5.heap) σ7 H7 s7→N σ7 H7→∃m,m<n∧∃i σ' H',Inv X pins σ' H' s7∧tn i s7.heap∧(∀b∈fp,H' b=none)∧W i m σ' H':=fun {σ7 H7} I7 n7=>by
   obtain⟨m',hm,w7⟩:=hN σ7 H7 n7
   refine⟨m',hm,i+1,σ7,H7,I7.unpinned,T.keep _ _ _ st5 fun b hb o e=>(I7.pin (b,o) (Qz _ (Qz _ (Zdx hb e)))).1,fun b hb=>?_,w7⟩
   obtain⟨o,e,d⟩:=T.obj _ _ st5 b hb
   exact(I7.pin (b,o) (Qz _ (Qz _ (Zdx hb e)))).2.1
  cases f with
  | next=>obtain⟨σ7,H7,I7,n7⟩:=q7;exact again I7 n7
  | cont=>obtain⟨σ7,H7,I7,n7⟩:=q7;exact again I7 n7
  | brk=>obtain⟨σ7,H7,I7,q7⟩:=q7;exact⟨σ7,H7,I7.unpinned,q7⟩
  | ret v=>obtain⟨x7,σ7,H7,I7,r7,q7⟩:=q7;exact⟨x7,σ7,H7,I7.unpinned,r7,q7⟩
end
theorem Zfe{K:PySem.W.Frag}{a:Addr}{xs:List V}{g:TG}{tb:TS}{D:Zf7}{σ:St}{H:Hp}(Pv:Nat→St→Hp→Prop)(h0:Pv 0 σ H)(hl:∀i σ H,i≤xs.length→Pv i σ H→SqL K H a xs)
  (hs:∀i x σ H,xs[i]? = some x→Pv i σ H→g x σ H fun σ2 H2=>tb { D with nx:=Pv (i+1),ct:=Pv (i+1),bk:=D.nx } σ2 H2) (hd:∀σ H,Pv xs.length σ H→D.nx σ H) :
  ∃W:Nat→Nat→St→Hp→Prop,(∃m,W 0 m σ H)∧∀i m σ H,W i m σ H →
   ((Itl K a).stop i H∧D.nx σ H)∨((Itl K a).go i H∧∃N:St→Hp→Prop,(∀σ' H',N σ' H'→∃m',m'<m∧W (i+1) m' σ' H')∧∀x H',(Itl K a).yld i H x H'→g x σ H' fun σ2 H2=>tb { D with nx:=N,ct:=N,bk:=D.nx } σ2 H2):=by
 refine⟨fun i m σ H=>m=xs.length-i∧i≤xs.length∧Pv i σ H,⟨xs.length,by simp,Qv _,h0⟩,?_⟩
 rintro i m σ H ⟨rfl,hi,p⟩
 have q:=hl i σ H hi p
 by_cases hlt:i<xs.length
 ·refine .inr ⟨⟨xs,xs[i],q,by simp[hlt]⟩,Pv (i+1),fun σ' H' p'=>⟨xs.length-(i+1),by omega,rfl,hlt,p'⟩,fun x H' y=>?_⟩
  obtain⟨e,y⟩:=y
  subst e
  exact hs i x σ _ (y xs q) p
 ·have e:i=xs.length:=by omega
  subst e
  exact .inl ⟨⟨xs,q,Qg _⟩,hd σ H p⟩
theorem ZbR{lo:Int}{n:Nat}{g:TG}{tb:TS}{D:Zf7}{σ:St}{H:Hp}(Pv:Nat→St→Hp→Prop)(h0:Pv 0 σ H)
  (hs:∀i σ H,i<n→Pv i σ H→g (.int (lo+i)) σ H fun σ2 H2=>tb { D with nx:=Pv (i+1),ct:=Pv (i+1),bk:=D.nx } σ2 H2) (hd:∀σ H,Pv n σ H→D.nx σ H) :
  ∃W:Nat→Nat→St→Hp→Prop,(∃m,W 0 m σ H)∧∀i m σ H,W i m σ H →
   ((Itr lo n).stop i H∧D.nx σ H)∨((Itr lo n).go i H∧∃N:St→Hp→Prop,(∀σ' H',N σ' H'→∃m',m'<m∧W (i+1) m' σ' H')∧∀x H',(Itr lo n).yld i H x H'→g x σ H' fun σ2 H2=>tb { D with nx:=N,ct:=N,bk:=D.nx } σ2 H2):=by
 refine⟨fun i m σ H=>m=n-i∧i≤n∧Pv i σ H,⟨n,by simp,Qv _,h0⟩,?_⟩
 rintro i m σ H ⟨rfl,hi,p⟩
 by_cases hlt:i<n
 ·refine .inr ⟨hlt,Pv (i+1),fun σ' H' p'=>⟨n-(i+1),by omega,rfl,hlt,p'⟩,fun x H' y=>?_⟩
  obtain⟨e,y⟩:=y
  subst e y
  exact hs i σ _ hlt p
 ·have e:i=n:=by omega
  subst e
  exact .inl ⟨Qg _,hd σ H p⟩
abbrev R2:=V→V→Hp→VK→Prop
def OpR(X:Cx)(f:Value→Value→Sem Value)(r:R2):Prop :=
 ∀ (pins:List (Addr×Obj)) (s:Shared) (σ:St) (H:Hp) (x y:V) (v u:Value) (Q:VK),Inv X pins σ H s→ZI x v→ZI y u→r x y H Q →
  wpAny (model X.prog X.w) X.A (f v u) (EP X pins σ Q) X.xe s
def UnR(X:Cx)(f:Value→Sem Value)(r:V→Hp→VK→Prop):Prop :=
 ∀ (pins:List (Addr×Obj)) (s:Shared) (σ:St) (H:Hp) (x:V) (v:Value) (Q:VK),Inv X pins σ H s→ZI x v→r x H Q →
  wpAny (model X.prog X.w) X.A (f v) (EP X pins σ Q) X.xe s
def ZaH(X:Cx)(f:Value)(r:List V→Hp→VK→Prop):Prop :=
 ∀ (pins:List (Addr×Obj)) (s:Shared) (σ:St) (H:Hp) (xs:List V) (us:List Value) (Q:VK),Inv X pins σ H s→ZG xs us→r xs H Q →
  wpAny (model X.prog X.w) X.A (call f us) (EP X pins σ Q) X.xe s
def TruR(X:Cx)(r:V→Hp→(Bool→Hp→Prop)→Prop):Prop :=
 ∀ (pins:List (Addr×Obj)) (s:Shared) (σ:St) (H:Hp) (x:V) (v:Value) (Q:Bool→Hp→Prop),Inv X pins σ H s→ZI x v→r x H Q →
  wpAny (model X.prog X.w) X.A (truthy v) (TP X pins σ Q) X.xe s
def tOp(r:R2)(ta tb:TE):TE:=fun σ H Q=>ta σ H fun x H1=>tb σ H1 fun y H2=>r x y H2 Q
def tUn(r:V→Hp→VK→Prop)(ta:TE):TE:=fun σ H Q=>ta σ H fun x H1=>r x H1 Q
def rI(C:Int→Int→Prop)(g:Int→Int→V):R2:=fun x y H Q=>∃i j,x=.int i∧y=.int j∧C i j∧Q (g i j) H
def rI0(g:Int→Int→V):R2:=fun x y H Q=>∃i j,x=.int i∧y=.int j∧Q (g i j) H
def rU(g:Int→V):V→Hp→VK→Prop:=fun x H Q=>∃i,x=.int i∧Q (g i) H
section
variable {X:Cx} {a b c:Expr} {ta tb tc:TE} {pos:Pos}
theorem Zqu(ha:PE X a ta)(hb:PE X b tb){pins:List (Addr×Obj)}{s:Shared}{σ:St}{H:Hp}{R:V→V→Hp→Prop}(I:Inv X pins σ H s)
  (h:ta σ H fun x H1=>tb σ H1 fun y H2=>R x y H2) {Q:Value→Shared→Prop} {f:Value→Value→Sem Value}
  (hf:∀v u s2 x y H2,Inv X pins σ H2 s2→ZI x v→ZI y u→R x y H2→wpAny (model X.prog X.w) X.A (f v u) Q X.xe s2) :
  wpAny (model X.prog X.w) X.A (eval a X.env) (fun v s₁=>wpAny (model X.prog X.w) X.A (eval b X.env) (fun u s₂=>wpAny (model X.prog X.w) X.A (f v u) Q X.xe s₂) X.xe s₁) X.xe s:=by
 refine thn (ha pins s σ H _ I h) ?_
 rintro v s1 ⟨x,H1,I1,r1,q1⟩
 refine thn (hb pins s1 σ H1 _ I1 q1) ?_
 rintro u s2 ⟨y,H2,I2,r2,q2⟩
 exact hf v u s2 x y H2 I2 r1 r2 q2
theorem ZE{op:Operator}{r:R2}(ho:OpR X (binaryOp op) r)(ha:PE X a ta)(hb:PE X b tb):PE X (.BinOp a op b pos) (tOp r ta tb):=by
 intro pins s σ H Q I h
 exact wpAny_BinOp (Zqu ha hb I h fun v u s2 x y H2 I2 rx ry q=>ho pins s2 σ H2 x y v u Q I2 rx ry q)
theorem Zg1{op:UnaryOp}{r:V→Hp→VK→Prop}(ho:UnR X (unaryOp op) r)(ha:PE X a ta):PE X (.UnaryOp op a pos) (tUn r ta):=by
 intro pins s σ H Q I h
 exact UnaryOp_ (thn (ha pins s σ H _ I h) fun v s1 ⟨x,H1,I1,r1,q1⟩=>ho pins s1 σ H1 x v Q I1 r1 q1)
theorem opI{f:Value→Value→Sem Value}{C:Int→Int→Prop}{g:Int→Int→Int}
  (rule:∀ (i j:Int) (t u:Tok) (s:Shared) (Q:Value→Shared→Prop) (E:Value→Shared→Prop),C i j→Q (.int (g i j) s.toks) { s with toks:=s.toks+1 }→wpAny (model X.prog X.w) X.A (f (.int i t) (.int j u)) Q E s) :
  OpR X f (rI C fun i j=>.int (g i j)):=by
 intro pins s σ H x y v u Q I rx ry h
 obtain⟨i,j,rfl,rfl,hc,q⟩:=h
 obtain⟨t,rfl⟩:=rx
 obtain⟨t',rfl⟩:=ry
 exact rule i j t t' s _ _ hc ⟨.int (g i j),H,I.tok _,⟨_,rfl⟩,q⟩
theorem Zsj{f:Value→Value→Sem Value}{g:Int→Int→Int}
  (rule:∀ (i j:Int) (t u:Tok) (s:Shared) (Q:Value→Shared→Prop) (E:Value→Shared→Prop),Q (.int (g i j) s.toks) { s with toks:=s.toks+1 }→wpAny (model X.prog X.w) X.A (f (.int i t) (.int j u)) Q E s) :
  OpR X f (rI0 fun i j=>.int (g i j)):=by
 intro pins s σ H x y v u Q I rx ry h
 obtain⟨i,j,rfl,rfl,q⟩:=h
 obtain⟨t,rfl⟩:=rx
 obtain⟨t',rfl⟩:=ry
 exact rule i j t t' s _ _ ⟨.int (g i j),H,I.tok _,⟨_,rfl⟩,q⟩
theorem Zqx{f:Value→Value→Sem Value}{g:Int→Int→Bool}
  (rule:∀ (i j:Int) (t u:Tok) (s:Shared) (Q:Value→Shared→Prop) (E:Value→Shared→Prop),Q (.bool (g i j)) s→wpAny (model X.prog X.w) X.A (f (.int i t) (.int j u)) Q E s) :
  OpR X f (rI0 fun i j=>.bl (g i j)):=by
 intro pins s σ H x y v u Q I rx ry h
 obtain⟨i,j,rfl,rfl,q⟩:=h
 obtain⟨t,rfl⟩:=rx
 obtain⟨t',rfl⟩:=ry
 exact rule i j t t' s _ _ ⟨.bl (g i j),H,I,rfl,q⟩
def ZsX(i j:Int):Prop:=0<j∧j<1073741824
def CDivN(i j:Int):Prop:=j≠0∧j.natAbs<1073741824
def Zrv(i j:Int):Prop:=0≤j∧j≤1000000∧i.natAbs<2 ^ 64
def Zqq(i j:Int):Prop:=(-(2 ^ 64)<i∧i<2 ^ 64)∨(-(2 ^ 64)<j∧j<2 ^ 64)
theorem Zqq.ok{i j:Int}(h:Zqq i j):IntMulOk i j:=by
 rcases h with⟨h1,h2⟩|⟨h1,h2⟩
 ·exact .of_left (intBits_le_64 h1 h2)
 ·exact .of_right (intBits_le_64 h1 h2)
theorem Zah:OpR X (binaryOp .Add) (rI0 fun i j=>.int (i+j)):=Zsj fun _ _ _ _ _ _ _ q=>add_int q
theorem ZeZ:OpR X (binaryOp .Sub) (rI0 fun i j=>.int (i-j)):=Zsj fun _ _ _ _ _ _ _ q=>sub_int q
theorem ZdT:OpR X (binaryOp .Mult) (rI Zqq fun i j=>.int (i*j)):=opI fun _ _ _ _ _ _ _ hc q=>mul_int q hc.ok
theorem Zgf:OpR X (binaryOp .FloorDiv) (rI ZsX fun i j=>.int (i / j)):=opI fun i j _ _ _ _ _ hc q=>by
 have h1:(0:Int)<j:=hc.1
 have h2:j<1073741824:=hc.2
 exact floordiv_int (by omega) (by rw[Int.fdiv_eq_ediv_of_nonneg i (by omega)];exact q) (.inl (PyProof.noPylong_small (by omega)))
theorem ZeQ:OpR X (binaryOp .Mod) (rI (fun _ j=>0<j) fun i j=>.int (i % j)):=opI fun i j _ _ _ _ _ hc q=>by
 have h1:(0:Int)<j:=hc
 exact mod_int' (by omega) (by rw[Int.fmod_eq_emod_of_nonneg i (by omega)];exact q)
theorem ZnV:OpR X (binaryOp .Pow) (rI Zrv fun i j=>.int (i ^ j.toNat)):=opI fun _ _ _ _ _ _ _ hc q=>pow_int_small hc.1 hc.2.1 hc.2.2 q
theorem unI{f:Value→Sem Value}{g:Int→Int}
  (rule:∀ (i:Int) (t:Tok) (s:Shared) (Q:Value→Shared→Prop) (E:Value→Shared→Prop),Q (.int (g i) s.toks) { s with toks:=s.toks+1 }→wpAny (model X.prog X.w) X.A (f (.int i t)) Q E s) :
  UnR X f (rU fun i=>.int (g i)):=by
 intro pins s σ H x v Q I rx h
 obtain⟨i,rfl,q⟩:=h
 obtain⟨t,rfl⟩:=rx
 exact rule i t s _ _ ⟨.int (g i),H,I.tok _,⟨_,rfl⟩,q⟩
theorem ZeU:UnR X (unaryOp .USub) (rU fun i=>.int (-i)):=unI fun _ _ _ _ _ q=>neg_int q
end
def ZrK:V→V→Bool
 | .non,.non=>true|.non,.int _=>true|.int _,.non=>true|.non,.bl _=>true|.bl _,.non=>true|.non,.str _=>true|.str _,.non=>true
 | .int _,.int _=>true|.bl _,.bl _=>true|.str _,.str _=>true|.byt _,.byt _=>true
 | .int _,.str _=>true|.str _,.int _=>true|.bl _,.str _=>true|.str _,.bl _=>true
 | _,_=>false
def rEq:R2:=fun x y H Q=>ZrK x y=true∧Q (.bl (decide (x=y))) H
def rNe:R2:=fun x y H Q=>ZrK x y=true∧Q (.bl (!decide (x=y))) H
theorem Zlt{i j:Int}:decide (V.int i=V.int j)=(i == j):=by
 rw[QaK]
 simp
theorem ZnZ{i j:Bool}:decide (V.bl i=V.bl j)=(i == j):=by
 rw[QaK]
 simp
theorem Zlq{i j:Str}:decide (V.str i=V.str j)=(i == j):=by
 rw[QaK]
 simp
theorem Zk1{i j:Array UInt8}:decide (V.byt i=V.byt j)=(i.toList == j.toList):=by
 rw[QaK]
 cases i
 cases j
 simp
section
variable {X:Cx} {a b c:Expr} {ta tb tc:TE} {pos:Pos}
theorem ZV{pins:List (Addr×Obj)}{σ:St}{H:Hp}{s:Shared}{Q:VK}{k k':Bool}(I:Inv X pins σ H s)(q:Q (.bl k) H)(e:k=k'):EP X pins σ Q (.bool k') s:=by
 subst e
 exact⟨.bl k,H,I,rfl,q⟩
theorem Za7:OpR X (compareOp .Eq) rEq:=by
 intro pins s σ H x y v u Q I rx ry h
 obtain⟨hs,q⟩:=h
 cases x with
 | non =>
  cases rx
  cases y with
  | non=>cases ry;exact PySem.EqNone.eq_none_none (ZV I q (by simp))
  | bl j=>cases ry;exact PySem.EqNone.eq_none_bool (ZV I q (by simp))
  | int j=>obtain⟨t',rfl⟩:=ry;exact PySem.EqNone.eq_none_int (ZV I q (by simp))
  | str j=>obtain⟨t',rfl⟩:=ry;exact PySem.EqNone.eq_none_str (ZV I q (by simp))
  | _=>exact absurd (show false=true from hs) Qm
 | bl i =>
  cases rx
  cases y with
  | non=>cases ry;exact PySem.EqNone.eq_bool_none (ZV I q (by simp))
  | bl j=>cases ry;exact eq_bool (ZV I q ZnZ)
  | str j=>obtain⟨t',rfl⟩:=ry;exact PySem.EqMixed.eq_bool_str (ZV I q (by simp))
  | _=>exact absurd (show false=true from hs) Qm
 | int i =>
  obtain⟨t,rfl⟩:=rx
  cases y with
  | non=>cases ry;exact PySem.EqNone.eq_int_none (ZV I q (by simp))
  | int j=>obtain⟨t',rfl⟩:=ry;exact eq_int (ZV I q Zlt)
  | str j=>obtain⟨t',rfl⟩:=ry;exact PySem.EqMixed.eq_int_str (ZV I q (by simp))
  | _=>exact absurd (show false=true from hs) Qm
 | str i =>
  obtain⟨t,rfl⟩:=rx
  cases y with
  | non=>cases ry;exact PySem.EqNone.eq_str_none (ZV I q (by simp))
  | bl j=>cases ry;exact PySem.EqMixed.eq_str_bool (ZV I q (by simp))
  | int j=>obtain⟨t',rfl⟩:=ry;exact PySem.EqMixed.eq_str_int (ZV I q (by simp))
  | str j=>obtain⟨t',rfl⟩:=ry;exact eq_str (ZV I q Zlq)
  | _=>exact absurd (show false=true from hs) Qm
 | byt i =>
  obtain⟨t,rfl⟩:=rx
  cases y with
  | byt j=>obtain⟨t',rfl⟩:=ry;exact PySem.W.eq_bytes (ZV I q Zk1)
  | _=>exact absurd (show false=true from hs) Qm
 | _=>cases y<;>exact absurd (show false=true from hs) Qm
theorem Zp1:OpR X (compareOp .NotEq) rNe:=by
 intro pins s σ H x y v u Q I rx ry h
 obtain⟨hs,q⟩:=h
 cases x with
 | non =>
  cases rx
  cases y with
  | non=>cases ry;exact PySem.EqNone.ne_none_none (ZV I q (by simp))
  | bl j=>cases ry;exact PySem.EqNone.ne_none_bool (ZV I q (by simp))
  | int j=>obtain⟨t',rfl⟩:=ry;exact PySem.EqNone.ne_none_int (ZV I q (by simp))
  | str j=>obtain⟨t',rfl⟩:=ry;exact PySem.EqNone.ne_none_str (ZV I q (by simp))
  | _=>exact absurd (show false=true from hs) Qm
 | bl i =>
  cases rx
  cases y with
  | non=>cases ry;exact PySem.EqNone.ne_bool_none (ZV I q (by simp))
  | bl j=>cases ry;exact ne_bool (ZV I q (congrArg not ZnZ))
  | str j=>obtain⟨t',rfl⟩:=ry;exact PySem.EqMixed.ne_bool_str (ZV I q (by simp))
  | _=>exact absurd (show false=true from hs) Qm
 | int i =>
  obtain⟨t,rfl⟩:=rx
  cases y with
  | non=>cases ry;exact PySem.EqNone.ne_int_none (ZV I q (by simp))
  | int j=>obtain⟨t',rfl⟩:=ry;exact ne_int (ZV I q (congrArg not Zlt))
  | str j=>obtain⟨t',rfl⟩:=ry;exact PySem.EqMixed.ne_int_str (ZV I q (by simp))
  | _=>exact absurd (show false=true from hs) Qm
 | str i =>
  obtain⟨t,rfl⟩:=rx
  cases y with
  | non=>cases ry;exact PySem.EqNone.ne_str_none (ZV I q (by simp))
  | bl j=>cases ry;exact PySem.EqMixed.ne_str_bool (ZV I q (by simp))
  | int j=>obtain⟨t',rfl⟩:=ry;exact PySem.EqMixed.ne_str_int (ZV I q (by simp))
  | str j=>obtain⟨t',rfl⟩:=ry;exact ne_str (ZV I q (congrArg not Zlq))
  | _=>exact absurd (show false=true from hs) Qm
 | byt i =>
  obtain⟨t,rfl⟩:=rx
  cases y with
  | byt j=>obtain⟨t',rfl⟩:=ry;exact PySem.W.ne_bytes (ZV I q (congrArg not Zk1))
  | _=>exact absurd (show false=true from hs) Qm
 | _=>cases y<;>exact absurd (show false=true from hs) Qm
theorem ZeF:OpR X (compareOp .Lt) (rI0 fun i j=>.bl (decide (i<j))):=Zqx fun _ _ _ _ _ _ _ q=>lt_int q
theorem ZfZ:OpR X (compareOp .Gt) (rI0 fun i j=>.bl (decide (j<i))):=Zqx fun _ _ _ _ _ _ _ q=>gt_int q
theorem ZpY:OpR X (compareOp .GtE) (rI0 fun i j=>.bl (decide (j≤i))):=Zqx fun _ _ _ _ _ _ _ q=>ge_int q
theorem ZlF:OpR X (compareOp .Lt) (fun x y H Q=>∃i j,x=.str i∧y=.str j∧Q (.bl (decide (i.cps.toList<j.cps.toList))) H):=by
 intro pins s σ H x y v u Q I rx ry h
 obtain⟨i,j,rfl,rfl,q⟩:=h
 obtain⟨t,rfl⟩:=rx
 obtain⟨t',rfl⟩:=ry
 exact lt_str (ZV I q rfl)
theorem Zbw:OpR X (compareOp .Is) (fun x y H Q=>y=.non∧Q (.bl (decide (x=.non))) H):=by
 intro pins s σ H x y v u Q I rx ry h
 obtain⟨rfl,q⟩:=h
 cases ry
 refine is_none_gen (ZV I q ?_)
 cases x<;>first
  | (cases rx;rfl)
  | (obtain⟨t,rfl⟩:=rx;rfl)
theorem Zes:OpR X (compareOp .IsNot) (fun x y H Q=>y=.non∧Q (.bl (!decide (x=.non))) H):=by
 intro pins s σ H x y v u Q I rx ry h
 obtain⟨rfl,q⟩:=h
 cases ry
 refine isnot_none_gen (ZV I q ?_)
 cases x<;>first
  | (cases rx;rfl)
  | (obtain⟨t,rfl⟩:=rx;rfl)
def isObj:HO→Bool
 | .lst _=>true
 | .ins _ _ _=>true
 | _=>false
theorem Zs(b:Expr){op:CmpOp}(h:op≠.In:=by decide)(h2:op≠.NotIn:=by decide):behindInMarks op b=false:=by
 have e1:(op == CmpOp.In)=false:=by cases op<;>first|rfl|exact absurd rfl h
 have e2:(op == CmpOp.NotIn)=false:=by cases op<;>first|rfl|exact absurd rfl h2
 cases b<;>simp[behindInMarks,e1,e2]
theorem Za5{op:CmpOp}{r:R2}(ho:OpR X (compareOp op) r)(ha:PE X a ta)(hb:PE X b tb)(hm:behindInMarks op b=false):PE X (.Compare a [op] [b] pos) (tOp r ta tb):=by
 intro pins s σ H Q I h
 exact wpAny_Compare1 (Zqu ha hb I h fun v u s2 x y H2 I2 rx ry q=>ho pins s2 σ H2 x y v u Q I2 rx ry q) hm
def ZrI(t:TE):TT:=fun σ H Q=>t σ H fun x H'=>∃k,x=.bl k∧Q k H'
theorem Zo{op:CmpOp}{r:R2}(ho:OpR X (compareOp op) r)(ha:PE X a ta)(hb:PE X b tb)(hm:behindInMarks op b=false):PT X (.Compare a [op] [b] pos) (ZrI (tOp r ta tb)):=by
 intro pins s σ H Q I h
 refine wpAny_isTrue_Compare1 (thn (ha pins s σ H _ I h) fun v s1 ⟨x,H1,I1,r1,q1⟩=>thn (hb pins s1 σ H1 _ I1 q1) fun u s2 ⟨y,H2,I2,r2,q2⟩=>
  thn (ho pins s2 σ H2 x y v u _ I2 r1 r2 q2) fun c s3 ⟨z,H3,I3,r3,k,e,q3⟩=>?_) hm
 subst e
 cases r3
 exact wpAny_truthy_bool ⟨H3,I3,q3⟩
def tChain(r r':R2)(ta tb tc:TE):TE:=fun σ H Q=>ta σ H fun x H1=>tb σ H1 fun y H2=>r x y H2 fun z H3=>∃k,z=.bl k ∧
 (if k=true then tc σ H3 fun w' H4=>r' y w' H4 Q else Q (.bl false) H3)
def ZsA(K:PySem.W.Frag)(x:V)(H:Hp)(k:Bool):Prop :=
 match x with
 | .non=>k=false
 | .bl b=>k=b
 | .int i=>k=(i != 0)
 | .str y=>y.length≤sizeLine∧k=((y.length:Int) != 0)
 | .byt y=>y.size≤sizeLine∧k=((y.size:Int) != 0)
 | .ref p=>(∃xs,SqL K H p xs∧k = !xs.isEmpty)∨(∃xs,SqT K H p xs∧k = !xs.isEmpty)∨∃kvs,H p=some (.dK kvs)∧k = !kvs.isEmpty
 | _=>False
theorem ZfT:(sizeLine:Nat)<2 ^ 63:=by rw[sizeLine_eq];decide
theorem Zg2:OpR X (binaryOp .Add) (fun x y H Q=>∃i j,x=.str i∧y=.str j∧i.length+j.length≤sizeLine∧Q (.str (i++j)) H):=by
 intro pins s σ H x y v u Q I rx ry h
 obtain⟨i,j,rfl,rfl,hz,q⟩:=h
 obtain⟨t,rfl⟩:=rx
 obtain⟨t',rfl⟩:=ry
 exact add_str (fun t' tk=>⟨.str (i++j),H,I.tok _,⟨_,rfl⟩,q⟩) hz
def PlainIxT(b:Expr):Prop:=∀o i,subscripted b false o i=operate [o,i] (getItem o i)
theorem Zdd{x:V}{us:List Value}(r:ZG [x] us):∃u,us=[u]∧ZI x u:=by
 cases r with
 | cons r1 r2=>cases r2;exact⟨_,rfl,r1⟩
theorem Zlk{x y:V}{us:List Value}(r:ZG [x,y] us):∃u w',us=[u,w']∧ZI x u∧ZI y w':=by
 cases r with
 | cons r1 r2 =>
  cases r2 with
  | cons r3 r4=>cases r4;exact⟨_,_,rfl,r1,r3⟩
theorem ZjF:ZaH X (.builtin "abs") (fun xs H Q=>∃i,xs=[.int i]∧Q (.int (if i<0 then -i else i)) H):=by
 intro pins s σ H xs us Q I r h
 obtain⟨i,rfl,q⟩:=h
 obtain⟨u,rfl,t,rfl⟩:=Zdd r
 exact call_abs_int fun u tk=>⟨.int (if i<0 then -i else i),H,I.tok _,⟨_,rfl⟩,q⟩
theorem Zh0(hc:X.calm=true):ZaH X (.builtin "max") (fun xs H Q=>∃i j,xs=[.int i,.int j]∧Q (.int (if j>i then j else i)) H):=by
 intro pins s σ H xs us Q I r h
 obtain⟨i,j,rfl,q⟩:=h
 obtain⟨u,w',rfl,⟨t,rfl⟩,⟨t',rfl⟩⟩:=Zlk r
 refine max_two_ints (I.ok.hd hc) fun h' tk k=>⟨_,H,I.kept k,?_,q⟩
 by_cases hj:j>i
 ·rw[if_pos hj,if_pos hj];exact⟨_,rfl⟩
 ·rw[if_neg hj,if_neg hj];exact⟨_,rfl⟩
theorem Zmn(hc:X.calm=true):ZaH X (.builtin "min") (fun xs H Q=>∃i j,xs=[.int i,.int j]∧Q (.int (if j<i then j else i)) H):=by
 intro pins s σ H xs us Q I r h
 obtain⟨i,j,rfl,q⟩:=h
 obtain⟨u,w',rfl,⟨t,rfl⟩,⟨t',rfl⟩⟩:=Zlk r
 refine min_two_ints (I.ok.hd hc) fun h' tk k=>⟨_,H,I.kept k,?_,q⟩
 by_cases hj:j<i
 ·rw[if_pos hj,if_pos hj];exact⟨_,rfl⟩
 ·rw[if_neg hj,if_neg hj];exact⟨_,rfl⟩
theorem Zft:ZaH X (.type "int") (fun xs H Q=>(∃i,xs=[.int i]∧Q (.int i) H)∨∃k,xs=[.bl k]∧Q (.int (if k then 1 else 0)) H):=by
 intro pins s σ H xs us Q I r h
 rcases h with⟨i,rfl,q⟩|⟨k,rfl,q⟩
 ·obtain⟨u,rfl,t,rfl⟩:=Zdd r
  exact call_int_int ⟨.int i,H,I,⟨_,rfl⟩,q⟩
 ·obtain⟨u,rfl,r1⟩:=Zdd r
  cases r1
  exact call_int_bool ⟨.int (if k then 1 else 0),H,I.tok _,⟨_,rfl⟩,q⟩
def LenV(K:PySem.W.Frag)(x:V)(H:Hp)(n:Nat):Prop :=
 match x with
 | .str y=>y.length≤sizeLine∧n=y.length
 | .byt y=>y.size≤sizeLine∧n=y.size
 | .ref p=>(∃xs,SqL K H p xs∧n=xs.length)∨∃xs,SqT K H p xs∧n=xs.length
 | _=>False
end
structure Zkx (h:Heap) (x dx C:Addr) (mA:Str→Option Value):Prop where
 obj:h.get? x=some (PySem.W.instObj C dx)
 ns:h.Ns1 dx mA
 ne:dx≠x
theorem ZlU{h:Heap}{dx:Addr}{mA:Str→Option Value}(n:h.Ns1 dx mA):∃od,h.get? dx=some od∧∀name,PySem.W.lookIn name od=some (mA name):=by
 obtain⟨o,es,ep,ho,hd,hk,_,hm⟩:=n
 refine⟨o,ho,fun name=>?_⟩
 have e:=hm name
 unfold nsFind findBy at e
 rw[← Array.find?_toList]at e
 unfold PySem.W.lookIn
 rw[hd]
 dsimp only
 split
 ·rename_i y q
  rw[q]at e
  exact congrArg some e
 ·rename_i q
  rw[q]at e
  have a:es.toList.any (·.refKey)=false:=by
   rw[List.any_eq_false]
   intro y hy
   obtain⟨z,t,hkey⟩:=hk y (Array.mem_toList_iff.mp hy)
   simp[DictEntry.refKey,hkey]
  have a':¬ es.toList.any (·.refKey)=true:=by rw[a];exact Qm
  rw[if_neg a']
  exact congrArg some e
theorem Zkx.look{h:Heap}{x dx C:Addr}{mA:Str→Option Value}(I:Zkx h x dx C mA):∃od,PySem.W.InstAt h x (PySem.W.instObj C dx) C (some od)∧∀name,PySem.W.lookIn name od=some (mA name) :=
 let ⟨od,ho,hl⟩:=ZlU I.ns
 ⟨od,⟨I.obj,rfl,rfl,ho⟩,hl⟩
section
variable {prog:Program} {w:World} {A:Around} {E:Value→Shared→Prop} {s:Shared} {K:PySem.W.Frag} {x dx C f:Addr} {mA:Str→Option Value} {name:Str} {v:Value}
theorem Zps{expr:Bool}{Q:Value→Shared→Prop}(X:K.In s.heap)(I:Zkx s.heap x dx C mA)(hg:PySem.W.plainGet K C name=true)(hh:PySem.W.hasDictIn K C=true)
  (ha:PySem.W.findIn K (.ref C) name=some none) (hv:mA name=some v) (hv':PySem.W.handedIn v=true) (h:Q v { s with toks:=s.toks+1 }) :
  wpAny (model prog w) A (getAttr (.ref x) name expr) Q E s:=by
 obtain⟨od,J,hl⟩:=I.look
 exact PySem.W.get_value X J (PySem.W.plainGet_of hg).1 (PySem.W.findObj_own hh ha rfl (by rw[hl,hv])) hv' h
theorem Zm4{pl:Sem Bool}{Q:Value×List Value→Shared→Prop}(X:K.In s.heap)(I:Zkx s.heap x dx C mA)(hg:PySem.W.plainGet K C name=true)
  (hf:PySem.W.findIn K (.ref C) name=some (some (.ref f))) (ht:PySem.W.isFn K (.ref f)=true) (hv:mA name=none) (h:Q (.ref f,[.ref x]) s) :
  wpAny (model prog w) A (getMethod (.ref x) name pl) Q E s:=by
 obtain⟨od,J,hl⟩:=I.look
 exact PySem.W.method_fn X J (PySem.W.plainGet_of hg).1 (PySem.W.plainGet_of hg).2 hf (beq_iff_eq.mp ht) (by show (PySem.W.lookIn name od).map (·.isSome)=some false;rw[hl,hv];rfl) h
theorem Zor{ns:List Str}{Q:Unit→Shared→Prop}(X:K.In s.heap)(I:Zkx s.heap x dx C mA)
  (hs:PySem.W.findIn K (.ref C) "__setattr__" = some (some (.builtin "object.__setattr__"))) (hp:PySem.W.plainOver K C=true) (ht:PySem.W.takerIn K C name=some none) (hh:PySem.W.hasDictIn K C=true)
  (hw:PySem.Within mA ns) (hsz:ns.length≤sizeLine)
  (h:∀h',Zkx h' x dx C (fun y=>if y=name then some v else mA y)→Heap.SameBut dx s.heap h'→Q () { s with heap:=h',toks:=s.toks+2 }) :
  wpAny (model prog w) A (setAttr (.ref x) name v) Q E s:=by
 obtain⟨od,J,hl⟩:=I.look
 refine PySem.W.set_plain X J hs (PySem.W.osa_open (s:={ s with toks:=s.toks+1 }) (r:=none) X J hp ht fun b=>?_)
 obtain⟨cd,hc,hd'⟩:=PySem.W.any_some hh
 have hx:s.heap.get? x=some ⟨.ref C,some dx,.plain,#[]⟩:=I.obj
 refine wpAny_bind (wpAny_pure (wpAny_bind (wpAny_bind (wpAny_loadPart hx (wpAny_bind (PySem.W.Looks.here (s:={ s with toks:=s.toks+1 }) (PySem.W.looks_clsIn X hc) ?_))))))
 rw[hd']
 refine wpAny_pure (a:=some dx) (wpAny_bind (wpAny_pure (wpAny_bind ?_)))
 refine wpAny_nsSet1 (s:={ s with toks:=s.toks+1 }) I.ns fun h' hn2 hs2=>?_
 obtain⟨oD,esD,epD,hoD,hdD,hcD⟩:=hn2.count (PySem.Within.cons name v hw)
 refine wpAny_bind (wpAny_lookBehind hoD (by rw[hdD];exact pastItsLine_dict (Qy hcD (by rw[QK];omega))) ?_)
 exact wpAny_pure (h _ ⟨(hs2.2 _ (Ne.symm I.ne)).trans I.obj,hn2,I.ne⟩ hs2)
theorem Zmw{R:Result→Shared→Prop}{vs:List Value}{kw:List (Str×Value)}(X:K.In s.heap)(hm:PySem.W.makesIn K C=true)
  (hi:PySem.W.findIn K (.ref C) "__init__" = some (some (.ref f))) (hf:PySem.W.typeIn K (.ref f)=some (.type "function"))
  (h:codeAny (model prog w) (A.under (.builtin "type.__call__" ⟨.ref C::vs,kw⟩)) (.call (.ref f) ⟨.ref (s.heap.objs.size+1)::vs,kw⟩) (PySem.W.InitBack (s.heap.objs.size+1) R)
   { s with heap:=(s.heap.push PySem.W.emptyDict).push (PySem.W.instObj C s.heap.objs.size) }) :
  codeAny (model prog w) A (.call (.ref C) ⟨vs,kw⟩) R s:=by
 obtain⟨hh,g,d,t,os⟩:=s
 exact PySem.W.make_core (PySem.W.makes_of X hm) (PySem.W.looks_findIn X hi) (fun self=>PySem.W.bind_fn X self hf) (.inl rfl) h
end
def Zt(f:Str)(v:V):List (Str×V)→List (Str×V)
 | []=>[(f,v)]
 | (g,x)::r=>if g=f then (g,v)::r else (g,x)::Zt f v r
theorem Zl(f g:Str)(v:V):∀fs:List (Str×V),(Zt f v fs).lookup g=if g=f then some v else fs.lookup g
 | []=>by
  show List.lookup g [(f,v)]=_
  by_cases h:g=f
  ·have hb:(g == f)=true:=beq_iff_eq.mpr h
   simp only[List.lookup,hb,if_pos h]
  ·have hb:(g == f)=false:=beq_eq_false_iff_ne.mpr h
   simp only[List.lookup,hb,if_neg h]
 | (k,x)::r=>by
  have ih:=Zl f g v r
  rw[show Zt f v ((k,x)::r)=(if k=f then (k,v)::r else (k,x)::Zt f v r) from rfl]
  by_cases hk:k=f
  ·rw[if_pos hk]
   by_cases h:g=k
   ·have hb:(g == k)=true:=beq_iff_eq.mpr h
    simp only[List.lookup,hb,if_pos (h.trans hk)]
   ·have hb:(g == k)=false:=beq_eq_false_iff_ne.mpr h
    simp only[List.lookup,hb,if_neg (fun e:g=f=>h (e.trans hk.symm))]
  ·rw[if_neg hk]
   by_cases h:g=k
   ·have hb:(g == k)=true:=beq_iff_eq.mpr h
    simp only[List.lookup,hb,if_neg (fun e:g=f=>hk (h.symm.trans e))]
   ·have hb:(g == k)=false:=beq_eq_false_iff_ne.mpr h
    simp only[List.lookup,hb]
    exact ih
theorem ZfH(f:Str)(v:V):∀fs:List (Str×V),f∈(Zt f v fs).map (·.1)∧∀g,g∈fs.map (·.1)→g∈(Zt f v fs).map (·.1)
 | []=>⟨by simp[Zt],fun g h=>by simp at h⟩
 | (k,x)::r=>by
  obtain⟨i1,i2⟩:=ZfH f v r
  rw[show Zt f v ((k,x)::r)=(if k=f then (k,v)::r else (k,x)::Zt f v r) from rfl]
  by_cases hk:k=f
  ·rw[if_pos hk]
   subst hk
   exact⟨by simp,fun g h=>by simpa using h⟩
  ·rw[if_neg hk]
   refine⟨?_,fun g h=>?_⟩
   ·rw[Qh]
    exact Qu _ i1
   ·rw[Qh]at h ⊢
    rcases QI.mp h with e|e
    ·exact List.mem_cons.mpr (.inl e)
    ·exact Qu _ (i2 g e)
theorem ZfW(f:Str)(v:V):∀fs:List (Str×V),(Zt f v fs).length≤fs.length+1
 | []=>by simp[Zt]
 | (k,x)::r=>by
  have ih:=ZfW f v r
  rw[show Zt f v ((k,x)::r)=(if k=f then (k,v)::r else (k,x)::Zt f v r) from rfl]
  by_cases hk:k=f
  ·rw[if_pos hk,QK,QK];omega
  ·rw[if_neg hk,QK,QK];omega
theorem ZdA.some_of{v:V}{o:Option Value}(r:ZdA (some v) o):∃u,o=some u∧ZI v u:=by
 cases o with
 | none=>exact(show False from r).elim
 | some u=>exact⟨u,rfl,r⟩
theorem ZdA.none_of{o:Option Value}(r:ZdA none o):o=none:=by
 cases o with
 | none=>rfl
 | some u=>exact(show False from r).elim
theorem Zl9{v:V}{u:Value}(r:ZI v u):PySem.W.handedIn u=true:=by
 cases v with
 | non=>cases (show u=Value.none from r);rfl
 | bl b=>cases (show u=Value.bool b from r);rfl
 | int i=>obtain⟨t,e⟩:=(show ∃t,u=Value.int i t from r);cases e;rfl
 | str x=>obtain⟨t,e⟩:=(show ∃t,u=Value.str x t from r);cases e;rfl
 | byt b=>obtain⟨t,e⟩:=(show ∃t,u=Value.bytes b t from r);cases e;rfl
 | flt b=>obtain⟨t,e⟩:=(show ∃t,u=Value.float b t from r);cases e;rfl
 | ref a=>cases (show u=Value.ref a from r);rfl
 | ty n=>cases (show u=Value.type n from r);rfl
section
variable {P:Program} {w:World} {H H':Hp} {h h':Heap} {a C dx:Addr} {fs fs':List (Str×V)}
theorem Ze7(hok:HOk P w H h)(e:H a=some (.ins C dx fs)):∃mA,Zkx h a dx C mA∧(∀f,ZdA (fs.lookup f) (mA f))∧PySem.Within mA (fs.map (·.1))∧fs.length≤1000∧H dx=some (.own a):=by
 obtain⟨d,z,ne,ob,mA,n,r,q⟩:=(show Z9 P w H h a (.ins C dx fs) from hok a _ e)
 exact⟨mA,⟨ob,n,ne⟩,r,q,z,d⟩
end
structure Cls (K:PySem.W.Frag) (C:Addr):Prop where
 pg:PySem.W.plainGet K C Str.empty=true
 hd:PySem.W.hasDictIn K C=true
 po:PySem.W.plainOver K C=true
 sa:PySem.W.findIn K (.ref C) "__setattr__" = some (some (.builtin "object.__setattr__"))
theorem Cls.get{K:PySem.W.Frag}{C:Addr}(c:Cls K C)(f:Str):PySem.W.plainGet K C f=true:=c.pg
def Zbo(K:PySem.W.Frag)(C:Addr)(f:Str):Prop:=PySem.W.findIn K (.ref C) f=some none
theorem Zbo.taker{K:PySem.W.Frag}{C:Addr}{f:Str}(n:Zbo K C f):PySem.W.takerIn K C f=some none:=by
 unfold PySem.W.takerIn
 rw[show PySem.W.findIn K (.ref C) f=some none from n]
 rfl
structure Con (K:PySem.W.Frag) (C:Addr) (f:Str) (v:V) (u:Value):Prop where
 at_:PySem.W.findIn K (.ref C) f=some (some u)
 rel:ZI v u
 get:PySem.W.specialIn K u "__get__" = some none
 cp:PySem.W.copiedNames.contains f=false
structure Zne (K:PySem.W.Frag) (C:Addr) (m:Str) (f:Addr):Prop where
 at_:PySem.W.findIn K (.ref C) m=some (some (.ref f))
 fn:PySem.W.isFn K (.ref f)=true
 kp:PySem.W.keepIn K (.ref f)=true
section
variable {X:Cx} {pins:List (Addr×Obj)} {σ:St} {H:Hp} {s:Shared} {a C dx:Addr} {fs:List (Str×V)} {f:Str} {v:V} {A:Around} {E:Value→Shared→Prop}
theorem ZgV{b:Bool}{Q:Value→Shared→Prop}(I:Inv X pins σ H s)(e:H a=some (.ins C dx fs))(c:Cls X.K C)(n:Zbo X.K C f)(l:fs.lookup f=some v)
  (h:∀u s',Inv X pins σ H s'→ZI v u→Q u s'):wpAny (model X.prog X.w) A (getAttr (.ref a) f b) Q E s:=by
 obtain⟨mA,O,r,_,_,_⟩:=Ze7 I.hok e
 obtain⟨u,hu,ru⟩:=ZdA.some_of (v:=v) (o:=mA f) (by rw[← l];exact r f)
 exact Zps I.kIn O (c.get f) c.hd n hu (Zl9 ru) (h u _ (I.tok _) ru)
theorem ZgX{m:Str}{g:Addr}{pl:Sem Bool}{Q:Value×List Value→Shared→Prop}(I:Inv X pins σ H s)(e:H a=some (.ins C dx fs))(c:Cls X.K C)(k:Zne X.K C m g)(l:fs.lookup m=none)
  (h:Q (.ref g,[.ref a]) s):wpAny (model X.prog X.w) A (getMethod (.ref a) m pl) Q E s:=by
 obtain⟨mA,O,r,_,_,_⟩:=Ze7 I.hok e
 have hn:mA m=none:=ZdA.none_of (by rw[← l];exact r m)
 exact Zm4 I.kIn O (c.get m) k.at_ k.fn hn h
theorem Zg4{y:V}{u:Value}{Q:Unit→Shared→Prop}(I:Inv X pins σ H s)(e:H a=some (.ins C dx fs))(c:Cls X.K C)(n:Zbo X.K C f)(hl:fs.length<1000)(ry:ZI y u)
  (h:∀s',Inv X pins σ (upd H a (.ins C dx (Zt f y fs))) s'→Q () s'):wpAny (model X.prog X.w) A (setAttr (.ref a) f u) Q E s:=by
 obtain⟨mA,O,r,wi,_,ho⟩:=Ze7 I.hok e
 have hz:(fs.map (·.1)).length≤sizeLine:=by rw[Qa,sizeLine_eq];omega
 refine Zor I.kIn O c.sa c.po n.taker c.hd wi hz fun h' O' sb=>h _ ?_
 have hd:∃o,h'.get? dx=some o:=let ⟨o,_,_,e',_⟩:=O'.ns;⟨o,e'⟩
 refine I.write (x:=a) (e:=dx) (by rw[e];exact True.intro) (.inr ho) (fun b q hb z=>(sb.2 b hb).trans z) hd ?_
 refine⟨by rw[Zc O.ne];exact ho,?_,O.ne,O'.obj,_,O'.ns,fun g=>?_,fun g hg=>?_⟩
 ·have:=ZfW f y fs;omega
 ·show ZdA ((Zt f y fs).lookup g) (if g=f then some u else mA g)
  rw[Zl]
  by_cases q:g=f
  ·rw[if_pos q,if_pos q];exact ry
  ·rw[if_neg q,if_neg q];exact r g
 ·by_cases q:g=f
  ·rw[q];exact(ZfH f y fs).1
  ·refine(ZfH f y fs).2 g (wi g fun z=>hg ?_)
   show (if g=f then some u else mA g)=none
   rw[if_neg q];exact z
theorem Inv.made(I:Inv X pins σ H s):Inv X pins σ (upd (upd H s.heap.objs.size (.own (s.heap.objs.size+1))) (s.heap.objs.size+1) (.ins C s.heap.objs.size []))
  { s with heap:=(s.heap.push PySem.W.emptyDict).push (PySem.W.instObj C s.heap.objs.size) }:=by
 have e1:(s.heap.push PySem.W.emptyDict).get? s.heap.objs.size=some PySem.W.emptyDict:=Qq s.heap rfl
 have e2:((s.heap.push PySem.W.emptyDict).push (PySem.W.instObj C s.heap.objs.size)).get? (s.heap.objs.size+1)=some (PySem.W.instObj C s.heap.objs.size):=by
  have:=Qq (s.heap.push PySem.W.emptyDict) (o:=PySem.W.instObj C s.heap.objs.size) rfl
  rwa [Q7]at this
 have e3:(s.heap.push PySem.W.emptyDict).Ns s.heap.objs.size (fun _=>none):=⟨PySem.W.emptyDict,#[],_,e1,rfl,(fun e he=>absurd he (by simp)),fun _=>rfl⟩
 have I1:=I.laid (a:=s.heap.objs.size) (o:=.own (s.heap.objs.size+1)) (h':=s.heap.push PySem.W.emptyDict) (t':=s.toks) (fun b u q=>Qc _ q) (Qg _) ⟨_,e1⟩
 refine I1.laid (a:=s.heap.objs.size+1) (o:=.ins C s.heap.objs.size []) (t':=s.toks) (fun b u q=>Qc _ q) (Nat.le_of_eq (Q7 _ _)) ?_
 have ne:s.heap.objs.size≠s.heap.objs.size+1:=QC (Nat.lt_succ_self _)
 refine⟨by rw[Zc ne,Zb],Qv _,ne,e2,fun _=>none,(Heap.Ns1.of_empty e3).at fun o q=>Qc _ q,fun _=>True.intro,fun y hy=>absurd rfl hy⟩
theorem Zpq{prog:Program}{w:World}{env:Env}{e:Expr}{f:Str}{pos:Pos}{s:Shared}{Q:Value→Shared→Prop}(hb:attributeBase e f env (eval e env)=eval e env)
  (h:wpAny (model prog w) A (eval e env) (fun o s₁=>wpAny (model prog w) A (getAttr o f true) Q E s₁) E s):wpAny (model prog w) A (eval (.Attribute e f pos) env) Q E s :=
 Attribute_any_ h (by rw[arm_eval_Attribute,hb])
end
def ZsY(K:PySem.W.Frag)(ta:TE)(f:Str):TE:=fun σ H Q=>ta σ H fun x H1=>∃a C dx fs v,x=.ref a∧H1 a=some (.ins C dx fs)∧Cls K C∧Zbo K C f∧fs.lookup f=some v∧Q v H1
def tCon(K:PySem.W.Frag)(ta:TE)(f:Str):TE:=fun σ H Q=>ta σ H fun x H1=>∃a C dx fs v u,x=.ref a∧H1 a=some (.ins C dx fs)∧Cls K C∧Con K C f v u∧fs.lookup f=none∧Q v H1
def ZsF(K:PySem.W.Frag)(ta tv:TE)(f:Str):TS:=fun D σ H=>tv σ H fun y H1=>ta σ H1 fun x H2=>∃a C dx fs,x=.ref a∧H2 a=some (.ins C dx fs)∧Cls K C∧Zbo K C f∧fs.length<1000 ∧
 D.nx σ (upd H2 a (.ins C dx (Zt f y fs)))
def ZrF(X:Cx)(op:Operator)(rd:V→V→Hp→VK→Prop):Prop :=
 ∀ (pins:List (Addr×Obj)) (s:Shared) (σ:St) (H:Hp) (x y:V) (u v:Value) (Q:VK),Inv X pins σ H s→ZI x u→ZI y v→rd x y H Q→wpAny (model X.prog X.w) X.A (inplaceOp op u v) (EP X pins σ Q) X.xe s
def Zpt(K:PySem.W.Frag)(ta tv:TE)(rd:V→V→Hp→VK→Prop)(f:Str):TS:=fun D σ H=>ta σ H fun x H1=>∃a C dx fs v,x=.ref a∧H1 a=some (.ins C dx fs)∧Cls K C∧Zbo K C f∧fs.lookup f=some v ∧
 tv σ H1 fun y H2=>rd v y H2 fun z H3=>∃dx' fs',H3 a=some (.ins C dx' fs')∧fs'.length<1000∧D.nx σ (upd H3 a (.ins C dx' (Zt f z fs')))
section
variable {X:Cx} {o e value:Expr} {f:Str} {pos pos' tpos:Pos} {ta tv:TE}
theorem ZO(he:PE X e ta)(hb:attributeBase e f X.env (eval e X.env)=eval e X.env):PE X (.Attribute e f pos) (ZsY X.K ta f):=by
 intro pins s σ H Q I h
 refine Zpq hb (thn (he pins s σ H _ I h) ?_)
 rintro u s1 ⟨x,H1,I1,rx,a,C,dx,fs,v,ex,ea,c,n,l,q⟩
 subst ex
 obtain rfl:u=Value.ref a:=rx
 exact ZgV I1 ea c n l fun u' s2 I2 ru=>⟨v,H1,I2,ru,q⟩
theorem ZbC(ha:PE X o ta)(hv:PE X value tv)(hs:swapsWith value (some (.Attribute o f pos')) pos.line X.env=pure false):PS X (.Assign [.Attribute o f pos'] value pos) (ZsF X.K ta tv f):=by
 intro pins s σ H D I h
 refine plainObj_wpAny_Assign_Attribute (thn (hv pins s σ H _ I h) fun u s1 ⟨y,H1,I1,ry,q⟩=>thn (ha pins s1 σ H1 _ I1 q) ?_) hs
 rintro ov s2 ⟨x,H2,I2,rx,a,C,dx,fs,ex,ea,c,n,l,q2⟩
 subst ex
 obtain rfl:ov=Value.ref a:=rx
 exact Zg4 I2 ea c n l ry fun s3 I3=>⟨σ,_,I3,q2⟩
theorem Zc1{op:Operator}{rd:V→V→Hp→VK→Prop}(ha:PE X o ta)(hv:PE X value tv)(hop:ZrF X op rd):PS X (.AugAssign (.Attribute o f tpos) op value pos) (Zpt X.K ta tv rd f):=by
 intro pins s σ H D I h
 refine wpAny_AugAssign_AttributeAny (thn (ha pins s σ H _ I h) ?_)
 rintro ov s1 ⟨x,H1,I1,rx,a,C,dx,fs,v,ex,ea,c,n,l,q⟩
 subst ex
 obtain rfl:ov=Value.ref a:=rx
 refine ZgV I1 ea c n l fun u s2 I2 ru=>thn (hv pins s2 σ H1 _ I2 q) fun w3 s3 ⟨y,H2,I3,ry,q3⟩=>thn (hop pins s3 σ H2 v y u w3 _ I3 ru ry q3) ?_
 rintro w4 s4 ⟨z,H3,I4,rz,dx',fs',ea',l',q4⟩
 exact Zg4 I4 ea' c n l' rz fun s5 I5=>⟨σ,_,I5,q4⟩
def ZsE:V→V→Hp→VK→Prop:=fun x y H Q=>∃i j,x=.int i∧y=.int j∧Q (.int (i+j)) H
def rSub:V→V→Hp→VK→Prop:=fun x y H Q=>∃i j,x=.int i∧y=.int j∧Q (.int (i-j)) H
theorem Zgz:ZrF X .Add ZsE:=by
 rintro pins s σ H x y u v Q I rx ry ⟨i,j,rfl,rfl,q⟩
 obtain⟨t,rfl⟩:=(show ∃t,u=Value.int i t from rx)
 obtain⟨t',rfl⟩:=(show ∃t',v=Value.int j t' from ry)
 exact PyProof.Rows.iadd_int ⟨.int (i+j),H,I.tok _,⟨_,rfl⟩,q⟩
end
section
variable {X:Cx} {pins:List (Addr×Obj)} {σ:St} {H:Hp} {s:Shared} {A:Around} {E:Value→Shared→Prop} {Q:Value→Shared→Prop} {c:Value} {b:Bool}
inductive Ze9 (K:PySem.W.Frag) (H:Hp):V→Value→Prop where
 | non:Ze9 K H .non (.type "NoneType")
 | bl (x:Bool):Ze9 K H (.bl x) (.type "bool")
 | int (i:Int):Ze9 K H (.int i) (.type "int")
 | str (x:Str):Ze9 K H (.str x) (.type "str")
 | flt (x:UInt64):Ze9 K H (.flt x) (.type "float")
 | lst {a:Addr} {xs:List V} (e:H a=some (.lst xs)):Ze9 K H (.ref a) (.type "list")
 | frz {a:Addr} {o:Obj} {xs:List V} (e:H a=some (.frz o (.lst xs))):Ze9 K H (.ref a) (.type "list")
 | tup {a:Addr} {xs:List V} (e:H a=some (.tup xs)):Ze9 K H (.ref a) (.type "tuple")
 | dK {a:Addr} {kvs:List (Key×V)} (e:H a=some (.dK kvs)):Ze9 K H (.ref a) (.type "dict")
 | dT {a:Addr} {kvs:List (List Key×V)} (e:H a=some (.dT kvs)):Ze9 K H (.ref a) (.type "dict")
 | ins {a C dx:Addr} {fs:List (Str×V)} (e:H a=some (.ins C dx fs)) (cl:Cls K C) (ha:PySem.W.findIn K (.ref C) "__class__" = some (some (.builtin "object.__class__")))
   (hn:PySem.W.specialIn K (.builtin "object.__class__") "__get__" = some (some (.builtin "getset_descriptor.__get__"))) (htk:PySem.W.takesIn K (.builtin "object.__class__")=some true)
   (hm:PySem.W.mroIn K C (.type "object")=some true):Ze9 K H (.ref a) (.ref C)
theorem Zmt{x:V}{u t:Value}(I:Inv X pins σ H s)(rx:ZI x u)(ty:Ze9 X.K H x t)(e:PySem.W.kitOne X.K t c=some b)(h:∀tk,Q (.bool b) { s with toks:=tk }) :
  wpAny (model X.prog X.w) A (call (.builtin "isinstance") [u,c]) Q E s:=by
 cases ty with
 | non=>cases (show u=Value.none from rx);exact QY PySem.W.kitx_none I.kIn True.intro e (fun z=>nomatch z) h
 | bl y=>cases (show u=Value.bool y from rx);exact QY PySem.W.kitx_bool I.kIn True.intro e (fun z=>nomatch z) h
 | int i=>obtain⟨t,q⟩:=(show ∃t,u=Value.int i t from rx);cases q;exact QY PySem.W.kitx_int I.kIn True.intro e (fun z=>nomatch z) h
 | str y=>obtain⟨t,q⟩:=(show ∃t,u=Value.str y t from rx);cases q;exact QY PySem.W.kitx_str I.kIn True.intro e (fun z=>nomatch z) h
 | flt y=>obtain⟨t,q⟩:=(show ∃t,u=Value.float y t from rx);cases q;exact QY PySem.W.kitx_float I.kIn True.intro e (fun z=>nomatch z) h
 | @lst a xs ea =>
  cases (show u=Value.ref a from rx)
  obtain⟨_,_,n,_,h1⟩:=(show Z9 X.prog X.w H s.heap a (.lst xs) from I.hok a _ ea)
  exact QY QaN I.kIn ⟨_,h1,rfl⟩ e (fun z=>nomatch z) h
 | @frz a ob xs ea =>
  cases (show u=Value.ref a from rx)
  obtain⟨_,_,_,n,_,h1⟩:=(show Z9 X.prog X.w H s.heap a (.frz ob (.lst xs)) from I.hok a _ ea)
  exact QY QaN I.kIn ⟨_,h1,rfl⟩ e (fun z=>nomatch z) h
 | @tup a xs ea =>
  cases (show u=Value.ref a from rx)
  obtain⟨_,_,_,p⟩:=(show Z9 X.prog X.w H s.heap a (.tup xs) from I.hok a _ ea)
  obtain⟨o,h1,h2,_⟩:=p
  exact QY PySem.W.kitx_tuple I.kIn ⟨o,h1,h2⟩ e (fun z=>nomatch z) h
 | @dK a kvs ea =>
  cases (show u=Value.ref a from rx)
  obtain⟨_,_,vs,_,p⟩:=(show Z9 X.prog X.w H s.heap a (.dK kvs) from I.hok a _ ea)
  obtain⟨o,es,ep,h1,h2,_⟩:=p
  exact QY QaO I.kIn ⟨o,h1,h2.1⟩ e (fun z=>nomatch z) h
 | @dT a kvs ea =>
  cases (show u=Value.ref a from rx)
  obtain⟨_,_,xs,_,o,es,ep,h1,h2,_⟩:=(show Z9 X.prog X.w H s.heap a (.dT kvs) from I.hok a _ ea)
  exact QY QaO I.kIn ⟨o,h1,h2.1⟩ e (fun z=>nomatch z) h
 | @ins a C dx fs ea cl ha hn htk hm =>
  cases (show u=Value.ref a from rx)
  obtain⟨mA,O,_⟩:=Ze7 I.hok ea
  obtain⟨od,J,_⟩:=O.look
  exact QY (PySem.W.kitx_own (cl.get _) cl.hd ha hn htk hm) I.kIn J e (fun z=>nomatch z) h
end
structure ZaV (k:Nat) (A:Around):Prop where
 hd:A.handled=none
 dp:A.depth+3*k+5<recursionLimit
 un:A.units+16*k+200<cLine
 gd:A.guards=some []
theorem ZaV.mono{j k:Nat}{A:Around}(r:ZaV k A)(h:j≤k):ZaV j A:=⟨r.hd,by have:=r.dp;omega,by have:=r.un;omega,r.gd⟩
theorem ZaV.deeper{k:Nat}{A:Around}(r:ZaV (k+1) A)(env:Env):ZaV k (A.deeper env) :=
 ⟨r.hd,by have:=r.dp;show A.depth+1+3*k+5<_;omega,by have:=r.un;show A.units+3+16*k+200<_;omega,r.gd⟩
theorem Zkh{A:Around}{C:Addr}{us:List Value}{kw:List (Str×Value)}:(A.under (.builtin "type.__call__" ⟨.ref C::us,kw⟩)).depth=A.depth+1:=by
 first|rfl|simp[Around.under,Code.weight,Code.isCreation,Code.isGuard,Code.isCaller,Code.frames,Code.isFrame,guardIds]
theorem ZkK{A:Around}{C:Addr}{us:List Value}{kw:List (Str×Value)}:(A.under (.builtin "type.__call__" ⟨.ref C::us,kw⟩)).units=A.units+1:=by
 first|rfl|simp[Around.under,Code.cUnits,Code.frames,Code.isFrame]
theorem ZaV.make{k:Nat}{A:Around}(r:ZaV (k+1) A)(C:Addr)(us:List Value)(kw:List (Str×Value)):ZaV k (A.under (.builtin "type.__call__" ⟨.ref C::us,kw⟩)) :=
 ⟨r.hd,by have:=r.dp;rw[Zkh];omega,by have:=r.un;rw[ZkK];omega,by rw[show (A.under (.builtin "type.__call__" ⟨.ref C::us,kw⟩)).guards=A.guards from by first|rfl|simp[Around.under,pushGuards,Code.guards,Code.isGuard,guardIds]];exact r.gd⟩
theorem ZaV.depth{k:Nat}{A:Around}(r:ZaV k A):A.depth<recursionLimit:=by have:=r.dp;omega
theorem ZaV.units{k:Nat}{A:Around}(r:ZaV k A):A.units+64<cLine:=by have:=r.un;omega
def ZpN:TA:=fun _ H Q=>Q [] H
def ZpZ(ta:TE)(tr:TA):TA:=fun σ H Q=>ta σ H fun x H1=>tr σ H1 fun xs H2=>Q (x::xs) H2
section
variable {X:Cx} {e:Expr} {es:List Expr} {te:TE} {t:TA} {pos:Pos}
theorem Ze:PA X [] ZpN:=fun _ _ _ _ H Q I h=>Calls.spliced_nil ⟨[],H,I,.nil,h⟩
theorem Za(ha:PE X e te)(hr:PA X es t)(hs:starEach (e::es) X.env=(false,eval e X.env)::starEach es X.env:=by rfl):PA X (e::es) (ZpZ te t):=by
 intro pos pins s σ H Q I h
 rw[hs]
 show wpAny _ _ (spliced ((false,eval e X.env)::backTo pos (starEach es X.env))) _ _ s
 refine Calls.spliced_cons (thn (ha pins s σ H _ I h) ?_)
 rintro u s1 ⟨x,H1,I1,r1,q1⟩
 exact thn (hr pos pins s1 σ H1 _ I1 q1) fun us s2 ⟨xs,H2,I2,r2,q2⟩=>⟨x::xs,H2,I2,.cons r1 r2,q2⟩
def ZsU(t:TA):TE:=fun σ H Q=>t σ H fun xs H1=>xs.length≤sizeLine∧∀p,H1 p=none→Q (.ref p) (upd H1 p (.tup xs))
def Zrt(t:TA):TE:=fun σ H Q=>t σ H fun xs H1=>xs.length≤sizeLine∧∀p,H1 p=none→Q (.ref p) (upd H1 p (.lst xs))
theorem ZaC{x1}(h:PA X es t):PE X (.Tuple es x1 pos) (ZsU t):=by
 intro pins s σ H Q I hq
 refine wpAny_Tuple_spliced (thn (h pos pins s σ H _ I hq) fun us s1 ⟨xs,H1,I1,r,z,q⟩=>⟨by rw[← r.length];exact z,?_⟩)
 have hf:H1 s1.heap.objs.size=none:=I1.hok.fresh (Qg _)
 refine⟨.ref s1.heap.objs.size,upd H1 s1.heap.objs.size (.tup xs),I1.laid (t':=s1.toks) (fun b u e=>Qc _ e) (Qg _) ?_,rfl,q _ hf⟩
 exact⟨z,us,r,⟨_,Qq _ rfl,rfl,_,rfl⟩⟩
theorem Zab(h:PA X es t):PE X (.List es pos) (Zrt t):=by
 intro pins s σ H Q I hq
 refine wpAny_List_spliced (thn (h pos pins s σ H _ I hq) fun us s1 ⟨xs,H1,I1,r,z,q⟩=>⟨by rw[← r.length];exact z,?_⟩)
 have hf:H1 s1.heap.objs.size=none:=I1.hok.fresh (Qg _)
 refine⟨.ref s1.heap.objs.size,upd H1 s1.heap.objs.size (.lst xs),I1.laid (t':=s1.toks) (fun b u e=>Qc _ e) (Qg _) ?_,rfl,q _ hf⟩
 exact⟨z,us,0,r,Qq _ rfl⟩
end
abbrev Sp:=List V→Hp→VK→XK→Prop
abbrev CXT:=List Env→Hp→Shared→XK→Value→Shared→Prop
structure ZkE (P:Program) (w:World) (K:PySem.W.Frag) (mg:Str→Option Value) (base:Heap) (A:Around) (outer:List Env) (s:Shared) (H:Hp):Prop where
 frames:A.frames=some outer
 mod:Mod K mg base
 bs:∀b o,base.get? b=some o→s.heap.get? b=some o∧H b=none
 bsz:base.objs.size≤s.heap.objs.size
 funs:s.heap.FunFrames base outer
 frf:∀b∈frs outer,H b=none
 hok:HOk P w H s.heap
 bare:AllBare s.gens
def CE(outer:List Env)(P:Program)(w:World)(H:Hp)(s:Shared)(Q:VK)(u:Value)(s':Shared):Prop :=
 ∃v H',s'.os=s.os∧AllBare s'.gens∧Un (frs outer) [] H H' s.heap s'.heap∧HOk P w H' s'.heap∧ZI v u∧Q v H'
def CR(CX:CXT)(outer:List Env)(P:Program)(w:World)(H:Hp)(s:Shared)(Q:VK)(E:XK)(r:Result)(s':Shared):Prop :=
 match r with
 | .ok (.ret u)=>CE outer P w H s Q u s'
 | .ok _=>False
 | .error e=>CX outer H s E e s'
structure ZeE (P:Program) (w:World) (K:PySem.W.Frag) (mg:Str→Option Value) (base:Heap) (CX:CXT) (k:Nat) (f:Addr) (fd:FuncData) (ps:List Str) (sp:Sp):Prop where
 len:∀vs H Q E,sp vs H Q E→vs.length=ps.length
 run:∀ (A:Around) (outer:List Env) (s:Shared) (H:Hp) (args:Args) (us:List Value) (vs:List V) (Q:VK) (E:XK),ZaV k A→ZkE P w K mg base A outer s H→BindsTo s fd args (ps.zip us)→ZG vs us→sp vs H Q E →
  codeAny (model P w) A (.call (.ref f) args) (CR CX outer P w H s Q E) s
theorem ZkE.make{P:Program}{w:World}{K:PySem.W.Frag}{mg:Str→Option Value}{base:Heap}{A:Around}{outer:List Env}{s:Shared}{H:Hp}(e:ZkE P w K mg base A outer s H)(C:Addr)(us:List Value)(kw:List (Str×Value)) :
  ZkE P w K mg base (A.under (.builtin "type.__call__" ⟨.ref C::us,kw⟩)) outer s H:=⟨by first|exact e.frames|(simpa [Around.under,Code.envs,Code.isFrame,pushEnvs] using e.frames),e.mod,e.bs,e.bsz,e.funs,e.frf,e.hok,e.bare⟩
section
variable {X:Cx} {pins:List (Addr×Obj)} {σ:St} {H:Hp} {s s':Shared}
theorem Inv.env0(I:Inv X pins σ H s):ZkE X.prog X.w X.K X.mg X.base X.A X.stack s H :=
 ⟨I.ok.frames,I.ok.mod,I.bs,Qy I.ok.bsz I.sz,I.stack,I.stkFree,I.hok,I.bare⟩
theorem Inv.after{Q:VK}{u:Value}(I:Inv X pins σ H s)(h:CE X.stack X.prog X.w H s Q u s'):EP X pins σ Q u s':=by
 obtain⟨v,H',os,bare,un,hok,r,q⟩:=h
 obtain⟨hh,g,d,t,os'⟩:=s'
 obtain rfl:os'=s.os:=os
 exact⟨v,H',I.call (h':=hh) (g':=g) (d':=d) (t':=t) (ch:=[]) un hok bare (fun b z=>absurd z (by simp)),r,q⟩
end
def ZpV(sp:Sp)(dvs:List V)(E:XK)(t:TA):TE:=fun σ H Q=>t σ H fun vs H1=>sp (vs++dvs) H1 Q E
def ZkZ(C:Addr)(m:Str)(sp:Sp)(dvs:List V)(E:XK)(ta:TE)(t:TA):TE:=fun σ H Q=>ta σ H fun x H1=>∃a dx fs,x=.ref a∧H1 a=some (.ins C dx fs)∧fs.lookup m=none ∧
 t σ H1 fun vs H2=>sp (x::(vs++dvs)) H2 Q E
def ZpT(C:Addr)(sp:Sp)(dvs:List V)(E:XK)(t:TA):TE:=fun σ H Q=>t σ H fun vs H1=>∀x dx,H1 x=none→H1 dx=none→dx≠x →
 sp (.ref x::(vs++dvs)) (upd (upd H1 dx (.own x)) x (.ins C dx [])) (fun v H2=>v=.non∧Q (.ref x) H2) E
def Zcy(K:PySem.W.Frag)(fd:FuncData)(ps:List Str)(ds:List Value):Prop :=
 ∀ (s:Shared) (us:List Value),K.In s.heap→(us++ds).length=ps.length→BindsTo s fd ⟨us,[]⟩ (ps.zip (us++ds))
theorem Zcy.all{K:PySem.W.Frag}{fd:FuncData}{ps:List Str}(h:∀us:List Value,us.length=ps.length→bindArgs fd ⟨us,[]⟩=pure (ps.zip us)):Zcy K fd ps []:=fun s us _ hl=>by
 rw[QaL]at hl ⊢
 exact .of_eq (h us hl)
def ZeM(CX:CXT)(X:Cx)(E:XK):Prop:=∀ (pins:List (Addr×Obj)) (σ:St) (H:Hp) (s:Shared) (e:Value) (s':Shared),Inv X pins σ H s→CX X.stack H s E e s'→X.xe e s'
section
variable {X:Cx} {CX:CXT} {k:Nat} {f C:Addr} {fd:FuncData} {ps:List Str} {sp:Sp} {dvs:List V} {ds:List Value} {E:XK} {x m:Str} {p pos apos:Pos} {e o:Expr} {es:List Expr} {ta:TE} {t:TA}
theorem Zkt{pins:List (Addr×Obj)}{σ:St}{H:Hp}{s:Shared}{Q:VK}{us:List Value}{vs:List V}(F:ZeE X.prog X.w X.K X.mg X.base CX k f fd ps sp)(hr:ZaV k X.A)(hb:Zcy X.K fd ps ds)(hd:ZG dvs ds)(hx:ZeM CX X E)
  (I:Inv X pins σ H s) (r:ZG vs us) (h:sp (vs++dvs) H Q E):wpAny (model X.prog X.w) X.A (call (.ref f) us) (EP X pins σ Q) X.xe s:=by
 have r2:ZG (vs++dvs) (us++ds):=r.append hd
 have hl:(us++ds).length=ps.length:=by rw[← r2.length];exact F.len _ _ _ _ h
 refine wpAny_call (codeAny_mono (F.run X.A X.stack s H ⟨us,[]⟩ (us++ds) (vs++dvs) Q E hr I.env0 (hb s us I.kIn hl) r2 h) fun r s' hq=>?_)
 cases r with
 | error e=>exact hx pins σ H s e s' I hq
 | ok fl =>
  cases fl with
  | ret u=>exact I.after hq
  | next=>exact False.elim hq
  | brk=>exact False.elim hq
  | cont=>exact False.elim hq
theorem Zoy(F:ZeE X.prog X.w X.K X.mg X.base CX k f fd ps sp)(hr:ZaV k X.A)(hg:Gl X x)(hm:X.mg x=some (.ref f))(hk:PySem.W.keepIn X.K (.ref f)=true)(hb:Zcy X.K fd ps ds)(hd:ZG dvs ds)(hx:ZeM CX X E)
  (ha:PA X (e::es) t) (hdb:(x == ("__debug__" : Str))=false:=by decide) (he:starEach (e::es) X.env=(false,eval e X.env)::starEach es X.env:=by rfl) (hpl:(backTo pos (starEach es X.env)).any (·.1)=false:=by rfl) :
  PE X (.Call (.Name x p) (e::es) [] pos) (ZpV sp dvs E t):=by
 intro pins s σ H Q I h
 refine wpAny_Call_Name_kw (ZiK I hg hm ?_ hdb)
 refine PySem.W.callWith_K (h₀:=X.base) I.ok.mod.kin hk (thn (ha pos pins s σ H _ I h) fun us s1 ⟨vs,H1,I1,r,q⟩=>⟨I1.kIn,?_⟩) he hpl
 exact Zkt F hr hb hd hx I1 r q
theorem ZoQ{pl:Sem Bool}(he:PE X o ta)(c:Cls X.K C)(hm:Zne X.K C m f)(F:ZeE X.prog X.w X.K X.mg X.base CX k f fd ps sp)(hr:ZaV k X.A)(hb:Zcy X.K fd ps ds)(hd:ZG dvs ds)(hx:ZeM CX X E)(ha:PA X (e::es) t)
  (hst:starEach (e::es) X.env=(false,eval e X.env)::starEach es X.env:=by rfl) (hpl:(backTo pos (starEach es X.env)).any (·.1)=false:=by rfl)
  (ht:eval (.Call (.Attribute o m apos) (e::es) [] pos) X.env=(do
   let ov ← eval o X.env
   standAt apos.atName
   let (f,first) ← holding [ov] (getMethod ov m pl)
   callWith pos f first (backTo pos (starEach (e::es) X.env)) (backToKw pos (keywordEach [] X.env))):=by rfl) :
  PE X (.Call (.Attribute o m apos) (e::es) [] pos) (ZkZ C m sp dvs E ta t):=by
 intro pins s σ H Q I h
 refine PySem.W.methodCall_KW (pl:=pl) (thn (he pins s σ H _ I h) ?_) ht
 rintro u s1 ⟨x,H1,I1,rx,a,dx,fs,ex,ea,l,q⟩
 subst ex
 obtain rfl:u=Value.ref a:=rx
 refine ZgX I1 ea c hm l ?_
 refine PySem.W.callWith_K (first:=[.ref a]) (h₀:=X.base) I.ok.mod.kin hm.kp (thn (ha pos pins s1 σ H1 _ I1 q) fun us s2 ⟨vs,H2,I2,r,q2⟩=>⟨I2.kIn,?_⟩) hst hpl
 exact Zkt (us:=.ref a::us) (vs:=.ref a::vs) F hr hb hd hx I2 (.cons rfl r) q2
theorem ZmL{pl:Sem Bool}(he:PE X o ta)(c:Cls X.K C)(hm:Zne X.K C m f)(F:ZeE X.prog X.w X.K X.mg X.base CX k f fd ps sp)(hr:ZaV k X.A)(hb:Zcy X.K fd ps ds)(hd:ZG dvs ds)(hx:ZeM CX X E)
  (ht:eval (.Call (.Attribute o m apos) [] [] pos) X.env=(do
   let ov ← eval o X.env
   standAt apos.atName
   let (f,first) ← holding [ov] (getMethod ov m pl)
   callWith pos f first (backTo pos (starEach [] X.env)) (backToKw pos (keywordEach [] X.env))):=by rfl) :
  PE X (.Call (.Attribute o m apos) [] [] pos) (ZkZ C m sp dvs E ta ZpN):=by
 intro pins s σ H Q I h
 refine PySem.W.methodCall_KW (pl:=pl) (thn (he pins s σ H _ I h) ?_) ht
 rintro u s1 ⟨x,H1,I1,rx,a,dx,fs,ex,ea,l,q⟩
 subst ex
 obtain rfl:u=Value.ref a:=rx
 refine ZgX I1 ea c hm l ?_
 exact PySem.W.callWith_K0 (first:=[.ref a]) I1.kIn hm.kp (Zkt (us:=[.ref a]) (vs:=[.ref a]) F hr hb hd hx I1 (.cons rfl .nil) q)
structure Mk (K:PySem.W.Frag) (C f:Addr):Prop where
 makes:PySem.W.makesIn K C=true
 init:PySem.W.findIn K (.ref C) "__init__" = some (some (.ref f))
 fn:PySem.W.isFn K (.ref f)=true
 kp:PySem.W.keepIn K (.ref C)=true
theorem ZmW{pins:List (Addr×Obj)}{σ:St}{H:Hp}{s:Shared}{Q:VK}{us:List Value}{vs:List V}(M:Mk X.K C f)(F:ZeE X.prog X.w X.K X.mg X.base CX k f fd ps sp)(hr:ZaV (k+1) X.A)(hb:Zcy X.K fd ps ds)(hd:ZG dvs ds)
  (hx:ZeM CX X E) (I:Inv X pins σ H s) (r:ZG vs us)
  (h:∀x dx,H x=none→H dx=none→dx≠x→sp (.ref x::(vs++dvs)) (upd (upd H dx (.own x)) x (.ins C dx [])) (fun v H2=>v=.non∧Q (.ref x) H2) E) :
  wpAny (model X.prog X.w) X.A (call (.ref C) us) (EP X pins σ Q) X.xe s:=by
 have hq:=h (s.heap.objs.size+1) s.heap.objs.size (I.hok.fresh (Qa4 _)) (I.hok.fresh (Qg _)) (QC (Nat.lt_succ_self _))
 have I2:=Inv.made (C:=C) I
 have r2:ZG (V.ref (s.heap.objs.size+1)::(vs++dvs)) (Value.ref (s.heap.objs.size+1)::(us++ds)):=.cons rfl (r.append hd)
 have hl:(Value.ref (s.heap.objs.size+1)::us++ds).length=ps.length:=by
  have e:=r2.length
  rw[F.len _ _ _ _ hq]at e
  exact e.symm
 refine wpAny_call (Zmw (f:=f) I.kIn M.makes M.init (beq_iff_eq.mp M.fn) (codeAny_mono (F.run _ X.stack _ _ ⟨Value.ref (s.heap.objs.size+1)::us,[]⟩ (Value.ref (s.heap.objs.size+1)::(us++ds)) _ _ E (hr.make C us [])
  (I2.env0.make C us []) (hb _ (Value.ref (s.heap.objs.size+1)::us) I2.kIn hl) r2 hq) fun r s' hq'=>?_))
 cases r with
 | error e=>exact hx pins σ _ _ e s' I2 hq'
 | ok fl =>
  cases fl with
  | ret u =>
   obtain⟨v,H',I3,rv,ev,q3⟩:=I2.after hq'
   subst ev
   exact⟨rv,⟨V.ref (s.heap.objs.size+1),H',I3,rfl,q3⟩⟩
  | next=>exact False.elim hq'
  | brk=>exact False.elim hq'
  | cont=>exact False.elim hq'
theorem ZpM(M:Mk X.K C f)(F:ZeE X.prog X.w X.K X.mg X.base CX k f fd ps sp)(hr:ZaV (k+1) X.A)(hg:Gl X x)(hm:X.mg x=some (.ref C))(hb:Zcy X.K fd ps ds)(hd:ZG dvs ds)(hx:ZeM CX X E)
  (ha:PA X (e::es) t) (hdb:(x == ("__debug__" : Str))=false:=by decide) (he:starEach (e::es) X.env=(false,eval e X.env)::starEach es X.env:=by rfl) (hpl:(backTo pos (starEach es X.env)).any (·.1)=false:=by rfl) :
  PE X (.Call (.Name x p) (e::es) [] pos) (ZpT C sp dvs E t):=by
 intro pins s σ H Q I h
 refine wpAny_Call_Name_kw (ZiK I hg hm ?_ hdb)
 refine PySem.W.callWith_K (h₀:=X.base) I.ok.mod.kin M.kp (thn (ha pos pins s σ H _ I h) fun us s1 ⟨vs,H1,I1,r,q⟩=>⟨I1.kIn,?_⟩) he hpl
 exact ZmW M F hr hb hd hx I1 r q
end
def PK(X:Cx)(kws:List Keyword)(t:TA):Prop :=
 ∀ (pos:Pos) (pins:List (Addr×Obj)) (s:Shared) (σ:St) (H:Hp) (Q:List V→Hp→Prop),Inv X pins σ H s→t σ H Q→wpAny (model X.prog X.w) X.A (evalAll ((backToKw pos (keywordEach kws X.env)).map (·.2))) (AP X pins σ Q) X.xe s
section
variable {X:Cx} {CX:CXT} {k:Nat} {f C:Addr} {fd:FuncData} {ps ks:List Str} {sp:Sp} {E:XK} {x m:Str} {p pos apos kpos:Pos} {e o:Expr} {es:List Expr} {kws:List Keyword} {te ta:TE} {t tk:TA} {nm:Option Str}
structure KBinds (K:PySem.W.Frag) (fd:FuncData) (ps ks:List Str) (g:List Value→List Value→List Value) (gV:List V→List V→List V):Prop where
 to:∀ (s:Shared) (us ws:List Value),K.In s.heap→(g us ws).length=ps.length→BindsTo s fd ⟨us,ks.zip ws⟩ (ps.zip (g us ws))
 rel:∀ {vs:List V} {us:List Value} {zs:List V} {ws:List Value},ZG vs us→ZG zs ws→ZG (gV vs zs) (g us ws)
def tCallK(sp:Sp)(gV:List V→List V→List V)(E:XK)(t tk:TA):TE:=fun σ H Q=>t σ H fun vs H1=>tk σ H1 fun zs H2=>sp (gV vs zs) H2 Q E
variable {g:List Value→List Value→List Value} {gV:List V→List V→List V}
end
structure Zq (N P:List Str) (sc:Scope):Prop where
 kind:sc.kind=.function
 co:sc.isCoroutine=false
 gen:sc.isGenerator=false
 nd:N.Nodup
 pre:N.take P.length=P
 par:∀x∈P,sc.names.lookup x=some .local∨sc.names.lookup x=some .cell
 nofree:∀y∈sc.names,y.2≠.free
theorem ZhF{kindOf:Str→Option NameKind}{x:Str}:∀ {binds:List (Str×Value)} {m:Str→Option Value},(∀v,(x,v) ∉ binds)→bindL kindOf binds m x=m x
 | [],_,_=>rfl
 | (n,v)::r,m,h=>by
  unfold bindL
  rw[ZhF fun w hw=>h w (Qu _ hw)]
  split
  ·have:x≠n:=by rintro rfl;exact h v Qah
   simp[this]
  ·rfl
theorem ZhO{kindOf:Str→Option NameKind}{x:Str}:∀ {binds:List (Str×Value)} {m:Str→Option Value},(∀v,(x,v) ∉ binds)→bindC kindOf binds m x=m x
 | [],_,_=>rfl
 | (n,v)::r,m,h=>by
  unfold bindC
  rw[ZhO fun w hw=>h w (Qu _ hw)]
  split
  ·rfl
  ·have:x≠n:=by rintro rfl;exact h v Qah
   simp[this]
theorem ZhW{kindOf:Str→Option NameKind}{x:Str}{v:Value}:∀ {P:List Str} {vs:List Value} {i:Nat} {m:Str→Option Value},P.Nodup→P[i]? = some x→vs[i]? = some v→kindOf x=some .local →
  bindL kindOf (P.zip vs) m x=some v
 | [],_,_,_,_,h,_,_=>by simp at h
 | _::_,[],_,_,_,_,h,_=>by simp at h
 | p::P,w::vs,0,m,nd,h1,h2,hk=>by
  simp at h1 h2;subst h1;subst h2
  show bindL kindOf ((p,w)::P.zip vs) m p=_
  unfold bindL
  rw[ZhF fun v hv=>(QV.mp nd).1 (List.of_mem_zip hv).1,if_pos hk]
  simp
 | p::P,w::vs,i+1,m,nd,h1,h2,hk=>by
  show bindL kindOf ((p,w)::P.zip vs) m x=_
  unfold bindL
  exact ZhW (i:=i) (QV.mp nd).2 (by simpa using h1) (by simpa using h2) hk
theorem Zin{kindOf:Str→Option NameKind}{x:Str}{v:Value}:∀ {P:List Str} {vs:List Value} {i:Nat} {m:Str→Option Value},P.Nodup→P[i]? = some x→vs[i]? = some v→kindOf x≠some .local →
  bindC kindOf (P.zip vs) m x=some v
 | [],_,_,_,_,h,_,_=>by simp at h
 | _::_,[],_,_,_,_,h,_=>by simp at h
 | p::P,w::vs,0,m,nd,h1,h2,hk=>by
  simp at h1 h2;subst h1;subst h2
  show bindC kindOf ((p,w)::P.zip vs) m p=_
  unfold bindC
  rw[ZhO fun v hv=>(QV.mp nd).1 (List.of_mem_zip hv).1,if_neg hk]
  simp
 | p::P,w::vs,i+1,m,nd,h1,h2,hk=>by
  show bindC kindOf ((p,w)::P.zip vs) m x=_
  unfold bindC
  exact Zin (i:=i) (QV.mp nd).2 (by simpa using h1) (by simpa using h2) hk
def Zd2(N:List Str)(vs:List V):St:=vs.map some++List.replicate (N.length-vs.length) none
def ZiH(CX:CXT)(P:Program)(w:World)(K:PySem.W.Frag)(mg:Str→Option Value)(base:Heap)(N:List Str)(qual:Str)(scope:Scope)(f:Addr)(cd:Value)(A:Around)(outer:List Env)(s:Shared)(H:Hp)(E:XK):Cx where
 prog:=P
 w:=w
 K:=K
 mg:=mg
 base:=base
 A:=A.deeper (envOfC qual scope s.heap.objs.size f cd)
 N:=N
 s₀:=s
 H₀:=H
 env:=envOfC qual scope s.heap.objs.size f cd
 outer:=outer
 stack:=envOfC qual scope s.heap.objs.size f cd::outer
 ex:=[]
 calm:=true
 fn:=fun _=>true
 pn:=[]
 xe:=fun e s'=>wpAny (model P w) (A.deeper (envOfC qual scope s.heap.objs.size f cd)) (leaving (envOfC qual scope s.heap.objs.size f cd) e) (fun _ s''=>CX outer H s E e s'') (fun e' s''=>CX outer H s E e' s'') s'
theorem Zj2{sc:Scope}{n:Nat}{x:Str}(h:sc.names.lookup x=some .cell):∃c,(cellsFrom n sc.names []).lookup x=some c:=by
 have q:=PySem.W.cellsFrom_some sc.names n [] (.inl h)
 exact Option.isSome_iff_exists.mp q
theorem Zlu{CX:CXT}{P:Program}{w:World}{K:PySem.W.Frag}{mg:Str→Option Value}{base:Heap}{N ps:List Str}{qual:Str}{scope:Scope}{f:Addr}{cd:Value}{A:Around}{outer:List Env}{s s1:Shared}{H:Hp}{E:XK}{us:List Value}{vs:List V}
  (S:Zq N ps scope) (hd:A.handled=none) (e0:ZkE P w K mg base A outer s H) (hl:vs.length=ps.length) (r:ZG vs us)
  (x:InCallC s s.heap.objs.size (bindL (envOfC qual scope s.heap.objs.size f cd).kindOf (ps.zip us) fun _=>none) (cellsFrom (s.heap.objs.size+1) scope.names []) (bindC (envOfC qual scope s.heap.objs.size f cd).kindOf (ps.zip us) fun _=>none) s1) :
  Inv (ZiH CX P w K mg base N qual scope f cd A outer s H E) [] (Zd2 N vs) H s1:=by
 have hpl:ps.length≤N.length:=by have:=congrArg List.length S.pre;rw[QA]at this;omega
 obtain⟨h1,tk,rfl,hk⟩:=x.done
 have noA:∀b:Addr,b ∉ (ZiH CX P w K mg base N qual scope f cd A outer s H E).ex:=fun b z=>absurd (show b∈([]:List Addr) from z) (by simp)
 refine⟨⟨e0.mod,S.kind,rfl,rfl,Qg _,fun y z c h1 h2=>?_,fun y hy=>?_,fun y c _ h=>?_,fun _=>hd,Around.frames_deeper e0.frames,.inr ⟨rfl,rfl⟩,fun b z=>absurd z (noA b),e0.bs,e0.bsz,fun b _ _=>noA b,fun b z=>absurd z (noA b),e0.funs,e0.frf⟩,
  rfl,e0.bare,Un.kept hk,⟨_,x.toInCall.ns,fun i y v h1 h2 h3=>?_⟩,fun y c h=>⟨_,x.cell y c h⟩,e0.hok.fresh (Qg _),fun y c h=>?_,fun p hp=>absurd (show p∈([]:List (Addr×Obj)) from hp) (by simp),e0.hok.kept hk,?_⟩
 ·exact name_of_addr x.apart (Qad h1) (Qad h2)
 ·have hy:scope.names.lookup y=some .cell∨scope.names.lookup y=some .free:=hy
  rcases hy with hy|hy
  ·exact Zj2 hy
  ·exact absurd rfl (S.nofree _ (Qad hy))
 ·exact Qam (x.above y c (Qad h))
 ·have hi:i<vs.length:=by
   unfold Zd2 at h2
   by_cases hi:i<vs.length
   ·exact hi
   ·rw[QP (by simpa using hi)]at h2
    rw[List.getElem?_replicate]at h2
    split at h2<;>cases h2
  have ha:vs[i]? = some v:=by
   unfold Zd2 at h2
   rw[QO (by simpa using hi),Qn]at h2
   cases e:vs[i]? with
   | none=>rw[e]at h2;cases h2
   | some a=>rw[e]at h2;cases h2;rfl
  obtain⟨u,hu,rv⟩:=r.get ha
  have hp:ps[i]? = some y:=by
   rw[← S.pre,List.getElem?_take_of_lt (by omega)];exact h1
  have ndP:ps.Nodup:=by rw[← S.pre];exact S.nd.sublist (List.take_sublist _ _)
  refine⟨u,rv,?_⟩
  rcases S.par y (Qw hp) with k|k
  ·exact .inl ⟨k,ZhW ndP hp hu k⟩
  ·obtain⟨c,e⟩:=Zj2 (n:=s.heap.objs.size+1) k
   refine .inr ⟨.inl k,c,e,?_⟩
   have q:=x.cell y c e
   rw[Zin ndP hp hu (by show scope.names.lookup y≠_;rw[k];decide)]at q
   exact q
 ·exact e0.hok.fresh (Qam (x.above y c (Qad h)))
 ·unfold Zd2
  show _=N.length
  rw[Qf,Qa,QM]
  omega
theorem Zsf{CX:CXT}{P:Program}{w:World}{K:PySem.W.Frag}{mg:Str→Option Value}{base:Heap}{k:Nat}{f:Addr}{name qual:Str}{params:Arguments}{body:List Stmt}{scope:Scope}{dV kV doc pm cdv ct oc:Value}{an od:Option Addr}
  {osl:Array (Option Value)} {N ps:List Str} {sp:Sp} (lk:K.lookup f=some ⟨oc,od,.func (PySem.W.fnOf name qual params body scope dV kV doc pm an cdv ct),osl⟩) (hcd:PySem.W.codeIn K cdv qual=true) (S:Zq N ps scope)
  (len:∀vs H Q E,sp vs H Q E→vs.length=ps.length)
  (hbody:∀ (A:Around) (outer:List Env) (s:Shared) (H:Hp) (vs:List V) (Q:VK) (E:XK),ZaV k (A.deeper (envOfC qual scope s.heap.objs.size f cdv))→sp vs H Q E →
   ∃t,PSs (ZiH CX P w K mg base N qual scope f cdv A outer s H E) body t∧t { nx:=fun _ H'=>Q .non H',rt:=Q } (Zd2 N vs) H) :
  ZeE P w K mg base CX (k+1) f (PySem.W.fnOf name qual params body scope dV kV doc pm an cdv ct) ps sp:=by
 refine⟨len,fun A outer s H args us vs Q E hr e0 hb r hsp=>?_⟩
 have hl:=len _ _ _ _ hsp
 have KX:K.In s.heap:=e0.mod.kin.keeps fun b o e=>(e0.bs b o e).1
 have lim:s.heap.NoLimit:=e0.mod.nolimit.keeps fun b o e=>(e0.bs b o e).1
 have hkind:∀y∈ps.zip us,scope.names.lookup y.1=some .local∨(scope.names.lookup y.1=some .cell∧((cellsFrom (s.heap.objs.size+1) scope.names []).lookup y.1).isSome=true):=fun ⟨n,v⟩ hy=>by
  rcases S.par n (List.of_mem_zip hy).1 with q|q
  ·exact .inl q
  ·exact .inr ⟨q,PySem.W.cellsFrom_some _ _ _ (.inl q)⟩
 refine codeAny_call_function hr.depth (KX _ _ lk) rfl S.co S.gen rfl (PySem.W.codeRec_of KX hcd) (hb _ _ _ _ ?_)
 refine wpAny_newFunctionEnv_cells S.kind hkind fun env he s1 x=>?_
 subst he
 refine⟨lim.keeps x.toInCall.keep,codeAny_func ?_⟩
 obtain⟨t,ht,hq⟩:=hbody A outer s H vs Q E (hr.deeper _) hsp
 have I:Inv (ZiH CX P w K mg base N qual scope f cdv A outer s H E) [] (Zd2 N vs) H s1:=Zlu S hr.hd e0 hl r x
 refine wpAny_mono (ht [] s1 (Zd2 N vs) H _ I hq) (fun fl s' hs=>?_) fun e s' hs=>hs
 have fin:∀ {σ':St} {H':Hp} {v:V} {u:Value},Inv (ZiH CX P w K mg base N qual scope f cdv A outer s H E) [] σ' H' s'→ZI v u→Q v H'→CE outer P w H s Q u s' :=
  fun {σ' H' v u} J rv q=>⟨v,H',J.os,J.bare,J.base,J.hok,rv,q⟩
 cases fl with
 | ret u =>
  obtain⟨v,σ',H',J,rv,q⟩:=hs
  exact fin J rv q
 | next =>
  obtain⟨σ',H',J,q⟩:=hs
  exact fin (v:=V.non) (u:=Value.none) J rfl q
 | brk =>
  obtain⟨_,_,_,q⟩:=hs
  exact False.elim q
 | cont =>
  obtain⟨_,_,_,q⟩:=hs
  exact False.elim q
section
variable {X:Cx} {x:Str} {p pos:Pos} {e:Expr} {es:List Expr} {t:TA} {id T:String} {r:List V→Hp→VK→Prop}
def tCB(r:List V→Hp→VK→Prop)(t:TA):TE:=fun σ H Q=>t σ H fun vs H1=>r vs H1 Q
theorem Zk(hc:ZaH X (.builtin id) r)(hg:Gl X x)(hm:X.mg x=none)(hv:bootBuiltins x=some (.builtin id))(ha:PA X (e::es) t)(hn:x ≠ "__name__":=by decide)(hdb:(x == ("__debug__" : Str))=false:=by decide)
  (he:starEach (e::es) X.env=(false,eval e X.env)::starEach es X.env:=by rfl) (hpl:(backTo pos (starEach es X.env)).any (·.1)=false:=by rfl):PE X (.Call (.Name x p) (e::es) [] pos) (tCB r t):=by
 intro pins s σ H Q I h
 refine wpAny_Call_Name_kw (Zd1 I hg hm hv ?_ hn hdb)
 exact PyProof.Rows.callWith_builtin1 (thn (ha pos pins s σ H _ I h) fun us s1 ⟨vs,H1,I1,r1,q1⟩=>hc pins s1 σ H1 vs us Q I1 r1 q1) he hpl
theorem ZaT(hc:ZaH X (.type T) r)(hg:Gl X x)(hm:X.mg x=none)(hv:bootBuiltins x=some (.type T))(ha:PA X (e::es) t)(hn:x ≠ "__name__":=by decide)(hdb:(x == ("__debug__" : Str))=false:=by decide)
  (he:starEach (e::es) X.env=(false,eval e X.env)::starEach es X.env:=by rfl) (hpl:(backTo pos (starEach es X.env)).any (·.1)=false:=by rfl):PE X (.Call (.Name x p) (e::es) [] pos) (tCB r t):=by
 intro pins s σ H Q I h
 refine wpAny_Call_Name_kw (Zd1 I hg hm hv ?_ hn hdb)
 exact QW (thn (ha pos pins s σ H _ I h) fun us s1 ⟨vs,H1,I1,r1,q1⟩=>hc pins s1 σ H1 vs us Q I1 r1 q1) he hpl
end
end L2
namespace HT
open PySem PyProof.Rows
def lexLt:List Int→List Int→Bool
 | [],[]=>false
 | [],_::_=>true
 | _::_,[]=>false
 | x::xs,y::ys=>if x=y then lexLt xs ys else decide (x<y)
theorem ZqP(x y:Int)(xs ys:List Int):lexLt (x::xs) (y::ys)=if x=y then lexLt xs ys else decide (x<y):=rfl
theorem Zon:lexLt [] []=false:=rfl
theorem ZnT(y:Int)(ys:List Int):lexLt [] (y::ys)=true:=rfl
theorem Znp(x:Int)(xs:List Int):lexLt (x::xs) []=false:=rfl
section
open PySem.SeqAt
open PySem.AutoSeq1 (wpAny_loadPart')
open PySem.MeetsSeq PySem.MeetsSeq2 PySem.MeetsSeq3
end
section
variable {prog:Program} {w:World} {A:Around} {E:Value→Shared→Prop} {s:Shared}
def sIx(n d:Nat):Option Int→Nat
 | none=>d
 | some v=>if v<0 then (v+(n:Int)).toNat else min v.toNat n
theorem ZrG(n d:Nat):sIx n d none=d:=rfl
end
end HT
namespace L2
open PySem PySem.Spec PyProof.Rows
abbrev TO:=St→Hp→(Option Int→Hp→Prop)→Prop
def PO(X:Cx)(e:Option Expr)(t:TO):Prop :=
 ∀ (pins:List (Addr×Obj)) (s:Shared) (σ:St) (H:Hp) (Q:Option Int→Hp→Prop),Inv X pins σ H s→t σ H Q →
  wpAny (model X.prog X.w) X.A (evalPart e X.env) (fun u s'=>∃o H',Inv X pins σ H' s'∧IsPart u o∧Q o H') X.xe s
def Zpc:TO:=fun _ H Q=>Q none H
def Zr5(t:TE):TO:=fun σ H Q=>t σ H fun x H1=>∃i,x=.int i∧Q (some i) H1
theorem ZgP{ns:List Int}:∀ {us:List Value},ZG (ns.map V.int) us→IntsAre us ns:=by
 induction ns with
 | nil=>intro us r;rw[QaP]at r;cases r;exact .nil
 | cons n ns ih =>
  intro us r
  rw[Qh]at r
  cases r with
  | cons r1 r2 =>
   obtain⟨t,e⟩:=r1
   subst e
   exact .cons n t (ih r2)
section
variable {X:Cx} {e:Expr} {te:TE} {lo hi:Option Expr} {tl th:TO} {pos p2:Pos}
theorem ZdD:PO X none Zpc:=by
 intro pins s σ H Q I h
 rw[evalPart_none]
 exact wpAny_pure ⟨none,H,I,.none,h⟩
theorem Zeu(h:PE X e te):PO X (some e) (Zr5 te):=by
 intro pins s σ H Q I hw
 rw[evalPart_some]
 refine thn (h pins s σ H _ I hw) ?_
 rintro u s1 ⟨x,H1,I1,r1,q1⟩
 obtain⟨i,rfl,q⟩:=q1
 obtain⟨t,rfl⟩:=r1
 exact⟨some i,H1,I1,.int i t,q⟩
def SlR(X:Cx)(r:V→Option Int→Option Int→Hp→VK→Prop):Prop :=
 ∀ (pins:List (Addr×Obj)) (s:Shared) (σ:St) (H:Hp) (x:V) (v vl vu:Value) (lo hi:Option Int) (sl:Addr) (Q:VK),Inv X pins σ H s→ZI x v→s.heap.IsSliceOf sl vl vu .none→IsPart vl lo→IsPart vu hi→r x lo hi H Q →
  ∃T id,typeLookup (.type T) "__getitem__" = pure (some (.builtin id))∧s.TypeIs v T∧wpAny (model X.prog X.w) X.A (getItem v (.ref sl)) (EP X pins σ Q) X.xe s
def tSl(r:V→Option Int→Option Int→Hp→VK→Prop)(te:TE)(tl th:TO):TE:=fun σ H Q=>te σ H fun x H1=>tl σ H1 fun l H2=>th σ H2 fun u H3=>r x l u H3 Q
theorem ZdX{r:V→Option Int→Option Int→Hp→VK→Prop}(hr:SlR X r)(he:PE X e te)(hl:PO X lo tl)(hu:PO X hi th):PE X (.Subscript e (.Slice lo hi none p2) pos) (tSl r te tl th):=by
 intro pins s σ H Q I h
 refine Subscript_ (thn (he pins s σ H _ I h) ?_)
 rintro v s1 ⟨x,H1,I1,r1,q1⟩
 refine wpAny_Slice (thn (hl pins s1 σ H1 _ I1 q1) fun vl s2 ⟨l,H2,I2,pl,q2⟩=>thn (hu pins s2 σ H2 _ I2 q2) ?_)
 rintro vu s3 ⟨u,H3,I3,pu,q3⟩
 rw[evalPart_none]
 refine wpAny_pure ?_
 have I4:Inv X pins σ H3 { s3 with heap:=s3.heap.push { cls:=.type "slice",data:=.fields #[vl,vu,.none] } }:=I3.kept (t':=s3.toks) fun b ob q=>Qc _ q
 obtain⟨T,id,hT,ht,hg⟩:=hr pins { s3 with heap:=s3.heap.push { cls:=.type "slice",data:=.fields #[vl,vu,.none] } } σ H3 x v vl vu l u s3.heap.objs.size Q I4 r1 (Heap.IsSliceOf.new ..) pl pu q3
 show wpAny (model X.prog X.w) X.A (subscriptTail e (.Slice lo hi none p2) v (.ref s3.heap.objs.size)) (EP X pins σ Q) X.xe { s3 with heap:=s3.heap.push { cls:=.type "slice",data:=.fields #[vl,vu,.none] } }
 exact tail_any (ops:=[.ref s3.heap.objs.size,v]) ht hT hg (by with_unfolding_all rfl)
def Zhi(xs:List V)(lo hi:Option Int):List V:=(xs.drop (HT.sIx xs.length 0 lo)).take (HT.sIx xs.length xs.length hi-HT.sIx xs.length 0 lo)
theorem ZfY(xs:List V)(lo hi:Option Int):(Zhi xs lo hi).length≤xs.length:=by
 unfold Zhi
 rw[QA,Q0]
 omega
def rSlT(K:PySem.W.Frag):V→Option Int→Option Int→Hp→VK→Prop:=fun x lo hi H Q=>∃a xs,x=.ref a∧SqT K H a xs ∧
 ¬ (HT.sIx xs.length 0 lo=0∧HT.sIx xs.length xs.length hi=xs.length)∧∀p,H p=none→Q (.ref p) (upd H p (.tup (Zhi xs lo hi)))
def rLtT(K:PySem.W.Frag):R2:=fun x y H Q=>∃a b ns ms,x=.ref a∧y=.ref b∧SqT K H a (ns.map V.int)∧SqT K H b (ms.map V.int)∧Q (.bl (HT.lexLt ns ms)) H
def rCatT(K:PySem.W.Frag):R2:=fun x y H Q=>∃a b xs ys,x=.ref a∧y=.ref b∧SqT K H a xs∧SqT K H b ys∧xs≠[]∧xs.length+ys.length≤sizeLine ∧
 (ys=[]→Q (.ref a) H)∧(ys≠[]→∀p,H p=none→Q (.ref p) (upd H p (.tup (xs++ys))))
end
def ixN(n:Nat)(i:Int):Option Nat:=if 0≤i then (if i<n then some i.toNat else none) else if -(n:Int)≤i then some (i+n).toNat else none
def atI{α:Type}(xs:List α)(i:Int):Option α:=(ixN xs.length i).bind fun j=>xs[j]?
theorem Zld{n:Nat}{i:Int}{j:Nat}(h:ixN n i=some j):seqIndex? i n=some j∧j<n ∧ -(n:Int)≤i∧i<n:=by
 unfold ixN at h
 by_cases h0:0≤i
 ·rw[if_pos h0]at h
  by_cases h1:i<n
  ·rw[if_pos h1]at h
   have e:i.toNat=j:=Ql h
   exact⟨by rw[seqIndex_of h0 h1,e],by omega,by omega,h1⟩
  ·rw[if_neg h1]at h;cases h
 ·rw[if_neg h0]at h
  by_cases h1:-(n:Int)≤i
  ·rw[if_pos h1]at h
   have e:(i+n).toNat=j:=Ql h
   exact⟨by rw[seqIndex_neg (by omega) h1,e],by omega,h1,by omega⟩
  ·rw[if_neg h1]at h;cases h
theorem Zit{α:Type}{xs:List α}{i:Int}{v:α}(h:atI xs i=some v):∃j,seqIndex? i xs.length=some j∧xs[j]? = some v∧j<xs.length ∧ -(xs.length:Int)≤i∧i<xs.length:=by
 unfold atI at h
 cases e:ixN xs.length i with
 | none=>rw[e]at h;cases h
 | some j =>
  rw[e]at h
  obtain⟨h1,h2,h3,h4⟩:=Zld e
  exact⟨j,h1,h,h2,h3,h4⟩
theorem Zam{α:Type}{xs:List α}{j:Nat}{v:α}(h:xs[j]? = some v):atI xs (j:Int)=some v:=by
 have hj:j<xs.length:=(Qi.mp h).1
 have e:ixN xs.length (j:Int)=some j:=by
  unfold ixN
  rw[if_pos (by omega),if_pos (by omega)];simp
 unfold atI;rw[e];exact h
theorem Znk{α:Type}(xs:List α)(v:α):atI (xs++[v]) (-1)=some v:=by
 have hl:(xs++[v]).length=xs.length+1:=by simp
 have e:ixN (xs++[v]).length (-1)=some xs.length:=by
  unfold ixN
  rw[hl,if_neg (by decide),if_pos (by omega)]
  congr 1
  omega
 unfold atI
 rw[e]
 show (xs++[v])[xs.length]? = some v
 simp
def ZpB(b:Expr):Prop:=∀o i,subscripted b false o i=operate [o,i] (getItem o i)
def IxR(X:Cx)(r:R2):Prop :=
 ∀ (value slice:Expr) (pins:List (Addr×Obj)) (s:Shared) (σ:St) (H:Hp) (x y:V) (v u:Value) (Q:VK),Inv X pins σ H s→ZI x v→ZI y u→r x y H Q →
  subscripted slice false v u=operate [v,u] (getItem v u)→wpAny (model X.prog X.w) X.A (subscriptTail value slice v u) (EP X pins σ Q) X.xe s
def MtR(X:Cx)(id:String)(r:V→List V→Hp→VK→Prop):Prop :=
 ∀ (pins:List (Addr×Obj)) (s:Shared) (σ:St) (H:Hp) (x:V) (xs:List V) (v:Value) (us:List Value) (Q:VK),Inv X pins σ H s→ZI x v→ZG xs us→r x xs H Q →
  wpAny (model X.prog X.w) X.A (call (.builtin id) (v::us)) (EP X pins σ Q) X.xe s
section
variable {X:Cx} {a b:Expr} {ta tb:TE} {pos:Pos}
theorem Zm{r:R2}(hr:IxR X r)(ha:PE X a ta)(hb:PE X b tb)(hs:ZpB b):PE X (.Subscript a b pos) (tOp r ta tb):=by
 intro pins s σ H Q I h
 exact Subscript_ (Zqu ha hb I h fun v u s2 x y H2 I2 rx ry q=>hr a b pins s2 σ H2 x y v u Q I2 rx ry q (hs _ _))
def ZpJ(K:PySem.W.Frag):R2:=fun x y H Q=>∃p xs i v,x=.ref p∧y=.int i∧SqL K H p xs∧atI xs i=some v∧Q v H
def Zqw(K:PySem.W.Frag):R2:=fun x y H Q=>∃p xs i v,x=.ref p∧y=.int i∧SqT K H p xs∧atI xs i=some v∧Q v H
def Zrl:R2:=fun x y H Q=>∃z i c,x=.str z∧y=.int i∧z.length≤sizeLine∧atI z.cps.toList i=some c∧Q (.str ⟨#[c]⟩) H
theorem Zph:IxR X (ZpJ X.K):=by
 intro value slice pins s σ H x y v u Q I rx ry h hs
 obtain⟨p,xs,i,z,rfl,rfl,hq,he,q⟩:=h
 cases rx
 obtain⟨t,rfl⟩:=ry
 obtain⟨its,r,pl,hz⟩:=I.list hq
 obtain⟨j,h1,h2,h3,h4,h5⟩:=Zit he
 obtain⟨w,ew,rw'⟩:=r.get h2
 have hl:=r.length
 have hn:=ZfT
 have fin:EP X pins σ Q w s:=⟨z,H,I,rw',q⟩
 by_cases h0:0≤i
 ·have hj:i.toNat=j:=by
   rw[seqIndex_of h0 h5]at h1
   exact Ql h1
  exact item_listR pl.isList h0 (by omega) (by rw[hj];simpa using ew) fin hs
 ·have hj:(i+(its.toArray.size:Int)).toNat=j:=by
   rw[seqIndex_neg (by omega) h4]at h1
   rw[QE,← hl]
   exact Ql h1
  exact subscriptTail_builtinR (x:=w) pl.isList.typeIs slot_list_getitem.lookup
   (wpAny_getItem_list_neg (Q:=fun r s'=>r=w∧EP X pins σ Q r s') pl.isList (by omega) (by rw[QE]<;>omega) (by omega) (by rw[hj];simpa using ew) ⟨rfl,fin⟩) hs
theorem Zqy:IxR X (Zqw X.K):=by
 intro value slice pins s σ H x y v u Q I rx ry h hs
 obtain⟨p,xs,i,z,rfl,rfl,hq,he,q⟩:=h
 cases rx
 obtain⟨t,rfl⟩:=ry
 obtain⟨its,r,pl,hz⟩:=I.tuple hq
 obtain⟨j,h1,h2,h3,h4,h5⟩:=Zit he
 obtain⟨w,ew,rw'⟩:=r.get h2
 have hl:=r.length
 have hn:=ZfT
 have fin:EP X pins σ Q w s:=⟨z,H,I,rw',q⟩
 exact subscriptTail_builtinR (x:=w) pl.typeIs slot_tuple_getitem.lookup
  (getItem_tuple (j:=j) (Q:=fun r s'=>r=w∧EP X pins σ Q r s') pl (by omega) (by omega) (by rw[QE,← hl];exact h1) (by simpa using ew) ⟨rfl,fin⟩) hs
theorem Zem:IxR X Zrl:=by
 intro value slice pins s σ H x y v u Q I rx ry h hs
 obtain⟨z,i,c,rfl,rfl,hz,he,q⟩:=h
 obtain⟨t,rfl⟩:=rx
 obtain⟨t',rfl⟩:=ry
 obtain⟨j,h1,h2,h3,h4,h5⟩:=Zit he
 have hl:z.cps.toList.length=z.length:=by simp[Str.length]
 rw[hl]at h1 h4 h5
 have hn:=ZfT
 exact tail_any (typeIs_str s z t) slot_str_getitem.lookup (getItem_str (c:=c) (by
  have e1:decide (i < -(2 ^ 63:Int))=false:=decide_eq_false (by omega)
  have e2:decide (i≥2 ^ 63)=false:=decide_eq_false (by omega)
  rw[e1,e2,Bool.or_false]) (by rw[h1];simpa using h2) ⟨.str ⟨#[c]⟩,H,I.tok _,⟨_,rfl⟩,q⟩) hs
def rIx(K:PySem.W.Frag):R2:=fun x y H Q=>ZpJ K x y H Q∨Zqw K x y H Q∨Zrl x y H Q
theorem Zj8(its:List Value)(n j:Nat)(u:Value):Obj.mapSeq (·.setIfInBounds j u) { cls:=.type "list",data:=.seq its.toArray n }={ cls:=.type "list",data:=.seq (its.set j u).toArray n }:=by
 simp[Obj.mapSeq]
theorem Inv.lst{pins:List (Addr×Obj)}{σ:St}{H:Hp}{s:Shared}{p:Addr}{xs:List V}(I:Inv X pins σ H s)(h:H p=some (.lst xs)) :
  ∃ (its:List Value) (n:Nat),ZG xs its∧s.heap.get? p=some { cls:=.type "list",data:=.seq its.toArray n }∧xs.length≤sizeLine:=by
 obtain⟨z,its,n,r,e⟩:=I.hok p _ h
 exact⟨its,n,r,e,z⟩
theorem Inv.lstUpd{pins:List (Addr×Obj)}{σ:St}{H:Hp}{s:Shared}{p:Addr}{xs ys:List V}{its its':List Value}{n n':Nat}{f:Obj→Obj}(I:Inv X pins σ H s)(h:H p=some (.lst xs))
  (ho:s.heap.get? p=some { cls:=.type "list",data:=.seq its.toArray n }) (hf:f { cls:=.type "list",data:=.seq its.toArray n }={ cls:=.type "list",data:=.seq its'.toArray n' }) (r:ZG ys its') (hz:ys.length≤sizeLine) (t:Nat) :
  Inv X pins σ (upd H p (.lst ys)) { s with heap:=s.heap.update p f,toks:=t }:=by
 have e:(s.heap.update p f).get? p=some { cls:=.type "list",data:=.seq its'.toArray n' }:=by
  rw[Heap.get?_update_self f ho (by rw[hf]<;>rfl),hf]
 refine I.write (x:=p) (e:=p) (by rw[h];trivial) (.inl rfl) (fun b u hb q=>(Heap.get?_update_other _ _ (Ne.symm hb)).trans q) ⟨_,e⟩ ?_
 exact⟨hz,its',n',r,e⟩
def Zsi:V→V→V→Hp→(Hp→Prop)→Prop:=fun o i v H Q=>∃p xs k j,o=.ref p∧i=.int k∧H p=some (.lst xs)∧ixN xs.length k=some j∧Q (upd H p (.lst (xs.set j v)))
theorem Zi6:ZqU X Zsi:=by
 intro pins s σ H o i v ov iv u Q I ro ri rv h
 obtain⟨p,xs,k,j,rfl,rfl,hp,hj,q⟩:=h
 cases ro
 obtain⟨t,rfl⟩:=ri
 obtain⟨its,n,r,ho,hz⟩:=I.lst hp
 obtain⟨h1,h2,h3,h4⟩:=Zld hj
 have hl:=r.length
 have hn:=ZfT
 have I':Inv X pins σ (upd H p (.lst (xs.set j v))) { s with heap:=s.heap.update p (Obj.mapSeq (·.setIfInBounds j u)) } :=
  I.lstUpd hp ho (Zj8 its n j u) (r.set rv j) (by rw[List.length_set];exact hz) s.toks
 by_cases h0:0≤k
 ·have hk:k.toNat=j:=by
   rw[seqIndex_of h0 h4]at h1
   exact Ql h1
  exact PySem.W.ki_setAt ho h0 (by omega) (by rw[QE,← hl];exact h4) (by rw[hk];exact⟨_,I',q⟩)
 ·have hk:(k+(its.toArray.size:Int)).toNat=j:=by
   rw[seqIndex_neg (by omega) h3]at h1
   rw[QE,← hl]
   exact Ql h1
  exact PySem.W.ki_setBack ho (by omega) (by rw[QE,← hl];exact h3) (by omega) (by rw[hk];exact⟨_,I',q⟩)
theorem ZiX(lo hi:Option Int)(n:Nat):(sliceBounds lo hi none n).1=((HT.sIx n 0 lo:Nat):Int)∧(sliceBounds lo hi none n).2.1=((HT.sIx n n hi:Nat):Int)∧(sliceBounds lo hi none n).2.2=1:=by
 refine⟨?_,?_,rfl⟩
 ·cases lo with
  | none=>simp[sliceBounds,HT.sIx]
  | some i =>
   simp only[sliceBounds,HT.sIx,Option.getD_none,show (1:Int)>0 by decide,if_true]
   by_cases h:i<0
   ·simp only[h,if_true]<;>omega
   ·simp only[h,if_false]<;>omega
 ·cases hi with
  | none=>simp[sliceBounds,HT.sIx]
  | some i =>
   simp only[sliceBounds,HT.sIx,Option.getD_none,show (1:Int)>0 by decide,if_true]
   by_cases h:i<0
   ·simp only[h,if_true]<;>omega
   ·simp only[h,if_false]<;>omega
theorem Zht(its:List Value)(lo hi:Option Int):slicePick its.toArray lo hi none=((its.drop (HT.sIx its.length 0 lo)).take (HT.sIx its.length its.length hi-HT.sIx its.length 0 lo)).toArray:=by
 obtain⟨h1,h2,h3⟩:=ZiX lo hi its.toArray.size
 unfold slicePick
 rw[h1,h2,h3]
 simp only[sliceRange_one,pick_run,List.size_toArray]<;>rfl
def ZrU(K:PySem.W.Frag):V→Option Int→Option Int→Hp→VK→Prop:=fun x lo hi H Q=>∃a xs,x=.ref a∧SqL K H a xs∧∀p,H p=none→Q (.ref p) (upd H p (.lst (Zhi xs lo hi)))
theorem Zpb:SlR X (ZrU X.K):=by
 intro pins s σ H x v vl vu lo hi sl Q I rx hs pl pu h
 obtain⟨a,xs,rfl,hx,q⟩:=h
 cases rx
 obtain⟨its,r,ht,hz⟩:=I.list hx
 have hlen:=r.length
 refine⟨"list",_,slot_list_getitem.lookup,ht.isList.typeIs,?_⟩
 refine wpAny_getItem_list_slice ht.isList hs pl pu .none (by simp) ?_ (by rw[QE]<;>omega)
 rw[Zht,← hlen]
 refine⟨.ref s.heap.objs.size,_,I.laid (t':=s.toks) (o:=.lst (Zhi xs lo hi)) (fun b ob q=>Qc _ q) (Qg _) ?_,rfl,q _ (I.hok.fresh (Qg _))⟩
 exact⟨Qy (ZfY xs lo hi) hz,_,0,(r.drop (HT.sIx xs.length 0 lo)).take (HT.sIx xs.length xs.length hi-HT.sIx xs.length 0 lo),Qq _ rfl⟩
def Zfa:V→Bool
 | .non=>true
 | .bl _=>true
 | .int _=>true
 | .str _=>true
 | _=>false
def eqV:V→V→Bool
 | .non,.non=>true
 | .bl a,.bl b=>a == b
 | .bl a,.int b=>(if a then 1 else 0) == b
 | .int a,.bl b=>a == (if b then 1 else 0)
 | .int a,.int b=>a == b
 | .str a,.str b=>a == b
 | _,_=>false
theorem Zqi{A:Around}{s:Shared}{y x:V}{u v:Value}(ry:ZI y u)(rx:ZI x v)(fy:Zfa y=true)(fx:Zfa x=true):SeqAt.EqAt A s u v (eqV y x):=by
 cases y with
 | non =>
  cases ry
  cases x with
  | non=>cases rx;exact SeqAt.EqAt.same _
  | bl b=>cases rx;exact SeqAt.EqAt.none_bool b
  | int b=>obtain⟨t,rfl⟩:=rx;exact SeqAt.EqAt.none_int b t
  | str b=>obtain⟨t,rfl⟩:=rx;exact SeqAt.EqAt.none_str b t
  | _=>exact absurd (show false=true from fx) Qm
 | bl a =>
  cases ry
  cases x with
  | non=>cases rx;exact SeqAt.EqAt.bool_none a
  | bl b=>cases rx;exact SeqAt.EqAt.bool_bool a b
  | int b=>obtain⟨t,rfl⟩:=rx;exact SeqAt.EqAt.bool_int a b t
  | str b=>obtain⟨t,rfl⟩:=rx;exact SeqAt.EqAt.bool_str a b t
  | _=>exact absurd (show false=true from fx) Qm
 | int a =>
  obtain⟨t',rfl⟩:=ry
  cases x with
  | non=>cases rx;exact SeqAt.EqAt.int_none a t'
  | bl b=>cases rx;exact SeqAt.EqAt.int_bool a t' b
  | int b=>obtain⟨t,rfl⟩:=rx;exact SeqAt.EqAt.int_int a t' b t
  | str b=>obtain⟨t,rfl⟩:=rx;exact SeqAt.EqAt.int_str a t' b t
  | _=>exact absurd (show false=true from fx) Qm
 | str a =>
  obtain⟨t',rfl⟩:=ry
  cases x with
  | non=>cases rx;exact SeqAt.EqAt.str_none a t'
  | bl b=>cases rx;exact SeqAt.EqAt.str_bool a t' b
  | int b=>obtain⟨t,rfl⟩:=rx;exact SeqAt.EqAt.str_int a t' b t
  | str b=>obtain⟨t,rfl⟩:=rx;exact SeqAt.EqAt.str_str a t' b t
  | _=>exact absurd (show false=true from fx) Qm
 | _=>exact absurd (show false=true from fy) Qm
def eqU(x:V)(u:Value):Bool:=match u with
 | .none=>eqV .non x
 | .bool b=>eqV (.bl b) x
 | .int i _=>eqV (.int i) x
 | .str z _=>eqV (.str z) x
 | _=>false
theorem Zog{x y:V}{u:Value}(r:ZI y u)(f:Zfa y=true):eqU x u=eqV y x:=by
 cases y with
 | non=>cases r;rfl
 | bl b=>cases r;rfl
 | int i=>obtain⟨t,rfl⟩:=r;rfl
 | str z=>obtain⟨t,rfl⟩:=r;rfl
 | _=>exact absurd (show false=true from f) Qm
theorem Zi0{x:V}:∀ {xs:List V} {us:List Value},ZG xs us→xs.all Zfa=true→us.any (eqU x)=xs.any fun y=>eqV y x
 | _,_,.nil,_=>rfl
 | y::xs,u::us,.cons r t,f=>by
  rw[List.all_cons,QaC]at f
  rw[QaI,QaI,Zog r f.1,Zi0 t f.2]
theorem ZgD{A:Around}{s:Shared}{x:V}{v:Value}(rx:ZI x v)(fx:Zfa x=true):∀ {xs:List V} {us:List Value},ZG xs us→xs.all Zfa=true→∀u∈us,SeqAt.EqAt A s u v (eqU x u)
 | _,_,.nil,_=>fun u hu=>by cases hu
 | y::xs,u::us,.cons r t,f=>fun u' hu=>by
  rw[List.all_cons,QaC]at f
  rcases QI.mp hu with rfl|hu
  ·rw[Zog r f.1];exact Zqi r rx f.1 fx
  ·exact ZgD rx fx t f.2 u' hu
def inV(x:V)(xs:List V):Bool:=xs.any fun y=>eqV y x
def rIn(K:PySem.W.Frag)(neg:Bool):R2:=fun x y H Q=>∃p xs,y=.ref p∧(SqL K H p xs∨SqT K H p xs)∧Zfa x=true∧xs.all Zfa=true∧Q (.bl (if neg then !inV x xs else inV x xs)) H
theorem ZlY:OpR X (compareOp .In) (rIn X.K false):=by
 intro pins s σ H x y v u Q I rx ry h
 obtain⟨p,xs,rfl,hq,fx,fs,q⟩:=h
 cases ry
 rcases hq with hq|hq
 ·obtain⟨its,r,pl,hz⟩:=I.list hq
  refine SeqAt.in_listAt (eqU x) pl.isList (fun w hw=>ZgD rx fx r fs w (by simpa using hw)) ⟨.bl _,H,I,rfl,?_⟩
  rw[show its.toArray.any (eqU x)=its.any (eqU x) by simp,Zi0 r fs]
  exact q
 ·obtain⟨its,r,pl,hz⟩:=I.tuple hq
  refine SeqAt.in_tupleAt (eqU x) pl (fun w hw=>ZgD rx fx r fs w (by simpa using hw)) ⟨.bl _,H,I,rfl,?_⟩
  rw[show its.toArray.any (eqU x)=its.any (eqU x) by simp,Zi0 r fs]
  exact q
theorem ZiA:ZaH X (.builtin "len") (fun xs H Q=>∃p ys,xs=[.ref p]∧(SqL X.K H p ys∨SqT X.K H p ys)∧Q (.int ys.length) H):=by
 intro pins s σ H xs us Q I r h
 obtain⟨p,ys,rfl,hq,q⟩:=h
 obtain⟨u,rfl,rx⟩:=Zdd r
 cases rx
 have hn:=ZfT
 rcases hq with hq|hq
 ·obtain⟨its,r',pl,hz⟩:=I.list hq
  have hlen:=r'.length
  exact Calls.call_len_list pl.isList (by simp only[List.size_toArray]<;>omega) ⟨.int ys.length,H,I.tok _,⟨s.toks+1,by rw[QE,hlen]⟩,q⟩
 ·obtain⟨its,r',pl,hz⟩:=I.tuple hq
  have hlen:=r'.length
  exact len_tuple pl (by simp only[List.size_toArray]<;>omega) ⟨.int ys.length,H,I.tok _,⟨s.toks+1,by rw[QE,hlen]⟩,q⟩
theorem ZaG:ZaH X (.builtin "len") (fun xs H Q=>∃z,xs=[.str z]∧z.length≤sizeLine∧Q (.int z.length) H):=by
 intro pins s σ H xs us Q I r h
 obtain⟨z,rfl,hz,q⟩:=h
 obtain⟨u,rfl,t,rfl⟩:=Zdd r
 have hn:=ZfT
 exact len_str (by omega) ⟨.int z.length,H,I.tok _,⟨_,rfl⟩,q⟩
theorem ZiC:ZaH X (.type "list") (fun xs H Q=>∃p ys,xs=[.ref p]∧(SqL X.K H p ys∨SqT X.K H p ys)∧∀l,H l=none→Q (.ref l) (upd H l (.lst ys))):=by
 intro pins s σ H xs us Q I r h
 obtain⟨p,ys,rfl,hq,q⟩:=h
 obtain⟨u,rfl,rx⟩:=Zdd r
 cases rx
 have fin:∀ (its:List Value),ZG ys its→ys.length≤sizeLine→∀ (h':Heap) (c':Nat),(∀b o',s.heap.get? b=some o'→h'.get? b=some o') →
   h'.get? s.heap.objs.size=some { cls:=.type "list",dict:=none,data:=.seq its.toArray c',slots:=#[] }→EP X pins σ Q (.ref s.heap.objs.size) { s with heap:=h' }:=fun its r' hz h' c' kp e =>
  ⟨.ref s.heap.objs.size,_,I.laid (t':=s.toks) kp (Qg _) (show Z9 X.prog X.w _ h' _ (.lst ys) from⟨hz,its,c',r',e⟩),rfl,q _ (I.hok.fresh (Qg _))⟩
 rcases hq with hq|hq
 ·obtain⟨its,r',pl,hz⟩:=I.list hq
  have hlen:=r'.length
  obtain⟨o,ho,hc,n,hd⟩:=pl.isList
  exact call_list_seq p (.inl rfl) ho hc hd (fun h' c' kp e=>fin its r' hz h' c' kp e) (by simp only[List.size_toArray]<;>omega)
 ·obtain⟨its,r',pl,hz⟩:=I.tuple hq
  have hlen:=r'.length
  obtain⟨o,ho,hc,n,hd⟩:=pl
  exact call_list_seq p (.inr rfl) ho hc hd (fun h' c' kp e=>fin its r' hz h' c' kp e) (by simp only[List.size_toArray]<;>omega)
def tyV(K:PySem.W.Frag)(T:String)(x:V)(H:Hp):Prop:=match x with
 | .str _=>T = "str"
 | .int _=>T = "int"
 | .ref p=>(T = "list"∧∃xs,SqL K H p xs)∨(T = "tuple"∧∃o,K.lookup p=some o∧o.cls=.type "tuple"∧o.dict=none) ∨
   (T = "dict"∧((∃kvs,H p=some (.dK kvs))∨∃kvs,H p=some (.dT kvs)))∨(T = "set"∧∃S n,H p=some (.set S n))
 | _=>False
theorem ZmR{pins:List (Addr×Obj)}{σ:St}{H:Hp}{s:Shared}{T:String}{x:V}{v:Value}(I:Inv X pins σ H s)(r:ZI x v)(ty:tyV X.K T x H) :
  s.TypeIs v T∧∀a,v=.ref a→∃ob,s.heap.get? a=some ob∧ob.dict=none:=by
 cases x with
 | str z =>
  obtain⟨t,rfl⟩:=r
  cases (show T = "str" from ty)
  exact⟨typeIs_str s z t,fun _ e=>nomatch e⟩
 | int i =>
  obtain⟨t,rfl⟩:=r
  cases (show T = "int" from ty)
  exact⟨typeIs_int s i t,fun _ e=>nomatch e⟩
 | ref p =>
  cases r
  rcases ty with⟨rfl,xs,hq⟩|⟨rfl,o,hk,hc,hd⟩|⟨rfl,hk⟩|⟨rfl,S,n,hk⟩
  ·obtain⟨its,_,pl,_⟩:=I.list hq
   refine⟨pl.isList.typeIs,fun a e=>?_⟩
   cases e
   obtain⟨o,n,e,c,hd,_⟩:=pl
   exact⟨o,e,hd⟩
  ·refine⟨⟨o,I.kIn p o hk,hc⟩,fun a e=>?_⟩
   cases e
   exact⟨o,I.kIn _ o hk,hd⟩
  ·have z:∃o,s.heap.get? p=some o∧o.ExactDict:=by
    rcases hk with⟨kvs,hk⟩|⟨kvs,hk⟩
    ·obtain⟨_,_,_,_,o,_,_,e,ex,_⟩:=I.hok p _ hk
     exact⟨o,e,ex⟩
    ·obtain⟨_,_,_,_,o,_,_,e,ex,_⟩:=I.hok p _ hk
     exact⟨o,e,ex⟩
   obtain⟨o,e,ex⟩:=z
   refine⟨⟨o,e,ex.1⟩,fun a e2=>?_⟩
   cases e2
   exact⟨o,e,ex.2.1⟩
  ·obtain⟨o,_,_,_,e,ex,_⟩:=I.hok p _ hk
   refine⟨⟨o,e,ex.1⟩,fun a e2=>?_⟩
   cases e2
   exact⟨o,e,ex.2.1⟩
 | _=>exact False.elim ty
def ZsJ(K:PySem.W.Frag)(T:String)(r:V→List V→Hp→VK→Prop)(to:TE):TE:=fun σ H Q=>to σ H fun x H1=>tyV K T x H1∧r x [] H1 Q
def tBM(K:PySem.W.Frag)(T:String)(r:V→List V→Hp→VK→Prop)(to:TE)(t:TA):TE:=fun σ H Q=>to σ H fun x H1=>tyV K T x H1∧t σ H1 fun xs H2=>r x xs H2 Q
variable {o e:Expr} {es:List Expr} {to:TE} {t:TA} {name:Str} {apos cpos:Pos} {T id:String} {r:V→List V→Hp→VK→Prop}
theorem Zm8(pa:PlainAttrs T)(slot:Slot T name id)(hty:typeOf (.builtin id)=pure (.type "method_descriptor"))(hm:MtR X id r)(ho:PE X o to)
  (hbase:attributeBase o name X.env (eval o X.env)=eval o X.env:=by rfl) (hline:(apos.endLine == cpos.line)=true:=by rfl):PE X (.Call (.Attribute o name apos) [] [] cpos) (ZsJ X.K T r to):=by
 intro pins s σ H Q I h
 refine wpAny_Call_method0_late hbase hline (thn (ho pins s σ H _ I h) ?_)
 rintro v s1 ⟨x,H1,I1,r1,ty,q1⟩
 obtain⟨h1,h2⟩:=ZmR I1 r1 ty
 exact⟨T,id,pa,slot,hty,h1,h2,Calls.callWith_builtin rfl (QaF (hm pins s1 σ H1 x [] v [] Q I1 r1 .nil q1))⟩
theorem ZdJ(pa:PlainAttrs T)(slot:Slot T name id)(hty:typeOf (.builtin id)=pure (.type "method_descriptor"))(hm:MtR X id r)(ho:PE X o to)(ha:PA X (e::es) t)
  (hbase:attributeBase o name X.env (eval o X.env)=eval o X.env:=by rfl)
  (hfew:((backTo cpos (starEach (e::es) X.env)).all (fun x=>!x.1)&&(backToKw cpos (keywordEach [] X.env)).all (fun x=>x.1.isSome)
   && decide ((e::es).length+([]:List Keyword).length+(if ([]:List Keyword).isEmpty then 0 else 1)<30))=true:=by rfl)
  (hline:(apos.endLine == cpos.line)=true:=by rfl) (hs:starEach (e::es) X.env=(false,eval e X.env)::starEach es X.env:=by rfl) (hplain:(backTo cpos (starEach es X.env)).any (·.1)=false:=by rfl) :
  PE X (.Call (.Attribute o name apos) (e::es) [] cpos) (tBM X.K T r to t):=by
 intro pins s σ H Q I h
 refine wpAny_Call_method_late hbase hfew hline rfl (thn (ho pins s σ H _ I h) ?_)
 rintro v s1 ⟨x,H1,I1,r1,ty,q1⟩
 obtain⟨h1,h2⟩:=ZmR I1 r1 ty
 refine⟨T,id,pa,slot,hty,h1,h2,?_⟩
 have hA:=ha cpos pins s1 σ H1 _ I1 q1
 rw[hs]at hA ⊢
 refine Calls.callWith_builtin (by show (false||(backTo cpos (starEach es X.env)).any (·.1))=false;rw[hplain]<;>rfl) (Calls.evalArgs_plain ?_)
 exact thn hA fun us s2 ⟨vs,H2,I2,r2,q2⟩=>hm pins s2 σ H2 x vs v us Q I2 r1 r2 q2
end
def MtM(X:Cx)(id:String)(r:V→List V→Hp→VK→Prop):Prop :=
 ∀ (pins:List (Addr×Obj)) (s:Shared) (σ:St) (H:Hp) (x:V) (xs:List V) (v:Value) (us:List Value) (Q:VK),Inv X pins σ H s→ZI x v→ZG xs us→r x xs H Q →
  wpAny (model X.prog X.w) X.A (call (.builtin id) (v::us)) (EP X pins σ Q) X.xe s
theorem ZG.one:∀ {x:V} {us:List Value},ZG [x] us→∃u,us=[u]∧ZI x u
 | _,_,.cons r .nil=>⟨_,rfl,r⟩
theorem ZG.two:∀ {x y:V} {us:List Value},ZG [x,y] us→∃u v,us=[u,v]∧ZI x u∧ZI y v
 | _,_,_,.cons r (.cons q .nil)=>⟨_,_,rfl,r,q⟩
theorem ZG.zero:∀ {us:List Value},ZG [] us→us=[]
 | _,.nil=>rfl
theorem ZG.reverse{xs:List V}{us:List Value}(h:ZG xs us):ZG xs.reverse us.reverse:=by
 induction h with
 | nil=>exact .nil
 | cons r t ih=>rw[Qay,Qay];exact ZG.append ih (.cons r .nil)
theorem ZG.rep{xs:List V}{us:List Value}(h:ZG xs us):∀k:Nat,ZG (List.replicate k xs).flatten (List.replicate k us).flatten
 | 0=>.nil
 | k+1=>by
  rw[Q2,Q2,Qaz,Qaz]
  exact ZG.append h (ZG.rep h k)
theorem Zib(its:List Value):∀ (k:Nat) (acc:List Value),
  List.foldl (fun x1 x2=>x1++x2) acc.toArray (List.replicate k its.toArray)=(acc++(List.replicate k its).flatten).toArray
 | 0,acc=>by simp
 | k+1,acc=>by
  have e:acc.toArray++its.toArray=(acc++its).toArray:=by simp
  have e2:(acc++its)++(List.replicate k its).flatten=acc++(List.replicate (k+1) its).flatten:=by
   rw[Q2,Qaz,QaA]
  rw[← e2,← Zib its k (acc++its),← e,Q2,List.foldl_cons]
section
variable {X:Cx} {pins:List (Addr×Obj)} {σ:St} {H:Hp} {s:Shared} {l b:Addr} {xs ys zs:List V}
theorem Inv.lset{its its':List Value}{n:Nat}{f:Array Value→Array Value}{t':Nat}(I:Inv X pins σ H s)(hH:H l=some (.lst xs))
  (e:s.heap.get? l=some { cls:=.type "list",data:=.seq its.toArray n }) (hf:f its.toArray=its'.toArray) (hv:ZG ys its') (hz:ys.length≤sizeLine) :
  Inv X pins σ (upd H l (.lst ys)) { s with heap:=s.heap.update l (Obj.mapSeq f),toks:=t' }:=by
 have q:=PySem.IsL.update e f
 rw[hf]at q
 refine I.write (x:=l) (e:=l) (by rw[hH];exact trivial) (.inl rfl) (fun b' u hb hu=>(Heap.get?_update_other s.heap (Obj.mapSeq f) (Ne.symm hb)).trans hu) ⟨_,q⟩ ?_
 exact⟨hz,its',_,hv,q⟩
theorem Inv.lnew{its:List Value}{t':Nat}(I:Inv X pins σ H s)(hv:ZG ys its)(hz:ys.length≤sizeLine) :
  Inv X pins σ (upd H s.heap.objs.size (.lst ys)) { s with heap:=s.heap.push { cls:=.type "list",data:=.seq its.toArray },toks:=t' } :=
 I.laid (fun _ _ q=>Qc _ q) (Qg _) ⟨hz,its,0,hv,Qq _ rfl⟩
theorem Inv.fresh(I:Inv X pins σ H s):H s.heap.objs.size=none:=I.hok.fresh (Qg _)
theorem Inv.lstM(I:Inv X pins σ H s)(hH:H l=some (.lst xs)):xs.length≤sizeLine∧∃ (its:List Value) (n:Nat),ZG xs its∧xs.length=its.length∧s.heap.get? l=some { cls:=.type "list",data:=.seq its.toArray n }:=by
 obtain⟨z,its,n,r,e⟩:=I.hok l _ hH
 exact⟨z,its,n,r,r.length,e⟩
theorem Zmv{n:Nat}(h:n≤sizeLine):Builtin.List.listTooLong n=false:=by
 unfold Builtin.List.listTooLong
 exact decide_eq_false (by omega)
end
section
variable {X:Cx}
def Zo1:V→List V→Hp→VK→Prop:=fun x vs H Q=>∃l xs y,x=.ref l∧vs=[y]∧H l=some (.lst xs)∧xs.length<sizeLine∧Q .non (upd H l (.lst (xs++[y])))
theorem Zbk:MtM X "list.append" Zo1:=by
 intro pins s σ H x vs v us Q I rx rv h
 obtain⟨l,xs,y,rfl,rfl,hH,hz,q⟩:=h
 cases rx
 obtain⟨u,rfl,ru⟩:=rv.one
 obtain⟨z,its,n,r,hl,e⟩:=I.lstM hH
 refine call_meets F.slot_list_append ⟨_,e,rfl⟩ F.entry_list_append (F.args_list_append_2 _ _) (PySem.list_append l its.toArray n u (by rw[QE];omega)) ⟨e,?_⟩
 refine⟨.non,_,I.lset (its':=its++[u]) hH e (by simp) (r.append (.cons ru .nil)) ?_,rfl,q⟩
 rw[Qf,Qt]
 omega
def rExtend:V→List V→Hp→VK→Prop:=fun x vs H Q=>∃l b xs zs,x=.ref l∧vs=[.ref b]∧H l=some (.lst xs)∧H b=some (.lst zs)∧xs.length+zs.length≤sizeLine∧Q .non (upd H l (.lst (xs++zs)))
def rPop:V→List V→Hp→VK→Prop:=fun x vs H Q=>∃l xs y,x=.ref l∧vs=[]∧H l=some (.lst xs)∧xs[xs.length-1]? = some y∧Q y (upd H l (.lst xs.dropLast))
def rPopAt:V→List V→Hp→VK→Prop:=fun x vs H Q=>∃l xs i k y,x=.ref l∧vs=[.int i]∧H l=some (.lst xs) ∧ -(2 ^ 63)≤i∧i<2 ^ 63∧seqIndex? i xs.length=some k∧xs[k]? = some y∧Q y (upd H l (.lst (xs.eraseIdx k)))
def Zn5:V→List V→Hp→VK→Prop:=fun x vs H Q=>∃l xs,x=.ref l∧vs=[]∧H l=some (.lst xs)∧Q .non (upd H l (.lst xs.reverse))
theorem ZgZ:MtM X "list.reverse" Zn5:=by
 intro pins s σ H x vs v us Q I rx rv h
 obtain⟨l,xs,rfl,rfl,hH,q⟩:=h
 cases rx
 have hus:=rv.zero
 subst hus
 obtain⟨z,its,n,r,hl,e⟩:=I.lstM hH
 refine call_meets F.slot_list_reverse ⟨_,e,rfl⟩ F.entry_list_reverse (F.args_list_reverse_1 _) (AutoSeq1.list_reverse_list_0 l its.toArray n (by rw[QE];omega)) ⟨e,?_⟩
 refine⟨.non,_,I.lset (its':=its.reverse) hH e (by simp) r.reverse ?_,rfl,q⟩
 rw[QaG]
 omega
def rClear:V→List V→Hp→VK→Prop:=fun x vs H Q=>∃l xs,x=.ref l∧vs=[]∧H l=some (.lst xs)∧Q .non (upd H l (.lst []))
def Zsd:R2:=fun x y H Q=>∃l b xs zs,x=.ref l∧y=.ref b∧H l=some (.lst xs)∧H b=some (.lst zs)∧xs.length+zs.length≤sizeLine∧∀p,H p=none→Q (.ref p) (upd H p (.lst (xs++zs)))
theorem ZcT:OpR X (binaryOp .Add) Zsd:=by
 intro pins s σ H x y v u Q I rx ry h
 obtain⟨l,b,xs,zs,rfl,rfl,hH,hB,hz,q⟩:=h
 cases rx
 cases ry
 obtain⟨z,its,n,r,hl,e⟩:=I.lstM hH
 obtain⟨z2,its2,n2,r2,hl2,e2⟩:=I.lstM hB
 refine PySem.P.add_list e e2 ?_ (by rw[QE,QE];omega)
 have ea:its.toArray++its2.toArray=(its++its2).toArray:=by simp
 rw[ea]
 exact⟨.ref _,_,I.lnew (t':=s.toks) (r.append r2) (by rw[Qf];omega),rfl,q _ I.fresh⟩
def ZsN:R2:=fun x y H Q=>∃l k xs,x=.ref l∧y=.int k∧H l=some (.lst xs) ∧ -(2 ^ 63)≤k∧k<2 ^ 63∧xs.length*k.toNat≤sizeLine ∧
 ∀p,H p=none→Q (.ref p) (upd H p (.lst (List.replicate k.toNat xs).flatten))
theorem Zo3{α:Type}(xs:List α)(k:Nat):(List.replicate k xs).flatten.length=k*xs.length:=by
 induction k with
 | zero=>simp
 | succ k ih=>rw[Q2,Qaz,Qf,ih,Nat.succ_mul,Nat.add_comm]
theorem ZiU:OpR X (binaryOp .Mult) ZsN:=by
 intro pins s σ H x y v u Q I rx ry h
 obtain⟨l,k,xs,rfl,rfl,hH,h1,h2,hz,q⟩:=h
 cases rx
 obtain⟨t,rfl⟩:=ry
 obtain⟨z,its,n,r,hl,e⟩:=I.lstM hH
 have hlen:its.toArray.size*k.toNat≤sizeLine:=by rw[QE,← hl];exact hz
 have hcap:¬ its.toArray.size*k.toNat>(2 ^ 63-1) / 8:=by
  have:(sizeLine:Nat)≤(2 ^ 63-1) / 8:=by decide
  omega
 have hfit:¬ (!Builtin.List.listFitsIndex k)=true:=by
  rw[fitsIndex_both h1 h2]
  exact Qm
 have hlong:¬ Builtin.List.listTooLong (its.toArray.size*k.toNat)=true:=by
  rw[Zmv hlen]
  exact Qm
 have hnew:List.foldl (fun x1 x2=>x1++x2) #[] (List.replicate (if its.toArray.isEmpty=true then 0 else k.toNat) its.toArray)=(List.replicate k.toNat its).flatten.toArray:=by
  have f0:∀m:Nat,List.foldl (fun x1 x2=>x1++x2) #[] (List.replicate m its.toArray)=(List.replicate m its).flatten.toArray:=fun m=>by
   have:=Zib its m []
   rw[List.nil_append]at this
   exact this
  rw[f0]
  cases its with
  | nil=>simp
  | cons a r'=>rw[if_neg (by simp)]
 refine wpAny_binaryOp_repeat_ref (T := "list") (U := "int") (by decide) ⟨_,e,rfl⟩ (fun s'=>typeIs_int s' k t) noFill_list_mul F.fills_int_mul F.slot_int_rmul repeat_list F.slot_int_index.lookup
  (call_meets F.slot_int_rmul (typeIs_int s k t) F.entry_int_rmul (F.args_int_rmul_2 _ _) (int___rmul___int_list k t l its.toArray n)
   ⟨e,rfl,⟨_,e,rfl⟩,call_meets F.slot_list_mul ⟨_,e,rfl⟩ F.entry_list_mul (F.args_list_mul_2 _ _) (AutoListH.list___mul___list_int_3 l its.toArray n k t hfit hcap hlong) ⟨e,?_⟩⟩)
 rw[hnew]
 exact⟨.ref _,_,I.lnew (t':=s.toks) (r.rep k.toNat) (by rw[Zo3,Nat.mul_comm];exact hz),rfl,q _ I.fresh⟩
end
section
variable {prog:Program} {w:World} {A:Around} {E:Value→Shared→Prop} {s:Shared}
end
section
variable {X:Cx}
end
end L2
namespace Att
open PySem PySem.W PySem.Calls PyProof.Rows
theorem Zf6{P:Params}{h:Heap}:∀ (ns:List Int) (vs:List Value),WellAll P h vs (ns.map WData.int)→IntsAre vs ns:=by
 intro ns
 induction ns with
 | nil =>
  intro vs w
  rw[QaP]at w
  cases w
  exact .nil
 | cons n ns ih =>
  intro vs w
  rw[Qh]at w
  cases w with
  | cons a b =>
   cases a
   exact .cons _ _ (ih _ b)
theorem Zmf{l:OpenLaw}{n:Nat}(hn:l.most=some n){P:Params}{h:Heap}{args:List WData}{vals:List Value}
  (hpre:l.row.toRowW.claim.pre args=true) (hwl:WellAll P h vals args) :
  ∃a vs ns,vals=[Value.ref a]∧args=[WData.list (ns.map WData.int)]∧h.get? a=some { cls:=.type "list",data:=.seq vs.toArray }∧IntsAre vs ns∧ns.length≤n:=by
 have hsh:WShape.hasAll [] args [.list .int]=true:=(pre_splitW hpre).1
 have hc:l.pre.holds [] { args:=args }=true:=(pre_splitW hpre).2
 obtain⟨d,r,rfl,h1,h2⟩:=hasAllW_cons hsh
 obtain rfl:=hasAllW_nil h2
 obtain⟨xs,rfl,h3⟩:=hasW_list h1
 obtain⟨ns,rfl⟩:=items_int h3
 have hlen:ns.length≤n:=by
  unfold OpenLaw.pre at hc
  have h4:(WTm.not (.lt (.lit (.int (n:Int))) (.len (.arg 0)))).holds [] { args:=[.list (ns.map .int)] }=true:=by
   have h4:=(holds_andW hc).1
   rw[hn]at h4
   exact h4
  have h5:=condW_of h4 (w_not (w_lt w_lit (w_len_list (w_arg rfl))))
  rw[Qa]at h5
  refine Nat.le_of_not_lt fun q=>?_
  have q':(n:Int)<((ns.length:Nat):Int):=by omega
  first
   | (rw[decide_eq_true q']at h5;exact absurd h5 (by decide))
   | (simp at h5;omega)
 cases hwl with
 | cons w1 w2 =>
  cases w2
  cases w1 with
  | list ho hall=>exact⟨_,_,ns,rfl,rfl,ho,Zf6 ns _ hall,hlen⟩
theorem Zmq(l:OpenLaw)(args:List WData):l.row.toRowW.claim.post args (.bool true) args=true :=
 postW_of (r:=l.row.toRowW) (X:=(true == true))
  (show WShape.has [] (.bool true) .bool=true by first|rfl|decide|simp[WShape.has,WShape.arms,WShape.armsAll])
  (show (WTm.eq .res (.lit (.bool true))).value [] { args:=args,res:=some (.bool true),after:=args }=some (.bool (true == true)) from w_eq_bool (w_res rfl) w_lit) rfl
theorem attach_call{l:OpenLaw}{n:Nat}{q:Program}{loose:List Str}{XP:(Str→Option Value)→Heap→Prop}{YP:World→Heap→Prop}{d:DefRec}
  (hn:l.most=some n) (hdf:d.params.defaults=[])
  (call:∀ (w:World) (s₀ s₁:Shared) (mg mb:Str→Option Value) (fa:Addr) (o:Obj) (pm cd doc:Value) (a:Addr) (vs:List Value) (ns:List Int),
   Ground q loose [] XP w s₀ mg mb s₁.heap→YP w s₁.heap →
   s₁.heap.get? fa=some o→o.data=.func (docDef d.name d.params d.body d.scope pm cd doc)→s₁.heap.CodeRec cd d.name→mg d.name=some (.ref fa) →
   s₁.heap.get? a=some { cls:=.type "list",data:=.seq vs.toArray }→IntsAre vs ns→ns.length≤n→s₁.gens = #[] →
   codeAny (model l.prog w) callerA (.call (.ref fa) ⟨[.ref a],[]⟩) (fun r s'=>r=.ok (.ret (.bool true))∧OldK s₁.heap s'.heap∧s'.os=s₁.os∧AllBare s'.gens) s₁) :
  WalkO q loose XP YP l.row.toRowW d [] (fun f vs=>PySem.call f vs):=by
 intro w s₀ s₁ mg mb G Y fa o pm cd doc dV kV ho hd hcd hD hmg hg args vals as hpre hlay hrd hwl hlo
 obtain rfl:dV=.none:=Dflts.none hD hdf
 obtain rfl:kV=.none:=Dflts.noKw hD
 obtain⟨a,vs,ns,rfl,rfl,hobj,hints,hlen⟩:=Zmf hn hpre hwl
 refine enter_call (codeAny_mono (call w s₀ s₁ mg mb fa o pm cd doc a vs ns G Y ho (fd_plain hd) hcd hmg hobj hints hlen hg) fun r s' hq=>?_)
 obtain⟨rfl,h2,h3,h4⟩:=hq
 exact⟨.inl ⟨.bool true,.bool true,[],rfl,fun _=>rfl,.bool true,Zmq l _,fun _=>⟨List.Pairwise.nil,fun _ hm=>(nomatch hm)⟩⟩,h2,h3,h4⟩
section
variable {prog:Program} {w:World} {A:Around} {E:Value→Shared→Prop} {s:Shared} {K:Frag}
def noObjs(h:Heap):Heap:={ h with objs:=#[] }
def ledger(h:Heap)(L d:Addr):List (Addr×Obj):=(List.range h.objs.size).filterMap fun a=>if a=L∨a=d then none else (h.get? a).map fun o=>(a,o)
end
end Att
namespace L2
open PySem PySem.Spec PyProof.Rows
theorem Zfy:∀ {vs:List Value} {ns:List Int},IntsAre vs ns→ZG (ns.map V.int) vs
 | _,_,.nil=>.nil
 | _,_,.cons n t h=>.cons ⟨t,rfl⟩ (Zfy h)
def Zqo(H:Hp):Prop:=∀b,H b=none∨∃o xs,H b=some (.frz o (.lst xs))
theorem Zod{P:Program}{w:World}{K:PySem.W.Frag}{mg mb:Str→Option Value}{CX:CXT}{k:Nat}{fa a:Addr}{fd:FuncData}{x:Str}{sp:Sp}{s₁:Shared}{vs:List Value}{ns:List Int}
  (KX:K.In s₁.heap) (hns:s₁.heap.Ns mainGlobals mg) (hb:s₁.heap.Ns builtinsNs mb) (hbb:∀x:Str,x ≠ "__name__"→mb x=bootBuiltins x) (hlim:s₁.heap.NoLimit) (hg:s₁.gens = #[])
  (ha:s₁.heap.get? a=some { cls:=.type "list",data:=.seq vs.toArray }) (hi:IntsAre vs ns) (hl:ns.length≤sizeLine) (hr:ZaV k callerA)
  (F:∀base:Heap,K.In base→base.Ns mainGlobals mg→ZeE P w K mg base CX k fa fd [x] sp) (hbind:∀ (s:Shared) (u:Value),BindsTo s fd ⟨[u],[]⟩ [(x,u)])
  (hsp:∀H:Hp,Zqo H→SqL K H a (ns.map V.int)→sp [.ref a] H (fun v _=>v=.bl true) fun _ _ _=>False)
  (hCX:∀H e s',CX [] H s₁ (fun _ _ _=>False) e s'→False) :
  codeAny (model P w) callerA (.call (.ref fa) ⟨[.ref a],[]⟩) (fun r s'=>r=.ok (.ret (.bool true))∧OldK s₁.heap s'.heap∧s'.os=s₁.os∧AllBare s'.gens) s₁:=by
 have rv:=Zfy hi
 have lenV:=hi.length
 have core:∀H:Hp,Zqo H→SqL K H a (ns.map V.int)→HOk P w H s₁.heap→(∀b,H b≠none→b=a)→(H a≠none→K.lookup a=none) →
   codeAny (model P w) callerA (.call (.ref fa) ⟨[.ref a],[]⟩) (fun r s'=>r=.ok (.ret (.bool true))∧OldK s₁.heap s'.heap∧s'.os=s₁.os∧AllBare s'.gens) s₁:=by
  intro H hO hS hok hA hK
  have base_of:∀ {b:Addr} {o:Obj},s₁.heap.get? b=some o→H b=none→(ZiY s₁.heap H).get? b=some o:=fun e n=>ZnY e n
  have noA:∀ {b:Addr} {o:Obj} {es:Array DictEntry} {ep:Nat},s₁.heap.get? b=some o→o.data=.dict es ep→H b=none:=fun {b o es ep} e d=>by
   cases q:H b with
   | none=>rfl
   | some u =>
    have e':b=a:=hA b (by rw[q];simp)
    subst e'
    rw[ha]at e;cases e
    have d':Data.seq vs.toArray _=Data.dict es ep:=d
    cases d'
  have nsK:∀ {b:Addr} {m:Str→Option Value},s₁.heap.Ns b m→(ZiY s₁.heap H).Ns b m:=fun {b m} ⟨o,es,ep,e,d,r⟩=>⟨o,es,ep,base_of e (noA e d),d,r⟩
  have hKb:K.In (ZiY s₁.heap H):=fun b o e=>base_of (KX b o e) (by
   cases q:H b with
   | none=>rfl
   | some u =>
    have e':b=a:=hA b (by rw[q];simp)
    subst e'
    rw[hK (by rw[q];simp)]at e;cases e)
  have hM:Mod K mg (ZiY s₁.heap H):=⟨hKb,nsK hns,⟨mb,nsK hb,hbb⟩,let ⟨mc,h1,h2⟩:=hlim;⟨mc,nsK h1,h2⟩⟩
  have e0:ZkE P w K mg (ZiY s₁.heap H) callerA [] s₁ H:=⟨rfl,hM,fun b o e=>Zo0 e,Nat.le_of_eq (Zlv _ _),trivial,fun b hb=>absurd (show b∈([]:List Addr) from hb) (by simp),hok,.of_eq hg⟩
  refine codeAny_mono ((F _ hKb (nsK hns)).run callerA [] s₁ H ⟨[.ref a],[]⟩ [.ref a] [.ref a] _ _ hr e0 (hbind s₁ (.ref a)) (.cons rfl .nil) (hsp H hO hS)) fun r s' h=>?_
  cases r with
  | error e=>exact(hCX H e s' h).elim
  | ok fl =>
   cases fl with
   | next=>exact False.elim h
   | brk=>exact False.elim h
   | cont=>exact False.elim h
   | ret u =>
    obtain⟨v,H',os,bare,un,hok',r',q⟩:=h
    have q':v=.bl true:=q
    subst q'
    obtain rfl:u=Value.bool true:=r'
    refine⟨rfl,OldK.of_keep fun b o e=>?_,os,bare⟩
    cases q:H b with
    | none=>exact un.keep b o e q (by intro z;exact absurd (show b∈([]:List Addr) from z) (by simp)) (by simp)
    | some u =>
     rcases hO b with z|⟨ob,xs,z⟩
     ·rw[q]at z;cases z
     ·have z2:=un.frzs b ob _ z
      obtain⟨e1,_⟩:=hok b _ z
      obtain⟨e2,_⟩:=hok' b _ z2
      rw[e]at e1;cases e1
      exact e2
 cases hk:K.lookup a with
 | some o =>
  have e:=KX a o hk
  rw[ha]at e
  cases e
  refine core (fun _=>none) (fun _=>.inl rfl) (.inr ⟨_,vs.toArray,_,hk,rfl,rfl,rfl,by rw[QE,lenV];exact hl,by simpa using rv⟩) (fun b u z=>by have z':(none:Option HO)=some u:=z;cases z') (fun b z=>absurd rfl z) fun z=>absurd rfl z
 | none =>
  refine core (fun b=>if b=a then some (.frz { cls:=.type "list",data:=.seq vs.toArray } (.lst (ns.map V.int))) else none) (fun b=>?_) (.inl (.inr ⟨{ cls:=.type "list",data:=.seq vs.toArray },if_pos rfl⟩)) (fun b u z=>?_) (fun b z=>?_) fun _=>hk
  ·by_cases hb:b=a
   ·exact .inr ⟨_,_,if_pos hb⟩
   ·exact .inl (if_neg hb)
  ·by_cases hb:b=a
   ·have z':=(if_pos hb).symm.trans z
    cases z'
    subst hb
    exact⟨ha,by rw[Qa];exact hl,vs,_,rv,ha⟩
   ·have z':=(if_neg hb).symm.trans z
    cases z'
  ·by_cases hb:b=a
   ·exact hb
   ·exact absurd (if_neg hb) z
abbrev KOf{K:PySem.W.Frag}{h:Heap}(_:K.In h):PySem.W.Frag:=K
theorem walk_of{l:PySem.W.OpenLaw}{n k:Nat}{q:Program}{loose:List Str}{XP:(Str→Option Value)→Heap→Prop}{YP:World→Heap→Prop}{d:DefRec}{K:Params→PySem.W.Frag}{CX:World→CXT}{sp:World→Sp}{x:Str}
  (hn:l.most=some n) (hn2:n≤sizeLine) (hdf:d.params.defaults=[]) (hr:ZaV k callerA)
  (hY:∀ (w:World) (h:Heap),YP w h→(K w.params).In h)
  (F:∀ (w:World) (mg:Str→Option Value) (fa:Addr) (h:Heap),(K w.params).In h→h.Ns mainGlobals mg→mg d.name=some (.ref fa) →
   ∃fd:FuncData,(∀ (s:Shared) (u:Value),BindsTo s fd ⟨[u],[]⟩ [(x,u)]) ∧
    ∀base:Heap,(K w.params).In base→base.Ns mainGlobals mg→ZeE l.prog w (K w.params) mg base (CX w) k fa fd [x] (sp w))
  (hsp:∀ (w:World) (H:Hp) (a:Addr) (ns:List Int),ns.length≤n→Zqo H→SqL (K w.params) H a (ns.map V.int)→sp w [.ref a] H (fun v _=>v=.bl true) fun _ _ _=>False)
  (hCX:∀ (w:World) (H:Hp) (s:Shared) (e:Value) (s':Shared),CX w [] H s (fun _ _ _=>False) e s'→False) :
  PySem.W.WalkO q loose XP YP l.row.toRowW d [] (fun f vs=>PySem.call f vs):=by
 refine Att.attach_call hn hdf fun w s₀ s₁ mg mb fa o pm cd doc a vs ns G Y ho hd hcd hmg hobj hints hlen hg=>?_
 have KX:=hY w _ Y
 obtain⟨fd,hb,hF⟩:=F w mg fa _ KX G.T.g hmg
 exact Zod KX G.T.g G.T.b G.T.builtins G.T.nolimit hg hobj hints (Qy hlen hn2) hr hF hb (fun H hO hS=>hsp w H a ns hlen hO hS) fun H e s'=>hCX w H s₁ e s'
def Z7(s:Stmt)(j:Nat):Stmt:=match s with
 | .ClassDef _ _ _ body _ _ _ _ _ _ _=>body.getD j (.Pass ⟨0,0,0,0⟩)
 | _=>.Pass ⟨0,0,0,0⟩
def Zp(s:Stmt):Arguments:=match s with
 | .FunctionDef _ a _ _ _ _ _ _ _ _=>a
 | _=>{ posonlyargs:=[],args:=[],vararg:=none,kwonlyargs:=[],kw_defaults:=[],kwarg:=none,defaults:=[] }
def Zn(s:Stmt):List Stmt:=match s with
 | .FunctionDef _ _ b _ _ _ _ _ _ _=>b
 | _=>[]
def Zg(s:Stmt):Scope:=match s with
 | .FunctionDef _ _ _ _ _ _ sc _ _ _=>sc
 | _=>{ kind:=.function,names:=[],isGenerator:=false,isCoroutine:=false }
abbrev CX0:CXT:=fun _ _ _ _ _ _=>False
abbrev E0:XK:=fun _ _ _=>False
theorem Zlc{X:Cx}:ZeM CX0 X E0:=fun _ _ _ _ _ _ _ h=>h.elim
structure Fun (K:PySem.W.Frag) (x qual:Str) (st:Stmt) (f:Addr) (fd:FuncData):Prop where
 ex:∃ (oc:Value) (od:Option Addr) (kV doc pm:Value) (an:Option Addr) (cdv ct:Value) (osl:Array (Option Value)),
  fd=PySem.W.fnOf x qual (Zp st) (Zn st) (Zg st) .none kV doc pm an cdv ct∧K.lookup f=some ⟨oc,od,.func fd,osl⟩∧PySem.W.codeIn K cdv qual=true
 kp:PySem.W.keepIn K (.ref f)=true
section
variable {P:Program} {w:World} {K:PySem.W.Frag} {mg:Str→Option Value} {base:Heap}
theorem Fun.ok{x qual:Str}{st:Stmt}{f:Addr}{fd:FuncData}{N ps:List Str}{k:Nat}{sp:Sp}(F:Fun K x qual st f fd)(S:Zq N ps (Zg st))(len:∀vs H Q E,sp vs H Q E→vs.length=ps.length)
  (hbody:∀ (cdv:Value) (A:Around) (outer:List Env) (s:Shared) (H:Hp) (vs:List V) (Q:VK) (E:XK),ZaV k (A.deeper (envOfC qual (Zg st) s.heap.objs.size f cdv))→sp vs H Q E →
   ∃t,PSs (ZiH CX0 P w K mg base N qual (Zg st) f cdv A outer s H E).nox (Zn st) t∧t { nx:=fun _ H'=>Q .non H',rt:=Q } (Zd2 N vs) H):ZeE P w K mg base CX0 (k+1) f fd ps sp:=by
 obtain⟨oc,od,kV,doc,pm,an,cdv,ct,osl,rfl,lk,hcd⟩:=F.ex
 refine Zsf lk hcd S len fun A outer s H vs Q E hr hsp=>?_
 obtain⟨t,h,q⟩:=hbody cdv A outer s H vs Q E hr hsp
 exact⟨t,h.nox,q⟩
theorem Fun.binds{x qual:Str}{st:Stmt}{f:Addr}{fd:FuncData}{ps:List Str}(F:Fun K x qual st f fd)
  (h:∀ (kV doc pm:Value) (an:Option Addr) (cdv ct:Value) (us:List Value),us.length=ps.length→bindArgs (PySem.W.fnOf x qual (Zp st) (Zn st) (Zg st) .none kV doc pm an cdv ct) ⟨us,[]⟩=pure (ps.zip us)):Zcy K fd ps []:=by
 obtain⟨oc,od,kV,doc,pm,an,cdv,ct,osl,rfl,lk,hcd⟩:=F.ex
 exact .all (h kV doc pm an cdv ct)
theorem ZJ{x qual:Str}{st:Stmt}{f:Addr}{oc:Value}{od an:Option Addr}{osl:Array (Option Value)}{kV doc pm cdv ct:Value}(l:K.lookup f=some ⟨oc,od,.func (PySem.W.fnOf x qual (Zp st) (Zn st) (Zg st) .none kV doc pm an cdv ct),osl⟩)
  (c:PySem.W.codeIn K cdv qual=true) (k:PySem.W.keepIn K (.ref f)=true):Fun K x qual st f (PySem.W.fnOf x qual (Zp st) (Zn st) (Zg st) .none kV doc pm an cdv ct):=⟨⟨oc,od,kV,doc,pm,an,cdv,ct,osl,rfl,l,c⟩,k⟩
end
theorem Zll{A:Around}{k:Nat}(hr:ZaV k A):A.units+1<cLine:=Nat.lt_of_le_of_lt (Nat.add_le_add_left (by decide:1≤64) _) hr.units
theorem ZB{n:Nat}(h:n≤1000):n<sizeLine:=Nat.lt_of_le_of_lt h (by decide)
section
variable {X:Cx}
theorem pv(i:Nat){x:Str}{pos:Pos}(hN:X.N[i]? = some x:=by rfl)(hv:Vis X.env.scope x:=by first|exact Or.inl rfl|exact Or.inr (Or.inl rfl)|exact Or.inr (Or.inr rfl))(hd:(x == ("__debug__" : Str))=false:=by decide)
  (hcd:(x == ("__classdict__" : Str))=false:=by decide):PE X (.Name x pos) (Zl8 i):=Zkg hN hv hd hcd
end
theorem Zbr{A B:Prop}(h:B):if false=true then A else B:=by
 rw[if_neg Qm]
 exact h
theorem ZfP{A B:Prop}(h:A):if true=true then A else B:=by
 rw[if_pos rfl]
 exact h
theorem Zbc{c A B:Prop}[Decidable c](h1:c→A)(h2:¬ c→B):if c then A else B:=by
 by_cases h:c
 ·rw[if_pos h]
  exact h1 h
 ·rw[if_neg h]
  exact h2 h
theorem Zeh{c A B:Prop}[Decidable c](hc:c)(h:B):if (!decide c)=true then A else B:=by
 rw[decide_eq_true hc]
 exact Zbr h
def ZH(H H':Hp):Prop:=∀b o,H b=some o→H' b=some o
theorem ZH.refl(H:Hp):ZH H H:=fun _ _ h=>h
theorem ZH.trans{H H1 H2:Hp}(a:ZH H H1)(b:ZH H1 H2):ZH H H2:=fun c o h=>b c o (a c o h)
theorem ZH.free{H H':Hp}(e:ZH H H'){l:Addr}(h:H' l=Option.none):H l=Option.none:=by
 cases q:H l with
 | none=>rfl
 | some o =>
  rw[e l o q]at h
  cases h
theorem ZH.seq{K:PySem.W.Frag}{H H':Hp}{a:Addr}{xs:List V}(e:ZH H H')(h:SqL K H a xs):SqL K H' a xs:=by
 rcases h with(h|⟨o,h⟩)|h
 ·exact .inl (.inl (e _ _ h))
 ·exact .inl (.inr ⟨o,e _ _ h⟩)
 ·exact .inr h
def ZaZ(cells:List (Str×Addr)):List (Str×NameKind)→List (Str×Addr)→List (Str×Addr)
 | [],acc=>acc
 | (n,k)::r,acc=>if k == .free then ZaZ cells r ((n,(cells.lookup n).getD 0)::acc) else ZaZ cells r acc
theorem Zhj{sc:Scope}{env:Env}(h:∀y∈sc.names,y.2=.free→∃c,env.cells.lookup y.1=some c) :
  closureFor sc env=pure (ZaZ env.cells sc.names []):=by
 have go:∀ (names:List (Str×NameKind)) (acc:List (Str×Addr)),(∀y∈names,y.2=.free→∃c,env.cells.lookup y.1=some c) →
   (forIn names acc fun (x:Str×NameKind) (r:List (Str×Addr))=>if (x.2 == NameKind.free)=true then (do let c ← cellOf env x.1;pure (ForInStep.yield ((x.1,c)::r))) else pure (ForInStep.yield r):Sem (List (Str×Addr)))=pure (ZaZ env.cells names acc):=by
  intro names
  induction names with
  | nil=>intro acc _;rfl
  | cons y r ih =>
   intro acc hy
   obtain⟨n,k⟩:=y
   rw[List.forIn_cons]
   cases hk:(k == NameKind.free) with
   | false =>
    have e1:ZaZ env.cells ((n,k)::r) acc=ZaZ env.cells r acc:=by
     show (if (k == NameKind.free)=true then _ else _)=_
     rw[hk];rfl
    rw[e1,← ih acc fun z hz=>hy z (Qu _ hz)]
    simp only[hk,Bool.false_eq_true,if_false,pure_bind]
   | true =>
    have hk':k=.free:=by simpa using hk
    obtain⟨c,hc⟩:=hy (n,k) Qah hk'
    have e1:ZaZ env.cells ((n,k)::r) acc=ZaZ env.cells r ((n,c)::acc):=by
     show (if (k == NameKind.free)=true then _ else _)=_
     rw[hk,hc];rfl
    have e2:cellOf env n=pure c:=by
     unfold cellOf
     rw[hc]
    rw[e1,← ih ((n,c)::acc) fun z hz=>hy z (Qu _ hz)]
    simp only[hk,if_true,e2,pure_bind]
 have q:=go sc.names [] h
 unfold closureFor
 first
  | (rw[show (forIn sc.names ([]:List (Str×Addr)) _:Sem (List (Str×Addr)))=pure (ZaZ env.cells sc.names []) from q];rfl)
  | (simp only[bind_pure];exact q)
  | exact q
theorem Zd8(cells:List (Str×Addr)):∀ (names:List (Str×NameKind)) (acc:List (Str×Addr)) (x:Str) (c:Addr),(ZaZ cells names acc).lookup x=some c →
  (∃y∈names,y.1=x∧y.2=.free∧c=(cells.lookup x).getD 0)∨acc.lookup x=some c
 | [],acc,x,c,h=>.inr h
 | (n,k)::r,acc,x,c,h=>by
  by_cases hk:(k == NameKind.free)=true
  ·have e:ZaZ cells ((n,k)::r) acc=ZaZ cells r ((n,(cells.lookup n).getD 0)::acc):=by
    show (if (k == NameKind.free)=true then _ else _)=_
    rw[if_pos hk]
   rw[e]at h
   rcases Zd8 cells r _ x c h with⟨y,hy,q⟩|q
   ·exact .inl ⟨y,Qu _ hy,q⟩
   ·rw[QaD]at q
    by_cases hx:(x == n)=true
    ·rw[hx]at q
     have hx':x=n:=by simpa using hx
     subst hx'
     exact .inl ⟨(x,k),Qah,rfl,by simpa using hk,(Ql q).symm⟩
    ·have hx':(x == n)=false:=by simpa using hx
     rw[hx']at q
     exact .inr q
  ·have e:ZaZ cells ((n,k)::r) acc=ZaZ cells r acc:=by
    show (if (k == NameKind.free)=true then _ else _)=_
    rw[if_neg hk]
   rw[e]at h
   rcases Zd8 cells r _ x c h with⟨y,hy,q⟩|q
   ·exact .inl ⟨y,Qu _ hy,q⟩
   ·exact .inr q
theorem Zg6(cells:List (Str×Addr)):∀ (names:List (Str×NameKind)) (acc:List (Str×Addr)) (x:Str),((∃y∈names,y.1=x∧y.2=.free)∨∃c,acc.lookup x=some c) →
  ∃c,(ZaZ cells names acc).lookup x=some c
 | [],acc,x,h=>by
  rcases h with⟨y,hy,_⟩|h
  ·cases hy
  ·exact h
 | (n,k)::r,acc,x,h=>by
  by_cases hk:(k == NameKind.free)=true
  ·have e:ZaZ cells ((n,k)::r) acc=ZaZ cells r ((n,(cells.lookup n).getD 0)::acc):=by
    show (if (k == NameKind.free)=true then _ else _)=_
    rw[if_pos hk]
   rw[e]
   refine Zg6 cells r _ x ?_
   by_cases hx:(x == n)=true
   ·exact .inr ⟨_,by rw[QaD,hx]⟩
   ·have hx':(x == n)=false:=by simpa using hx
    rcases h with⟨y,hy,q⟩|⟨c,q⟩
    ·rcases QI.mp hy with rfl|hy
     ·exact absurd (by simpa using q.1.symm) hx
     ·exact .inl ⟨y,hy,q⟩
    ·exact .inr ⟨c,by rw[QaD,hx'];exact q⟩
  ·have e:ZaZ cells ((n,k)::r) acc=ZaZ cells r acc:=by
    show (if (k == NameKind.free)=true then _ else _)=_
    rw[if_neg hk]
   rw[e]
   refine Zg6 cells r _ x ?_
   rcases h with⟨y,hy,q⟩|h
   ·rcases QI.mp hy with rfl|hy
    ·exact absurd (by simpa using q.2) hk
    ·exact .inl ⟨y,hy,q⟩
   ·exact .inr h
structure Zaq (N N':List Str) (o c:Scope):Prop where
 kind:c.kind=.function
 okind:o.kind=.function
 nocell:∀y∈c.names,y.2≠.cell
 loc:∀y∈c.names,y.2=.local→c.names.lookup y.1=some .local
 free:∀y∈c.names,y.2=.free→c.names.lookup y.1=some .free∧(o.names.lookup y.1=some .cell∨o.names.lookup y.1=some .free)
 len:N.length≤N'.length
 same:∀i∈List.range N.length,∀x∈N'[i]?,c.names.lookup x=some .local∨c.names.lookup x=some .free→c.names.lookup x=some .free∧N[i]? = some x
 nd:N'.Nodup
def ZaX(X:Cx)(c:Scope)(N':List Str)(C:Addr)(s:Shared)(H:Hp)(fp:List Addr):Cx :=
 { X with N:=N',s₀:=s,H₀:=H,env:=compEnvC c (ZaZ X.env.cells c.names []) C X.env,outer:=X.stack,stack:=X.stack,ex:=fp,fn:=fun _=>false,pn:=[],xe:=fun _ _=>False }
theorem ZdV{env:Env}(hf:env.scope.kind=.function):∀ (names:List (Str×NameKind)) (x:Str),
  (names.map fun (p:Str×NameKind)=>if (p.2 == NameKind.free&&env.scope.kind == .function&&env.kindOf p.1 == some .cell)=true then (p.1,NameKind.cell) else (p.1,p.2)).lookup x =
   match names.lookup x with
   | some .free=>if env.kindOf x=some .cell then some .cell else some .free
   | k=>k
 | [],x=>rfl
 | (n,k)::r,x=>by
  have ih:=ZdV hf r x
  rw[Qh]
  by_cases hx:(x == n)=true
  ·have hx':x=n:=by simpa using hx
   subst hx'
   have e2:List.lookup x ((x,k)::r)=some k:=by rw[QaD];simp
   rw[e2]
   by_cases hk:k=.free
   ·subst hk
    by_cases hc:env.kindOf x=some .cell
    ·simp[List.lookup_cons,hf,hc]
    ·simp[List.lookup_cons,hf,hc]
   ·have hk':(k == NameKind.free)=false:=by simpa using hk
    rw[hk']
    simp only[Bool.false_and,Bool.false_eq_true,if_false,List.lookup_cons,beq_self_eq_true]
    all_goals (cases k<;>first|rfl|exact absurd rfl hk)
  ·have hx':(x == n)=false:=by simpa using hx
   have e2:List.lookup x ((n,k)::r)=List.lookup x r:=by rw[QaD,hx']
   rw[e2,← ih]
   by_cases hc:(k == NameKind.free&&env.scope.kind == .function&&env.kindOf n == some .cell)=true
   ·simp only[hc,if_true,List.lookup_cons,hx']
   ·simp only[hc,if_false,List.lookup_cons,hx',Bool.false_eq_true]
section
variable {X:Cx} {N N':List Str} {o c:Scope}
theorem Zc5(S:Zaq N N' o c)(ho:X.env.scope=o)(cl:List (Str×Addr))(C:Addr)(x:Str):(compEnvC c cl C X.env).kindOf x =
  match c.names.lookup x with
  | some .free=>if X.env.kindOf x=some .cell then some .cell else some .free
  | k=>k:=ZdV (env:=X.env) (by rw[ho];exact S.okind) c.names x
theorem Zds{names:List (Str×NameKind)}{x:Str}{k:NameKind}(h:names.lookup x=some k):(x,k)∈names:=Qad h
theorem Zco(S:Zaq N N' o c)(ho:X.env.scope=o)(ok:X.Ok){x:Str}{a:Addr}(h:(ZaZ X.env.cells c.names []).lookup x=some a) :
  X.env.cells.lookup x=some a∧c.names.lookup x=some .free:=by
 rcases Zd8 _ _ _ _ _ h with⟨y,hy,rfl,hf,e⟩|q
 ·have hk:=S.free y hy hf
  have hv:X.env.kindOf y.1=some .cell∨X.env.kindOf y.1=some .free:=by
   show X.env.scope.names.lookup y.1=_∨X.env.scope.names.lookup y.1=_
   rw[ho];exact hk.2
  obtain⟨b,hb⟩:=ok.has y.1 hv
  rw[hb]at e
  exact⟨by rw[hb,e];rfl,hk.1⟩
 ·cases q
theorem ZjY(S:Zaq N N' o c)(ho:X.env.scope=o)(ok:X.Ok){x:Str}(h:c.names.lookup x=some .free):∃a,(ZaZ X.env.cells c.names []).lookup x=some a∧X.env.cells.lookup x=some a:=by
 obtain⟨a,ha⟩:=Zg6 X.env.cells c.names [] x (.inl ⟨(x,.free),Zds h,rfl,rfl⟩)
 exact⟨a,ha,(Zco S ho ok ha).1⟩
theorem Zpm(S:Zaq N N' o c)(ho:X.env.scope=o){pins:List (Addr×Obj)}{σ:St}{H:Hp}{s:Shared}{fp:List Addr}(I:Inv X pins σ H s)
  (hf:∀b∈fp,Zf8 X pins H b) (ht:∀b∈fp,b<s.heap.objs.size):(ZaX X c N' s.heap.objs.size s H fp).Ok where
 mod:=I.ok.mod
 kind:=S.kind
 glob:=I.ok.glob
 blt:=I.ok.blt
 above:=Qg _
 inj:=fun x y a h1 h2=>I.ok.inj x y a (Zco S ho I.ok h1).1 (Zco S ho I.ok h2).1
 has:=fun x hx=>by
  have e:=Zc5 (X:=X) S ho (ZaZ X.env.cells c.names []) s.heap.objs.size x
  have hx':(compEnvC c (ZaZ X.env.cells c.names []) s.heap.objs.size X.env).kindOf x=some .cell∨(compEnvC c (ZaZ X.env.cells c.names []) s.heap.objs.size X.env).kindOf x=some .free:=hx
  rw[e]at hx'
  cases q:c.names.lookup x with
  | none=>rw[q]at hx';rcases hx' with z|z<;>cases z
  | some k =>
   by_cases hk:k=.free
   ·subst hk
    obtain⟨a,ha,_⟩:=ZjY S ho I.ok q
    exact⟨a,ha⟩
   ·rw[q]at hx'
    have hc:k=.cell:=by
     cases k<;>first|rfl|exact absurd rfl hk|(rcases hx' with z|z<;>cases z)
    subst hc
    exact absurd rfl (S.nocell _ (Zds q))
 cab:=fun x a h=>by cases (show false=true from h)
 hd:=I.ok.hd
 frames:=I.ok.frames
 stk:=.inl rfl
 exf:=fun b hb=>⟨QC (ht b hb),fun x a h=>(hf b hb).2.2.2.2.1 x a (Zco S ho I.ok h).1⟩
 bs:=fun b ob e=>I.bs b ob e
 bsz:=Qy I.ok.bsz I.sz
 noex:=fun b ob e hb=>by
  rcases(hf b hb).2.2.2.1 with z|z
  ·exact I.ok.noex b ob e z
  ·exact absurd (QB (Qr e) (Qy I.ok.bsz z)) (Q4 _)
 exfs:=fun b hb hb'=>by
  rcases QI.mp (I.stkSub b hb') with z|z
  ·exact(hf b hb).2.1 z
  ·exact(hf b hb).2.2.1 z
 funs:=I.stack
 frf:=I.stkFree
theorem Zoj(S:Zaq N N' o c)(hN:X.N=N)(ho:X.env.scope=o){pins:List (Addr×Obj)}{σ:St}{H:Hp}{s:Shared}{fp:List Addr}{h₁:Heap}{tk:Nat}{m₀:Str→Option Value}(I:Inv X pins σ H s)
  (hf:∀b∈fp,Zf8 X pins H b) (ht:∀b∈fp,b<s.heap.objs.size) (hns:h₁.Ns s.heap.objs.size m₀) (hk:∀b ob,s.heap.get? b=some ob→h₁.get? b=some ob) :
  Inv (ZaX X c N' s.heap.objs.size s H fp) [] (σ++List.replicate (N'.length-N.length) none) H { s with heap:=h₁,toks:=tk } where
 ok:=Zpm S ho I hf ht
 os:=rfl
 bare:=I.bare
 base:=Un.kept hk
 loc:=by
  refine⟨m₀,hns,fun i x v e1 e2 e3=>?_⟩
  obtain⟨m,hn,hl⟩:=I.loc
  have hlen:σ.length=N.length:=by rw[I.len,hN]
  have hi:i<σ.length:=by
   by_cases hi:i<σ.length
   ·exact hi
   ·rw[QP (by omega),List.getElem?_replicate]at e2
    split at e2<;>cases e2
  have e2':σ[i]? = some (some v):=by rw[QO hi]at e2;exact e2
  have kd:=Zc5 (X:=X) S ho (ZaZ X.env.cells c.names []) s.heap.objs.size x
  have vis:c.names.lookup x=some .local∨c.names.lookup x=some .free:=by
   have e3':(compEnvC c (ZaZ X.env.cells c.names []) s.heap.objs.size X.env).kindOf x=some .local∨(compEnvC c (ZaZ X.env.cells c.names []) s.heap.objs.size X.env).kindOf x=some .cell∨(compEnvC c (ZaZ X.env.cells c.names []) s.heap.objs.size X.env).kindOf x=some .free:=e3
   rw[kd]at e3'
   cases q:c.names.lookup x with
   | none=>rw[q]at e3';rcases e3' with z|z|z<;>cases z
   | some k =>
    cases k with
    | «local»=>exact .inl rfl
    | free=>exact .inr rfl
    | cell=>exact absurd rfl (S.nocell _ (Zds q))
    | _=>rw[q]at e3';rcases e3' with z|z|z<;>cases z
  obtain⟨hfr,hNi⟩:=S.same i (Qag.mpr (by omega)) x (by rw[show N'[i]? = some x from e1];rfl) vis
  have hok:X.env.kindOf x=some .cell∨X.env.kindOf x=some .free:=by
   show X.env.scope.names.lookup x=_∨X.env.scope.names.lookup x=_
   rw[ho];exact(S.free _ (Zds hfr) rfl).2
  obtain⟨u,r,l⟩:=hl i x v (by rw[hN];exact hNi) e2' (.inr hok)
  refine⟨u,r,.inr ⟨?_,?_⟩⟩
  ·show (compEnvC c (ZaZ X.env.cells c.names []) s.heap.objs.size X.env).kindOf x=some .cell∨(compEnvC c (ZaZ X.env.cells c.names []) s.heap.objs.size X.env).kindOf x=some .free
   rw[kd,hfr]
   show (if X.env.kindOf x=some .cell then some NameKind.cell else some NameKind.free)=some .cell∨(if X.env.kindOf x=some .cell then some NameKind.cell else some NameKind.free)=some .free
   by_cases q:X.env.kindOf x=some .cell
   ·rw[if_pos q];exact .inl rfl
   ·rw[if_neg q];exact .inr rfl
  ·obtain⟨a,ha,ha'⟩:=ZjY S ho I.ok hfr
   refine⟨a,ha,?_⟩
   rcases l with⟨z,_⟩|⟨_,a',e,ob,hob,hd⟩
   ·rcases hok with q|q<;>rw[q]at z<;>cases z
   ·rw[ha']at e;cases e
    exact⟨ob,hk _ _ hob,hd⟩
 cell:=fun x a h=>by
  obtain⟨v,ob,e,d⟩:=I.cell x a (Zco S ho I.ok h).1
  exact⟨v,ob,hk _ _ e,d⟩
 free:=I.hok.fresh (Qg _)
 freeC:=fun x a h=>I.freeC x a (Zco S ho I.ok h).1
 pin:=fun p hp=>absurd (show p∈([]:List (Addr×Obj)) from hp) (by simp)
 hok:=I.hok.kept hk
 len:=by
  have hlen:σ.length=N.length:=by rw[I.len,hN]
  have:=S.len
  show (σ++List.replicate (N'.length-N.length) none).length=N'.length
  rw[Qf,QM]
  omega
end
abbrev ZkY(ifs:List Expr)(env:Env):Sem Bool :=
 forIn ifs true fun k r=>if r=true then do let ok ← isTrue k env (eval k env);pure (ForInStep.yield ok) else pure (ForInStep.yield r)
def PTs(X:Cx)(ifs:List Expr)(t:TT):Prop :=
 ∀ (pins:List (Addr×Obj)) (s:Shared) (σ:St) (H:Hp) (Q:Bool→Hp→Prop),Inv X pins σ H s→t σ H Q→wpAny (model X.prog X.w) X.A (ZkY ifs X.env) (TP X pins σ Q) X.xe s
def Znd:TT:=fun _ H Q=>Q true H
theorem ZcD{X:Cx}:PTs X [] Znd:=fun _ _ _ H _ I h=>wpAny_tests_nil ⟨H,I,h⟩
theorem ZiR{X:Cx}{e:Expr}{t:TT}(h:PT X e t):PTs X [e] t:=fun pins s σ H Q I q=>wpAny_tests_one (h pins s σ H Q I q)
section
variable {prog:Program} {w:World} {A:Around} {R:Result→Shared→Prop} {s:Shared}
theorem Zi3{elt target iter:Expr}{ifs:List Expr}{scope:Scope}{pos:Pos}{it acc:Value}{env:Env}{E:Value→Shared→Prop}(I:Nat→Shared→Prop)
  (hE:∀e s',E e s'→False)
  (turn:∀n s,I n s→wpAny (model prog w) A (pyNext it) (fun r s₁=>match r with
   | none=>R (.ok .next) s₁
   | some v=>wpAny (model prog w) A (letOwnedTupleGo target it v) (fun _ s₀=>wpAny (model prog w) A (assign target env v) (fun _ s₂ =>
     wpAny (model prog w) A (ZkY ifs env) (fun ok s₃ =>
      if ok=true then wpAny (model prog w) A (eval elt env) (fun x s₄ =>
       wpAny (model prog w) A (call (.builtin "list.append") [acc,x]) (fun _ s₅=>∃m,m<n∧I m s₅) E s₄) E s₃
      else ∃m,m<n∧I m s₃) E s₂) E s₀) E s₁) E s)
  (n:Nat) (h:I n s):codeAny (model prog w) A (.compLoop (.ListComp elt [⟨target,iter,ifs,0⟩] scope pos) 0 it acc env) R s:=by
 have go:∀ {α:Type} {t:Sem α} {Q:α→Shared→Prop} {s:Shared},wpAny (model prog w) A t Q E s→wpAny (model prog w) A t Q (notedBy (model prog w) A env fun e s'=>R (.error e) s') s :=
  fun {α t Q s} q=>wpAny_mono q (fun _ _ z=>z) fun e s' z=>(hE e s' z).elim
 refine codeAny_loop rfl I (fun n s hI=>?_) n h
 show wpAny _ A ((compTurn (.ListComp elt [⟨target,iter,ifs,0⟩] scope pos) 0 it acc env).onRaise (fun x=>do noteFrame x env;theTreesLotGoes x)) _ _ s
 refine wpAny_noted ?_
 rw[compTurn_list]
 refine wpAny_bind (wpAny_standAt (wpAny_bind (thn (go (turn n s hI)) fun r s₁ h₁=>?_)))
 cases r with
 | none=>exact wpAny_pure h₁
 | some v =>
  refine wpAny_bind (thn (go h₁) fun _ s₀ h₀=>wpAny_bind (thn (go h₀) fun _ s₂ h₂=>wpAny_bind (thn (go h₂) fun ok s₃ h₃=>?_)))
  cases ok with
  | false=>exact wpAny_pure ⟨rfl,h₃⟩
  | true =>
   exact wpAny_bind (wpAny_bind (thn (go h₃) fun x s₄ h₄=>wpAny_bind (thn (go h₄) fun _ s₅ h₅=>wpAny_pure (wpAny_pure ⟨rfl,h₅⟩))))
end
def Zek(J:It)(D:Addr)(k:Nat)(σ:St)(H1:Hp)(g:TG)(tc:TT)(te:TE)(Q:VK):Prop :=
 ∃W:Nat→Nat→List V→St→Hp→Prop,(∃m,W 0 m [] (σ++List.replicate k none) (upd H1 D (.lst []))) ∧
  ∀i m ys σ2 H2,W i m ys σ2 H2→(J.stop i H2∧Q (.ref D) H2) ∨
   (J.go i H2∧∃N:List V→St→Hp→Prop,(∀ys' σ' H',N ys' σ' H'→∃m',m'<m∧W (i+1) m' ys' σ' H')∧∀x H3,J.yld i H2 x H3→g x σ2 H3 fun σ4 H4=>tc σ4 H4 fun b H5 =>
    if b=true then te σ4 H5 fun y H6=>H6 D=some (.lst ys)∧ys.length<sizeLine∧N (ys++[y]) σ4 (upd H6 D (.lst (ys++[y]))) else N ys σ4 H5)
def Znz(n:Nat)(wi:TI)(g:TG)(tc:TT)(te:TE):TE:=fun σ H Q=>wi σ H fun J H1=>∀D,H1 D=none→Zek J D n σ H1 g tc te Q
section
variable {X:Cx} {N N':List Str} {o c:Scope}
theorem Zjm{elt tg iter:Expr}{ifs:List Expr}{pos pos':Pos}{wi:TI}{g:TG}{tc:TT}{te:TE}{use:Option (Value→Sem Unit)}{QQ:Value→Shared→Prop}(S:Zaq N N' o c)(hN:X.N=N)(ho:X.env.scope=o)(hc:X.calm=true)
  (hi:PI X tg iter wi) (hg:∀C s H fp,PG (ZaX X c N' C s H fp) tg g) (ht:∀C s H fp,PTs (ZaX X c N' C s H fp) ifs tc) (he:∀C s H fp,PE (ZaX X c N' C s H fp) elt te)
  (hs:∀x,foldedSetIterable iter X.env x=pure x) {pins:List (Addr×Obj)} {s:Shared} {σ:St} {H:Hp} {Q:VK} (I:Inv X pins σ H s) (h:Znz (N'.length-N.length) wi g tc te σ H Q)
  (post:∀ (D C:Addr) (s5:Shared) (H5:Hp) (m:Str→Option Value),Inv X pins σ H5 s5→H5 C=none→s5.heap.Ns C m→C≠X.env.locals→X.s₀.heap.objs.size≤C→(∀x a,X.env.cells.lookup x=some a→a≠C)→(∀p∈X.pn++pins,p.1≠C) →
   Q (.ref D) H5→compPost (model X.prog X.w) X.A X.xe use QQ (.ref D) C (.ok .next) s5) :
  wpAny (model X.prog X.w) X.A (comprehension (.ListComp elt [⟨tg,iter,ifs,0⟩] c pos) c X.env pos' (newList []) false (eval iter X.env) use) QQ X.xe s:=by
 have hclos:closureFor c X.env=pure (ZaZ X.env.cells c.names []):=Zhj fun y hy hf=>by
  refine I.ok.has y.1 ?_
  show X.env.scope.names.lookup y.1=_∨X.env.scope.names.lookup y.1=_
  rw[ho];exact(S.free y hy hf).2
 refine wpAny_comprehension_free (use:=use) rfl hs hclos S.kind S.loc (thn (hi pins s σ H _ I h) fun v s1 h1=>thn h1 fun itv s2 h2=>?_)
 obtain⟨it,fp,tn,J,H2,e,I2,T,st2,f2,hR⟩:=h2
 subst e
 have hD:H2 s2.heap.objs.size=none:=I2.fresh
 have I3:Inv X pins σ (upd H2 s2.heap.objs.size (.lst [])) { s2 with heap:=s2.heap.push { cls:=.type "list",data:=.seq ([]:List Value).toArray } } :=
  I2.lnew (ys:=[]) (its:=[]) (t':=s2.toks) .nil (Qv _)
 have fpl:∀b∈fp,b<s2.heap.objs.size:=fun b hb=>by
  obtain⟨ob,e,_⟩:=T.obj 0 _ st2 b hb
  exact Qr e
 refine wpAny_newObj_type (wpAny_newFunctionEnv S.nocell (by intro y hy;simp at hy) (fun h₁ hns₁ hsb₁=>?_) S.kind)
 have e3:∃s3:Shared,s3={ s2 with heap:=s2.heap.push { cls:=.type "list",data:=.seq ([]:List Value).toArray } }:=⟨_,rfl⟩
 obtain⟨s3,hs3⟩:=e3
 have e3:s3.heap=s2.heap.push { cls:=.type "list",data:=.seq ([]:List Value).toArray }:=by rw[hs3]
 have sz3:s3.heap.objs.size=s2.heap.objs.size+1:=by rw[e3,Q7]
 have fpl3:∀b∈fp,b<s3.heap.objs.size:=fun b hb=>QB (fpl b hb) (by rw[sz3];exact Qa4 _)
 have f3:∀b∈fp,Zf8 X pins (upd H2 s2.heap.objs.size (.lst [])) b:=fun b hb=>⟨by rw[Zc (QC (fpl b hb))];exact(f2 b hb).1,(f2 b hb).2⟩
 have st3:tn 0 s3.heap:=T.keep 0 _ _ st2 fun b _ ob e=>by rw[e3];exact Qc _ e
 rw[← hs3]at I3
 show codeAny (model X.prog X.w) X.A (.compStart _ 0 (.ref it) (.ref s2.heap.objs.size) (compEnvC c (ZaZ X.env.cells c.names []) (s2.heap.push { cls:=.type "list",data:=.seq ([]:List Value).toArray }).objs.size X.env))
  (compPost (model X.prog X.w) X.A X.xe use QQ (.ref s2.heap.objs.size) (s2.heap.push { cls:=.type "list",data:=.seq ([]:List Value).toArray }).objs.size)
  { s2 with heap:=h₁,toks:=s2.toks+([]:List (Str×Value)).length }
 have hns:h₁.Ns s3.heap.objs.size (fun x=>([]:List (Str×Value)).reverse.lookup x):=by rw[e3];exact hns₁
 have hk1:∀b ob,s3.heap.get? b=some ob→h₁.get? b=some ob:=fun b ob e=>by
  rw[e3]at e
  exact hsb₁.extBut b ob (QC (Qr e)) (Qc _ e)
 rw[← e3]
 have es4:({ s2 with heap:=h₁,toks:=s2.toks+([]:List (Str×Value)).length }:Shared)={ s3 with heap:=h₁,toks:=s2.toks }:=by rw[hs3];rfl
 rw[es4]
 obtain⟨W,⟨m0,w0⟩,turn⟩:=hR s2.heap.objs.size hD
 have I4:=Zoj (tk:=s2.toks) S hN ho I3 f3 fpl3 hns hk1
 have st4:tn 0 h₁:=T.keep 0 _ _ st3 fun b _ ob e=>hk1 b ob e
 generalize hX:ZaX X c N' s3.heap.objs.size s3 (upd H2 s2.heap.objs.size (.lst [])) fp=Y at I4
 have Yp:Y.prog=X.prog:=by rw[← hX];rfl
 have Yw:Y.w=X.w:=by rw[← hX];rfl
 have YK:Y.K=X.K:=by rw[← hX];rfl
 have Yc:Y.calm=true:=by rw[← hX];exact hc
 have YA:Y.A=X.A:=by rw[← hX];rfl
 have Yenv:Y.env=compEnvC c (ZaZ X.env.cells c.names []) s3.heap.objs.size X.env:=by rw[← hX];rfl
 have Yl:Y.env.locals=s3.heap.objs.size:=by rw[Yenv];rfl
 have Yxe:Y.xe=fun _ _=>False:=by rw[← hX];rfl
 have hg':=hg s3.heap.objs.size s3 (upd H2 s2.heap.objs.size (.lst [])) fp
 have ht':=ht s3.heap.objs.size s3 (upd H2 s2.heap.objs.size (.lst [])) fp
 have he':=he s3.heap.objs.size s3 (upd H2 s2.heap.objs.size (.lst [])) fp
 rw[hX]at hg' ht' he'
 have stat:∀ {H':Hp},(∀b∈fp,H' b=none)→∀b∈fp,Zf8 Y [] H' b:=fun {H'} hn b hb=>by
  obtain⟨_,q1,q2,q3,q4,_⟩:=f3 b hb
  have z1:=I4.ok.exf b (by rw[← hX];exact hb)
  refine⟨hn b hb,z1.1,I4.ok.exfs b (by rw[← hX];exact hb),.inl (by rw[← hX];exact hb),z1.2,fun p hp=>?_⟩
  have hp':p∈([]:List (Addr×Obj)):=by
   have:Y.pn=[]:=by rw[← hX];rfl
   rw[this]at hp;exact hp
  cases hp'
 have fin:∀ (s5:Shared) (σ5:St) (H5:Hp),Inv Y [] σ5 H5 s5→Q (.ref s2.heap.objs.size) H5→compPost (model X.prog X.w) X.A X.xe use QQ (.ref s2.heap.objs.size) s3.heap.objs.size (.ok .next) s5:=fun s5 σ5 H5 I5 q=>by
  obtain⟨m,hn,_⟩:=id I5.loc
  rw[Yl]at hn
  have hCn:H5 s3.heap.objs.size=none:=by have:=I5.free;rw[Yl]at this;exact this
  have un:Un (frs X.stack) fp (upd H2 s2.heap.objs.size (.lst [])) H5 s3.heap s5.heap:=by
   have:=I5.base
   rw[← hX]at this
   exact this
  have os5:s5.os=s3.os:=by have:=I5.os;rw[← hX]at this;exact this
  have hok5:HOk X.prog X.w H5 s5.heap:=by
   have:=I5.hok
   rw[Yp,Yw]at this
   exact this
  refine post _ _ s5 H5 m (I3.call' (s':=s5) (ch:=fp) os5 un hok5 I5.bare fun b hb=>?_) hCn hn (Q6 I3.lt) I3.sz (fun x a e=>?_) (fun p hp=>?_) q
  ·obtain⟨_,q1,_,q3,q4,q5⟩:=f3 b hb
   exact⟨q3,q1,q4,q5⟩
  ·obtain⟨v,ob,e',_⟩:=I3.cell x a e
   exact QC (Qr e')
  ·exact QC (Qr (I3.pin p hp).1)
 have loop:codeAny (model X.prog X.w) X.A (.compLoop (.ListComp elt [⟨tg,iter,ifs,0⟩] c pos) 0 (.ref it) (.ref s2.heap.objs.size) (compEnvC c (ZaZ X.env.cells c.names []) s3.heap.objs.size X.env))
   (compPost (model X.prog X.w) X.A X.xe use QQ (.ref s2.heap.objs.size) s3.heap.objs.size) { s3 with heap:=h₁,toks:=s2.toks }:=by
  rw[← Yenv,← YA]
  refine Zi3 (E:=fun _ _=>False) (fun n s'=>∃i ys σ' H',Inv Y [] σ' H' s'∧tn i s'.heap∧(∀b∈fp,H' b=none)∧W i n ys σ' H') (fun _ _ z=>z) ?_ m0
   ⟨0,[],_,_,I4,st4,fun b hb=>(f3 b hb).1,?_⟩
  ·rintro n s5 ⟨i,ys,σ5,H5,I5,st5,fr5,w5⟩
   rcases turn i n ys σ5 H5 w5 with⟨stop,qn⟩|⟨go,Nn,hNn,step⟩
   ·refine thn (T.done Y Yp Yw YK Yc i [] s5 σ5 H5 _ I5 (stat fr5) st5 stop) ?_
    rintro r s6 ⟨hr,I6⟩
    subst hr
    have fq:=fin s6 σ5 H5 I6 qn
    rw[← YA]at fq
    exact fq
   ·refine thn (T.item Y Yp Yw YK Yc i [] s5 σ5 H5 _ I5 (stat fr5) st5 go) ?_
    rintro r s6 ⟨u,hr,h6⟩
    subst hr
    refine thn h6 ?_
    rintro _ s7 ⟨x,H7,I7,r7,y7,st7,fr7⟩
    have I7':=I7.pinned (stat fr7) (T.obj _ _ st7)
    have back:∀ {σ9:St} {H9:Hp} {s9:Shared},Inv Y ([]++Zgr fp s7.heap) σ9 H9 s9→Inv Y [] σ9 H9 s9∧tn (i+1) s9.heap∧∀b∈fp,H9 b=none:=fun {σ9 H9 s9} I9=>by
     refine⟨I9.unpinned,T.keep _ _ _ st7 fun b hb ob e=>(I9.pin (b,ob) (Qz _ (Qz _ (Zdx hb e)))).1,fun b hb=>?_⟩
     obtain⟨ob,e,d⟩:=T.obj _ _ st7 b hb
     exact(I9.pin (b,ob) (Qz _ (Qz _ (Zdx hb e)))).2.1
    have P1:=hg' _ s7 σ5 H7 x u _ I7' r7 (step x H7 y7)
    rw[Yp,Yw,Yxe]at P1
    refine thn P1 ?_
    rintro _ s8 ⟨σ8,H8,I8,q8⟩
    have P2:=ht' _ s8 σ8 H8 _ I8 q8
    rw[Yp,Yw,Yxe]at P2
    refine thn P2 ?_
    rintro ok s9 ⟨H9,I9,q9⟩
    cases ok with
    | false =>
     rw[if_neg Qm]at q9
     rw[if_neg Qm]
     obtain⟨b1,b2,b3⟩:=back I9
     obtain⟨m',hm',w9⟩:=hNn _ _ _ q9
     exact⟨m',hm',i+1,ys,σ8,H9,b1,b2,b3,w9⟩
    | true =>
     rw[if_pos rfl]at q9
     rw[if_pos rfl]
     have P3:=he' _ s9 σ8 H9 _ I9 q9
     rw[Yp,Yw,Yxe]at P3
     refine thn P3 ?_
     rintro y s10 ⟨vy,H10,I10,r10,hDl,hsz,q10⟩
     have P4:=Zbk (X:=Y) _ s10 σ8 H10 (.ref s2.heap.objs.size) [vy] (.ref s2.heap.objs.size) [y] (fun _ H'=>Nn (ys++[vy]) σ8 H') I10 rfl (.cons r10 .nil) ⟨_,ys,vy,rfl,rfl,hDl,hsz,q10⟩
     rw[Yp,Yw,Yxe]at P4
     refine thn P4 ?_
     rintro _ s11 ⟨_,H11,I11,_,q11⟩
     obtain⟨b1,b2,b3⟩:=back I11
     obtain⟨m',hm',w11⟩:=hNn _ _ _ q11
     exact⟨m',hm',i+1,ys++[vy],σ8,H11,b1,b2,b3,w11⟩
  ·exact w0
 have lp:=T.self X.A 0 { s3 with heap:=h₁,toks:=s2.toks } (fun it' s'=>codeAny (model X.prog X.w) X.A (.compLoop (.ListComp elt [⟨tg,iter,ifs,0⟩] c pos) 0 it' (.ref s2.heap.objs.size) (compEnvC c (ZaZ X.env.cells c.names []) s3.heap.objs.size X.env))
   (compPost (model X.prog X.w) X.A X.xe use QQ (.ref s2.heap.objs.size) s3.heap.objs.size) s') (fun _ _=>False) st4 loop
 exact codeAny_compStart_list loop (wpAny_mono lp (fun _ _ z=>z) fun _ _ z=>z.elim)
theorem Inv.let{pins:List (Addr×Obj)}{σ:St}{H:Hp}{s:Shared}{C:Addr}{h':Heap}(I:Inv X pins σ H s)(hn:H C=none)(hL:C≠X.env.locals)(h1:X.s₀.heap.objs.size≤C)
  (h2:∀x a,X.env.cells.lookup x=some a→a≠C) (h3:∀p∈X.pn++pins,p.1≠C) (hs:Heap.SameBut C s.heap h'):Inv X pins σ H { s with heap:=h' } :=
 I.turned (t':=s.toks) (fun b ob hb e=>hs.extBut b ob hb e) hn hL (.inr h1) h2 h3
theorem Zdw{elt tg iter:Expr}{ifs:List Expr}{pos:Pos}{wi:TI}{g:TG}{tc:TT}{te:TE}(S:Zaq N N' o c)(hN:X.N=N)(ho:X.env.scope=o)(hc:X.calm=true)
  (hi:PI X tg iter wi) (hg:∀C s H fp,PG (ZaX X c N' C s H fp) tg g) (ht:∀C s H fp,PTs (ZaX X c N' C s H fp) ifs tc) (he:∀C s H fp,PE (ZaX X c N' C s H fp) elt te)
  (hs:∀x,foldedSetIterable iter X.env x=pure x:=by intro _;rfl) :
  PE X (.ListComp elt [⟨tg,iter,ifs,0⟩] c pos) (Znz (N'.length-N.length) wi g tc te):=by
 intro pins s σ H Q I h
 rw[eval_ListComp]
 refine Zjm (use:=none) S hN ho hc hi hg ht he hs I h fun D C s5 H5 m I5 hCn hn n1 n2 n3 n4 q=>⟨m,hn,fun h' hsb=>?_⟩
 exact⟨.ref D,H5,I5.let hCn n1 n2 n3 n4 hsb,rfl,q⟩
theorem ZdC{i:Nat}{x:Str}{elt tg iter:Expr}{ifs:List Expr}{pos pos' spos:Pos}{wi:TI}{g:TG}{tc:TT}{te:TE}(hnd:X.N.Nodup)(hx:X.N[i]? = some x)(hl:Loc X.env.scope x)(S:Zaq N N' o c)(hN:X.N=N)(ho:X.env.scope=o)(hc:X.calm=true)
  (hi:PI X tg iter wi) (hg:∀C s H fp,PG (ZaX X c N' C s H fp) tg g) (ht:∀C s H fp,PTs (ZaX X c N' C s H fp) ifs tc) (he:∀C s H fp,PE (ZaX X c N' C s H fp) elt te)
  (hsw:swapsWith (.ListComp elt [⟨tg,iter,ifs,0⟩] c pos) (some (.Name x pos')) spos.line X.env=pure true)
  (hs:∀x,foldedSetIterable iter X.env x=pure x:=by intro _;rfl) (hf:X.fn x=true∨X.env.scope.names.lookup x=some .local:=by first|exact .inl rfl|exact .inr rfl|assumption) :
  PS X (.Assign [.Name x pos'] (.ListComp elt [⟨tg,iter,ifs,0⟩] c pos) spos) (Zra (Znz (N'.length-N.length) wi g tc te) (Zlr i)):=by
 intro pins s σ H D I h
 rw[exec_Assign_Name_used _ _ _ _ hsw]
 refine wpAny_bind (wpAny_standAt (wpAny_bind ?_))
 show wpAny _ X.A (do let _ ← comprehension (.ListComp elt [⟨tg,iter,ifs,0⟩] c pos) c X.env _ (newList []) false (eval iter X.env) (some (assign (.Name x pos') X.env))) _ _ s
 refine wpAny_bind (thn (Zjm (QQ:=fun _ s'=>SP X pins D .next s') (use:=some (assign (.Name x pos') X.env)) S hN ho hc hi hg ht he hs I h ?_) fun _ s' hq=>wpAny_pure (wpAny_pure hq))
 intro L C s5 H5 m I5 hCn hn n1 n2 n3 n4 q
 show wpAny _ X.A (assign (.Name x pos') X.env (.ref L)) _ _ _
 refine wpAny_assign_Name (ZhI (v:=.ref L) I5 hnd hx hl rfl (?_) hf)
 rintro s6 I6 ⟨a,hsb,ha⟩
 have nCa:C≠a:=by
  rcases ha with z|z
  ·rw[z];exact n1
  ·exact(n3 x a z).symm
 exact⟨m,hn.sameBut hsb nCa,fun h' hsb'=>⟨_,H5,I6.let hCn n1 n2 n3 n4 hsb',q⟩⟩
end
theorem ZgF{ys:List Str}:∀ {us:List Value},ZG (ys.map V.str) us→StrsAre us ys:=by
 induction ys with
 | nil=>intro us r;rw[QaP]at r;cases r;exact .nil
 | cons y ys ih =>
  intro us r
  rw[Qh]at r
  cases r with
  | cons r1 r2 =>
   obtain⟨t,e⟩:=r1
   subst e
   exact .cons _ _ (ih r2)
theorem Zij:∀ {vs:List Value} {ys:List Str},StrsAre vs ys→ZG (ys.map V.str) vs
 | _,_,.nil=>.nil
 | _,_,.cons _ t h=>.cons ⟨t,rfl⟩ (Zij h)
section
variable {X:Cx}
def ZrB(K:PySem.W.Frag):List V→Hp→VK→Prop:=fun xs H Q=>∃x c t b,xs=[x,.ty c]∧Ze9 K H x t∧PySem.W.kitOne K t (.type c)=some b∧Q (.bl b) H
theorem Zna:ZaH X (.builtin "isinstance") (ZrB X.K):=by
 intro pins s σ H xs us Q I r h
 obtain⟨x,c,t,b,rfl,ty,e,q⟩:=h
 obtain⟨u,w',rfl,rx,rc⟩:=Zlk r
 cases rc
 exact Zmt I rx ty e fun tk=>⟨.bl b,H,I.tok _,rfl,q⟩
def ZpW(K:PySem.W.Frag):List V→Hp→VK→Prop:=fun xs H Q=>∃ (x:V) (tp:Addr) (cs:List String) (t:Value) (b:Bool),xs=[x,.ref tp]∧H tp=some (.tup (cs.map V.ty))∧Ze9 K H x t∧PySem.W.kitAny K t (cs.map Value.type)=some b∧Q (.bl b) H
theorem ZoC{cs:List String}:∀ {us:List Value},ZG (cs.map V.ty) us→us=cs.map Value.type:=by
 induction cs with
 | nil=>intro us r;rw[QaP]at r;cases r;rfl
 | cons y ys ih =>
  intro us r
  rw[Qh]at r
  cases r with
  | cons r1 r2=>rw[show _=Value.type y from r1,ih r2];rfl
theorem Zlx:ZaH X (.builtin "isinstance") (ZpW X.K):=by
 intro pins s σ H xs us Q I r h
 obtain⟨x,tp,cs,t,b,rfl,ht,ty,e,q⟩:=h
 obtain⟨u,w',rfl,rx,rc⟩:=Zlk r
 cases rc
 obtain⟨_,its,rv,⟨ot,e1,e2,n,e3⟩⟩:=I.hok tp _ ht
 have ei:=ZoC rv
 subst ei
 obtain⟨oc,od,dt,sl⟩:=ot
 have e2':oc=Value.type "tuple":=e2
 have e3':dt=Data.seq (cs.map Value.type).toArray n:=e3
 subst e2';subst e3'
 have fin:∀tk,EP X pins σ Q (.bool b) { s with toks:=tk }:=fun tk=>⟨.bl b,H,I.tok _,rfl,q⟩
 cases ty with
 | non=>cases (show u=Value.none from rx);exact QZ PySem.W.kitx_none I.kIn True.intro e1 e (fun z=>nomatch z) fin
 | bl y=>cases (show u=Value.bool y from rx);exact QZ PySem.W.kitx_bool I.kIn True.intro e1 e (fun z=>nomatch z) fin
 | int i=>obtain⟨t,q⟩:=(show ∃t,u=Value.int i t from rx);cases q;exact QZ PySem.W.kitx_int I.kIn True.intro e1 e (fun z=>nomatch z) fin
 | str y=>obtain⟨t,q⟩:=(show ∃t,u=Value.str y t from rx);cases q;exact QZ PySem.W.kitx_str I.kIn True.intro e1 e (fun z=>nomatch z) fin
 | flt y=>obtain⟨t,q⟩:=(show ∃t,u=Value.float y t from rx);cases q;exact QZ PySem.W.kitx_float I.kIn True.intro e1 e (fun z=>nomatch z) fin
 | @lst a xs ea =>
  cases (show u=Value.ref a from rx)
  obtain⟨_,_,n,_,h1⟩:=(show Z9 X.prog X.w H s.heap a (.lst xs) from I.hok a _ ea)
  exact QZ QaN I.kIn ⟨_,h1,rfl⟩ e1 e (fun z=>nomatch z) fin
 | @frz a ob xs ea =>
  cases (show u=Value.ref a from rx)
  obtain⟨_,_,_,n,_,h1⟩:=(show Z9 X.prog X.w H s.heap a (.frz ob (.lst xs)) from I.hok a _ ea)
  exact QZ QaN I.kIn ⟨_,h1,rfl⟩ e1 e (fun z=>nomatch z) fin
 | @tup a xs ea =>
  cases (show u=Value.ref a from rx)
  obtain⟨_,_,_,p⟩:=(show Z9 X.prog X.w H s.heap a (.tup xs) from I.hok a _ ea)
  obtain⟨o,h1,h2,_⟩:=p
  exact QZ PySem.W.kitx_tuple I.kIn ⟨o,h1,h2⟩ e1 e (fun z=>nomatch z) fin
 | @dK a kvs ea =>
  cases (show u=Value.ref a from rx)
  obtain⟨_,_,vs,_,p⟩:=(show Z9 X.prog X.w H s.heap a (.dK kvs) from I.hok a _ ea)
  obtain⟨o,es,ep,h1,h2,_⟩:=p
  exact QZ QaO I.kIn ⟨o,h1,h2.1⟩ e1 e (fun z=>nomatch z) fin
 | @dT a kvs ea =>
  cases (show u=Value.ref a from rx)
  obtain⟨_,_,xs,_,o,es,ep,h1,h2,_⟩:=(show Z9 X.prog X.w H s.heap a (.dT kvs) from I.hok a _ ea)
  exact QZ QaO I.kIn ⟨o,h1,h2.1⟩ e1 e (fun z=>nomatch z) fin
 | @ins a C dx fs ea cl ha hn htk hm =>
  cases (show u=Value.ref a from rx)
  obtain⟨mA,O,_⟩:=Ze7 I.hok ea
  obtain⟨od,J,_⟩:=O.look
  exact QZ (PySem.W.kitx_own (cl.get _) cl.hd ha hn htk hm) I.kIn J e1 e (fun z=>nomatch z) fin
theorem ZmY(hc:X.calm=true):ZaH X (.builtin "all") (fun xs H Q=>∃ (p:Addr) (bs:List Bool),xs=[.ref p]∧SqL X.K H p (bs.map V.bl)∧Q (.bl (bs.all id)) H):=by
 intro pins s σ H xs us Q I r h
 obtain⟨p,bs,rfl,hq,q⟩:=h
 obtain⟨u,rfl,rx⟩:=Zdd r
 cases rx
 obtain⟨its,rv,pl,hz⟩:=I.list hq
 have hl:=pl.isList
 have hlt:p<s.heap.objs.size:=by obtain⟨_,e,_⟩:=hl;exact Qr e
 refine call_all_walk (wpAny_pyIter_list hl ?_)
 refine⟨s.heap.objs.size,[s.heap.objs.size,p],[s.heap.objs.size],its.toArray.size,_,_,fun i=>(bs[i]?).getD true,rfl,Walks.list (A:=X.A.in1) (I.ok.hd hc) _ p (QC hlt) its.toArray,
  ⟨⟨_,Qq _ rfl,rfl,rfl⟩,hl.push _⟩,fun i v s' Q' E' hP hQ=>?_,fun h' tk hk=>?_⟩
 ·have hP':its[i]? = some v:=by simpa using hP
  have hi:i<its.length:=(Qi.mp hP').1
  have hlen:=rv.length
  have hb:(bs.map V.bl)[i]? = some (V.bl (bs[i]'(by rw[Qa]at hlen;omega))):=by
   rw[Qn,Qb (by rw[Qa]at hlen;omega)];rfl
  obtain⟨u',hu',ru'⟩:=rv.get hb
  rw[hP']at hu';cases hu'
  obtain rfl:v=Value.bool _:=ru'
  have hQ2:Q' ((bs[i]?).getD true) s':=hQ
  rw[Qb (by rw[Qa]at hlen;omega)]at hQ2
  exact wpAny_truthy_bool hQ2
 ·have e:((List.range its.toArray.size).all fun i=>(bs[i]?).getD true)=bs.all id:=by
   have hlen:=rv.length
   rw[Qa]at hlen
   rw[QE,← hlen,QaK,Qa1,Qa1]
   constructor
   ·intro z b hb
    obtain⟨i,hi,rfl⟩:=List.mem_iff_getElem.mp hb
    have:=z i (Qag.mpr hi)
    rw[Qb hi]at this
    exact this
   ·intro z i hi
    have hi':=Qag.mp hi
    rw[Qb hi']
    exact z _ (Q3 hi')
  refine⟨.bl (bs.all id),H,I.kept fun b ob e'=>hk b ob (fun hm=>?_) (Qc _ e'),by rw[e];rfl,q⟩
  rw[Qp.mp hm]at e'
  exact Q4 _ (Qr e')
theorem Ziv:ZaH X (.builtin "sorted") (fun xs H Q=>∃ (p:Addr) (ss:List Str),xs=[.ref p]∧SqL X.K H p (ss.map V.str)∧ss.length<64 ∧
  ∀ (l:Addr) (ss':List Str),H l=none→ss'.Perm ss→sortedS ss'=true→Q (.ref l) (upd H l (.lst (ss'.map V.str)))):=by
 intro pins s σ H xs us Q I r h
 obtain⟨p,ss,rfl,hq,h64,q⟩:=h
 obtain⟨u,rfl,rx⟩:=Zdd r
 cases rx
 obtain⟨its,rv,pl,hz⟩:=I.list hq
 have hlen:=rv.length
 rw[Qa]at hlen hz
 refine sorted_strs pl.isList (ZgF rv) (by omega) fun out ss' a1 a2 a3=>?_
 obtain⟨e,he⟩:=sortedAll_at s.heap its out
 have hp:=a2.length_eq
 refine⟨.ref (s.heap.objs.size+1),_,I.laid (t':=s.toks) (o:=.lst (ss'.map V.str)) (fun _ _=>sortedAll_old) (Qa4 _) ⟨by rw[Qa];omega,out.toList,e,Zij a1,by simpa using he⟩,rfl,q _ ss' (I.hok.fresh (Qa4 _)) a2 a3⟩
theorem Zo4:MtR X "str.join" (fun x vs H Q=>∃ (sep:Str) (p:Addr) (ys:List Str),x=.str sep∧vs=[.ref p]∧SqL X.K H p (ys.map V.str)∧(ys.map (·.length)).sum+ys.length*sep.length≤16777216∧Q (.str (Txt.join sep ys)) H):=by
 intro pins s σ H x vs v us Q I rx rv h
 obtain⟨sep,p,ys,rfl,rfl,hq,hz,q⟩:=h
 obtain⟨t,rfl⟩:=rx
 obtain⟨u,rfl,ru⟩:=rv.one
 cases ru
 obtain⟨its,r',pl,_⟩:=I.list hq
 exact join_list pl.isList (ZgF r') hz fun t' k=>⟨.str _,H,I.tok _,⟨_,rfl⟩,q⟩
theorem Zpi:OpR X (binaryOp .Mult) (fun x y H Q=>∃a n,x=.str a∧y=.int n∧0≤n∧n≤1000000∧(a.length:Int)*n≤1000000∧Q (.str (Txt.mul a n)) H):=by
 intro pins s σ H x y v u Q I rx ry h
 obtain⟨a,n,rfl,rfl,h0,h1,h2,q⟩:=h
 obtain⟨t,rfl⟩:=rx
 obtain⟨t',rfl⟩:=ry
 have h2':a.length*n.toNat≤1000000:=by
  have e:((a.length*n.toNat:Nat):Int)=(a.length:Int)*n:=by rw[Int.natCast_mul,Int.toNat_of_nonneg h0]
  omega
 refine PySem.P.mul_str ?_ (fun c1 c2=>?_) (fun c1 c2=>?_) ?_
 ·have e1:decide (n < -(2 ^ 63:Int))=false:=decide_eq_false (by omega)
  have e2:decide (n≥2 ^ 63)=false:=decide_eq_false (by omega)
  rw[e1,e2];rfl
 ·have hn:(1:Int)≤n:=by omega
  have q1:(a.length:Int)*1≤(a.length:Int)*n:=Int.mul_le_mul_of_nonneg_left hn (Int.natCast_nonneg _)
  have q2:(1000000:Int)≤(2 ^ 63-1) / n:=by
   rw[Int.le_ediv_iff_mul_le (by omega)]
   have:(1000000:Int)*n≤1000000*1000000:=Int.mul_le_mul_of_nonneg_left h1 (by decide)
   omega
  omega
 ·unfold Builtin.Str.tooLong
  have hl:sizeLine=16777216:=sizeLine_eq
  exact decide_eq_false (by omega)
 ·have e:Txt.mul a n=if n<1 then Str.empty else if (n == 1||a.length == 0)=true then a else ⟨(List.replicate n.toNat a.cps).foldl (·++·) #[]⟩:=rfl
  rw[e]at q
  by_cases c1:n<1
  ·rw[if_pos c1]at q ⊢
   exact⟨by decide,.str _,H,I.tok _,⟨_,rfl⟩,q⟩
  ·rw[if_neg c1]at q ⊢
   by_cases c2:(n == 1||a.length == 0)=true
   ·rw[if_pos c2]at q ⊢
    exact⟨.str _,H,I,⟨_,rfl⟩,q⟩
   ·rw[if_neg c2]at q ⊢
    refine⟨?_,.str _,H,I.tok _,⟨_,rfl⟩,q⟩
    have hfold:∀ (k:Nat) (acc:Array Nat),((List.replicate k a.cps).foldl (·++·) acc).size=acc.size+k*a.cps.size:=by
     intro k
     induction k with
     | zero=>intro acc;simp
     | succ k ih=>intro acc;rw[Q2,List.foldl_cons,ih,Array.size_append,Nat.succ_mul];omega
    show ((List.replicate n.toNat a.cps).foldl (·++·) #[]).size≤sizeLine
    rw[hfold]
    have e2:a.cps.size=a.length:=rfl
    have:n.toNat*a.cps.size≤1000000:=by rw[e2,Nat.mul_comm];exact h2'
    have hl:sizeLine=16777216:=sizeLine_eq
    simp only[List.size_toArray,List.length_nil]
    omega
def rSlS:V→Option Int→Option Int→Hp→VK→Prop:=fun x lo hi H Q=>∃z,x=.str z∧z.length≤sizeLine∧Q (.str (Txt.slice z lo hi)) H
end
inductive Src where
 | l (a:Addr)|t (a:Addr)|s (z:Str)
def Src.val:Src→V
 | .l a=>.ref a
 | .t a=>.ref a
 | .s z=>.str z
def ZoN(c:Nat):V:=.str ⟨#[c]⟩
def Src.its(K:PySem.W.Frag)(H:Hp):Src→List V→Prop
 | .l a,xs=>SqL K H a xs
 | .t a,xs=>SqT K H a xs
 | .s z,xs=>xs=z.cps.toList.map ZoN
def Src.at(h:Heap)(i:Addr):Src→Nat→Prop
 | .l a,k=>h.IsListIter i a k
 | .t a,k=>h.IsTupleIter i a k
 | .s z,k=>∃tk,h.IsStrIter i (strIterType z) z tk k
def Src.raw(h:Heap):Src→List Value→Prop
 | .l a,us=>h.IsList a us.toArray
 | .t a,us=>h.IsTuple a us.toArray
 | .s _,_=>True
def Src.fit:Src→List Value→Nat→Value→Prop
 | .l _,us,k,u=>us[k]? = some u
 | .t _,us,k,u=>us[k]? = some u
 | .s z,_,k,u=>∃c tk,z.cps[k]? = some c∧u=.str ⟨#[c]⟩ tk
def Src.many:Src→List Value→Nat
 | .l _,us=>us.length
 | .t _,us=>us.length
 | .s z,_=>z.cps.size
def Src.off:Src→Addr→Prop
 | .l a,b=>a≠b
 | .t a,b=>a≠b
 | .s _,_=>True
theorem Src.at_obj{h:Heap}{i:Addr}:∀ {S:Src} {k:Nat},S.at h i k→∃o vs,h.get? i=some o∧o.data=.fields vs
 | .l _,_,⟨o,e,_,d⟩=>⟨o,_,e,d⟩
 | .t _,_,⟨o,e,_,d⟩=>⟨o,_,e,d⟩
 | .s _,_,⟨_,o,e,_,d⟩=>⟨o,_,e,d⟩
theorem Src.at_keep{h h':Heap}{i:Addr}(k':∀o,h.get? i=some o→h'.get? i=some o):∀ {S:Src} {k:Nat},S.at h i k→S.at h' i k
 | .l _,_,⟨o,e,d⟩=>⟨o,k' o e,d⟩
 | .t _,_,⟨o,e,d⟩=>⟨o,k' o e,d⟩
 | .s _,_,⟨tk,o,e,d⟩=>⟨tk,o,k' o e,d⟩
theorem Src.raw_keep{h h':Heap}{b:Addr}(k':∀c o,c≠b→h.get? c=some o→h'.get? c=some o):∀ {S:Src} {us:List Value},S.off b→S.raw h us→S.raw h' us
 | .l _,_,f,⟨o,e,d⟩=>⟨o,k' _ o f e,d⟩
 | .t _,_,f,⟨o,e,d⟩=>⟨o,k' _ o f e,d⟩
 | .s _,_,_,_=>trivial
section
variable {prog:Program} {w:World} {A:Around} {E:Value→Shared→Prop} {s:Shared}
theorem Zix{it t:Addr}{i:Nat}{items:Array Value}{x:Value}{Q:Value→Shared→Prop}(hit:s.heap.IsTupleIter it t i)(ht:s.heap.IsTuple t items)(hx:items[i]? = some x)
  (hQ:∀h',h'.IsTupleIter it t (i+1)→Heap.SameBut it s.heap h'→Q x { s with heap:=h' }):wpAny (model prog w) A (Builtin.SmallTypes.nextOf (.ref it)) Q E s:=by
 obtain⟨o,ho,hc,hd⟩:=id hit
 obtain⟨ol,hol,_,nl,hdl⟩:=ht
 unfold Builtin.SmallTypes.nextOf
 refine wpAny_bind (wpAny_callSpecial?_slot (name:=Str.ofString "__next__") hit.typeIs F.slot_tuple_iterator_next
  (wpAny_call_entry F.slot_tuple_iterator_next hit.typeIs F.entry_tuple_iterator_next ?_ (F.args_tuple_iterator_next_1 _)))
 show wpAny _ _ (field (.ref it) 0 >>= _) _ _ s
 refine wpAny_bind (wpAny_field ho hd (x:=.ref t) rfl ?_)
 show wpAny _ _ (if (Value.ref t == Value.none)=true then _ else _) _ _ s
 rw[if_neg (show ¬ ((Value.ref t == Value.none)=true) from Qm)]
 show wpAny _ _ (field (.ref it) 1 >>= _) _ _ s
 refine wpAny_bind (wpAny_field ho hd (x:=.int i 0) rfl ?_)
 show wpAny _ _ (seqItems? (.ref t) >>= _) _ _ s
 refine wpAny_bind (wpAny_seqItems hol hdl ?_)
 simp only[Int.toNat_natCast,hx]
 refine wpAny_bind (wpAny_setField ho hd (by simp) (wpAny_pure ⟨x,rfl,wpAny_pure (hQ _ ?_ (Heap.SameBut.update ..))⟩))
 exact⟨_,Heap.get?_update_self _ ho (Obj.isFreed_of_fields (Obj.data_mapFields hd _)),(Obj.cls_mapFields ..).trans hc,by
  rw[Obj.data_mapFields hd];simp[rawInt]⟩
theorem ZdR{i:Addr}{k:Nat}{us:List Value}{Q:Value→Shared→Prop}:∀ {S:Src},S.at s.heap i k→S.raw s.heap us→k<S.many us →
  (∀h' tk u,S.fit us k u→S.at h' i (k+1)→Heap.SameBut i s.heap h'→Q u { s with heap:=h',toks:=tk })→wpAny (model prog w) A (Builtin.SmallTypes.nextOf (.ref i)) Q E s
 | .l a,h1,h2,h3,hQ=>wpAny_nextOf_list_item h1 h2 (x:=us[k]'h3) (by rw[Qai];exact Qb h3) fun h' q1 q2=>hQ h' s.toks _ (Qb h3) q1 q2
 | .t a,h1,h2,h3,hQ=>Zix h1 h2 (x:=us[k]'h3) (by rw[Qai];exact Qb h3) fun h' q1 q2=>hQ h' s.toks _ (Qb h3) q1 q2
 | .s z,⟨tk,h1⟩,h2,h3,hQ=>by
  have hx:z.cps[k]? = some z.cps[k]:=Array.getElem?_eq_getElem h3
  by_cases ha:z.cps.all (·<128)=true
  ·have e:strIterType z = "str_ascii_iterator":=by unfold strIterType;rw[if_pos ha]
   rw[e]at h1
   exact wpAny_nextOf_ascii_item h1 hx fun h' q1 q2=>hQ h' _ _ ⟨_,_,hx,rfl⟩ ⟨tk,by rw[e];exact q1⟩ q2
  ·have e:strIterType z = "str_iterator":=by unfold strIterType;rw[if_neg ha]
   rw[e]at h1
   exact wpAny_nextOf_wide_item h1 hx fun h' q1 q2=>hQ h' _ _ ⟨_,_,hx,rfl⟩ ⟨tk,by rw[e];exact q1⟩ q2
theorem Zfw{it t:Addr}{i:Nat}{items:Array Value}{Q:Value→Shared→Prop}(hh:A.handled=none)(hit:s.heap.IsTupleIter it t i)(ht:s.heap.IsTuple t items)(hx:items[i]? = none)
  (hE:∀h' e,Heap.ExtBut it s.heap h'→(∃o,h'.get? e=some o∧o.cls=.type "StopIteration")→E (.ref e) { s with heap:=h' }):wpAny (model prog w) A (Builtin.SmallTypes.nextOf (.ref it)) Q E s:=by
 obtain⟨o,ho,hc,hd⟩:=id hit
 obtain⟨ol,hol,_,nl,hdl⟩:=ht
 unfold Builtin.SmallTypes.nextOf
 refine wpAny_bind (wpAny_callSpecial?_slot (name:=Str.ofString "__next__") hit.typeIs F.slot_tuple_iterator_next
  (wpAny_call_entry F.slot_tuple_iterator_next hit.typeIs F.entry_tuple_iterator_next ?_ (F.args_tuple_iterator_next_1 _)))
 show wpAny _ _ (field (.ref it) 0 >>= _) _ _ s
 refine wpAny_bind (wpAny_field ho hd (x:=.ref t) rfl ?_)
 show wpAny _ _ (if (Value.ref t == Value.none)=true then _ else _) _ _ s
 rw[if_neg (show ¬ ((Value.ref t == Value.none)=true) from Qm)]
 show wpAny _ _ (field (.ref it) 1 >>= _) _ _ s
 refine wpAny_bind (wpAny_field ho hd (x:=.int i 0) rfl ?_)
 show wpAny _ _ (seqItems? (.ref t) >>= _) _ _ s
 refine wpAny_bind (wpAny_seqItems hol hdl ?_)
 simp only[Int.toNat_natCast,hx]
 refine wpAny_bind (wpAny_rule (wpAny_bind (wpAny_setField ho hd (by simp) ?_)))
 show wpAny _ _ (newExc (.type "StopIteration") [] >>= _) _ _ _
 refine wpAny_bind ?_
 simp only[newExc,newTuple]
 refine wpAny_bind (wpAny_newObj_type ?_ (by size_fits))
 refine wpAny_bind (m:=firstArgMember _ _) (wpAny_of_eq (a:=Value.none) (by first|rfl|(simp only[firstArgMember];rfl)) ?_)
 refine wpAny_newObj_type ?_ (by size_fits)
 simp only[raiseNew]
 refine wpAny_bind (wpAny_handled ?_)
 first|rw[show A.in1.handled=none from hh]|rw[hh]
 refine wpAny_bind (wpAny_pure (wpAny_throw ?_))
 exact hE _ _ (((Heap.SameBut.update ..).extBut.push _).push _) ⟨_,Qq _ rfl,rfl⟩
theorem Zgt{i:Addr}{k:Nat}{us:List Value}{Q:Value→Shared→Prop}(hh:A.handled=none):∀ {S:Src},S.at s.heap i k→S.raw s.heap us→S.many us≤k →
  (∀h' e,Heap.ExtBut i s.heap h'→(∃o,h'.get? e=some o∧o.cls=.type "StopIteration")→E (.ref e) { s with heap:=h' })→wpAny (model prog w) A (Builtin.SmallTypes.nextOf (.ref i)) Q E s
 | .l a,h1,h2,h3,hE=>wpAny_nextOf_list_end hh h1 h2 (by rw[Qai];exact QN h3) hE
 | .t a,h1,h2,h3,hE=>Zfw hh h1 h2 (by rw[Qai];exact QN h3) hE
 | .s z,⟨tk,h1⟩,h2,h3,hE=>by
  have hx:z.cps[k]? = none:=Array.getElem?_eq_none h3
  by_cases ha:z.cps.all (·<128)=true
  ·have e:strIterType z = "str_ascii_iterator":=by unfold strIterType;rw[if_pos ha]
   rw[e]at h1
   exact wpAny_nextOf_ascii_end hh h1 hx hE
  ·have e:strIterType z = "str_iterator":=by unfold strIterType;rw[if_neg ha]
   rw[e]at h1
   exact wpAny_nextOf_wide_end hh h1 hx hE
structure ZiP (z TI TO i1 i2:Addr) (S1 S2:Src):Prop where
 TIz:TI≠z
 TOz:TO≠z
 i1z:i1≠z
 i2z:i2≠z
 TITO:TI≠TO
 TIi1:TI≠i1
 TIi2:TI≠i2
 TOi1:TO≠i1
 TOi2:TO≠i2
 i12:i1≠i2
 s1z:S1.off z
 s1TO:S1.off TO
 s1i1:S1.off i1
 s1i2:S1.off i2
 s2z:S2.off z
 s2TO:S2.off TO
 s2i1:S2.off i1
 s2i2:S2.off i2
theorem Zoa{z TI TO i1 i2:Addr}{S1 S2:Src}{k:Nat}{us1 us2:List Value}{a b:Value}{Q:Option Value→Shared→Prop}(D:ZiP z TI TO i1 i2 S1 S2)
  (hz:IsZip s.heap z TI TO .none) (hTI:IsPair s.heap TI (.ref i1) (.ref i2)) (hTO:IsPair s.heap TO a b)
  (h1:S1.at s.heap i1 k) (h2:S2.at s.heap i2 k) (r1:S1.raw s.heap us1) (r2:S2.raw s.heap us2) (m1:k<S1.many us1) (m2:k<S2.many us2)
  (hQ:∀h' tk x y,S1.fit us1 k x→S2.fit us2 k y→IsZip h' z TI TO (rawInt s.heap.objs.size)→IsPair h' TO x y→S1.at h' i1 (k+1)→S2.at h' i2 (k+1)→IsPair h' s.heap.objs.size x y→h'.objs.size=s.heap.objs.size+1 →
   (∀c o,c≠z→c≠TO→c≠i1→c≠i2→s.heap.get? c=some o→h'.get? c=some o)→Q (some (.ref s.heap.objs.size)) { s with heap:=h',toks:=tk }) :
  wpAny (model prog w) A (pyNext (.ref z)) Q E s:=by
 have hT:s.TypeIs (.ref z) "zip":=⟨_,hz,rfl⟩
 unfold pyNext
 refine wpAny_bind (wpAny_attempt (wpAny_callSpecial?_slot (name:=Str.ofString "__next__") hT F.slot_zip_next (wpAny_call_entry F.slot_zip_next hT F.entry_zip_next ?_ (F.args_zip_next_1 _))))
 show wpAny _ _ (field (.ref z) 2 >>= _) _ _ _
 refine wpAny_bind (wpAny_field hz rfl (x:=.bool false) rfl ?_)
 show wpAny _ _ (field (.ref z) 3 >>= _) _ _ _
 refine wpAny_bind (wpAny_field hz rfl (x:=.ref TI) rfl (wpAny_bind (wpAny_seqItems hTI rfl ?_)))
 show wpAny _ _ (Builtin.SmallTypes.ownedTupleIsFree (.ref z) >>= _) _ _ _
 unfold Builtin.SmallTypes.ownedTupleIsFree
 refine wpAny_bind (wpAny_bind (wpAny_field hz rfl (x:=.none) rfl (wpAny_pure ?_)))
 simp only[if_true]
 refine wpAny_bind (wpAny_rule (wpAny_bind (wpAny_field hz rfl (x:=.ref TO) rfl (wpAny_bind (wpAny_setField_rec hz (by simp) fun h₁ hz₁ hs₁=>?_)))))
 replace hz₁:IsZip h₁ z TI TO .ellipsis:=hz₁
 refine wpAny_bind ?_
 simp only[List.zipIdx_cons,List.zipIdx_nil,List.forIn_cons,List.forIn_nil]
 refine wpAny_bind (wpAny_bind (wpAny_onRaise ?_))
 show wpAny _ _ (Builtin.SmallTypes.nextOf (.ref i1) >>= _) _ _ _
 refine wpAny_bind (ZdR (S:=S1) (us:=us1) (k:=k) (S1.at_keep (fun o e=>hs₁.extBut _ o D.i1z e) h1) (S1.raw_keep (fun c o n e=>hs₁.extBut c o n e) D.s1z r1) m1 fun h₂ tk₂ x fx h1₂ hs₂=>wpAny_pure ?_)
 have hs₂':Heap.SameBut i1 h₁ h₂:=hs₂
 have hTO₂:IsPair h₂ TO a b:=hs₂'.extBut _ _ D.TOi1 (hs₁.extBut _ _ D.TOz hTO)
 refine wpAny_bind (wpAny_seqItems hTO₂ rfl (wpAny_bind (wpAny_updateSeq_pair hTO₂ fun h₃ hTO₃ hs₃=>wpAny_bind (wpAny_letGo (wpAny_pure ?_)))))
 replace hTO₃:IsPair h₃ TO x b:=hTO₃
 have hs₃':Heap.SameBut TO h₂ h₃:=hs₃
 refine wpAny_bind (wpAny_bind (wpAny_onRaise ?_))
 show wpAny _ _ (Builtin.SmallTypes.nextOf (.ref i2) >>= _) _ _ _
 refine wpAny_bind (ZdR (S:=S2) (us:=us2) (k:=k)
  (S2.at_keep (fun o e=>hs₃'.extBut _ o D.TOi2.symm (hs₂'.extBut _ o D.i12.symm (hs₁.extBut _ o D.i2z e))) h2)
  (S2.raw_keep (fun c o n e=>hs₃'.extBut c o n e) D.s2TO (S2.raw_keep (fun c o n e=>hs₂'.extBut c o n e) D.s2i1 (S2.raw_keep (fun c o n e=>hs₁.extBut c o n e) D.s2z r2))) m2 fun h₄ tk₄ y fy h2₄ hs₄=>wpAny_pure ?_)
 have hs₄':Heap.SameBut i2 h₃ h₄:=hs₄
 have hTO₄:IsPair h₄ TO x b:=hs₄'.extBut _ _ D.TOi2 hTO₃
 refine wpAny_bind (wpAny_seqItems hTO₄ rfl (wpAny_bind (wpAny_updateSeq_pair hTO₄ fun h₅ hTO₅ hs₅=>wpAny_bind (wpAny_letGo (wpAny_pure (wpAny_pure ?_))))))
 replace hTO₅:IsPair h₅ TO x y:=hTO₅
 have hs₅':Heap.SameBut TO h₄ h₅:=hs₅
 refine wpAny_bind (wpAny_seqItems hTO₅ rfl (wpAny_bind (wpAny_newTuple ?_)))
 have hsz:h₅.objs.size=s.heap.objs.size:=by rw[hs₅'.1,hs₄'.1,hs₃'.1,hs₂'.1,hs₁.1]
 have hz₅:IsZip h₅ z TI TO .ellipsis:=hs₅'.extBut _ _ D.TOz.symm (hs₄'.extBut _ _ D.i2z.symm (hs₃'.extBut _ _ D.TOz.symm (hs₂'.extBut _ _ D.i1z.symm hz₁)))
 have hk₅:∀c o,c≠z→c≠TO→c≠i1→c≠i2→s.heap.get? c=some o→h₅.get? c=some o:=fun c o c1 c2 c3 c4 e =>
  hs₅'.extBut _ _ c2 (hs₄'.extBut _ _ c4 (hs₃'.extBut _ _ c2 (hs₂'.extBut _ _ c3 (hs₁.extBut _ _ c1 e))))
 have h1₅:S1.at h₅ i1 (k+1):=S1.at_keep (fun o e=>hs₅'.extBut _ o D.TOi1.symm (hs₄'.extBut _ o D.i12 (hs₃'.extBut _ o D.TOi1.symm e))) h1₂
 have h2₅:S2.at h₅ i2 (k+1):=S2.at_keep (fun o e=>hs₅'.extBut _ o D.TOi2.symm e) h2₄
 have hzlt:z<h₅.objs.size:=Qr hz₅
 show wpAny _ _ (Builtin.SmallTypes.ownedTupleHandOut (.ref z) (.ref h₅.objs.size) >>= _) _ _ _
 refine wpAny_bind ?_
 unfold Builtin.SmallTypes.ownedTupleHandOut
 have hz₆:IsZip (h₅.push { cls:=.type "tuple",data:=.seq #[x,y] }) z TI TO .ellipsis:=Qc _ hz₅
 refine wpAny_bind (wpAny_setField_rec hz₆ (by simp) fun h₇ hz₇ hs₇=>?_)
 replace hz₇:IsZip h₇ z TI TO (rawInt h₅.objs.size):=hz₇
 refine wpAny_setField_rec hz₇ (by simp) fun h₈ hz₈ hs₈=>?_
 replace hz₈:IsZip h₈ z TI TO (rawInt h₅.objs.size):=hz₈
 have up:∀c o,c≠z→h₅.get? c=some o→h₈.get? c=some o:=fun c o c1 e=>hs₈.extBut _ _ c1 (hs₇.extBut _ _ c1 (Qc _ e))
 have hT₈:IsPair h₈ h₅.objs.size x y:=hs₈.extBut _ _ (Q6 hzlt) (hs₇.extBut _ _ (Q6 hzlt) (Qq _ rfl))
 have hz8:h₈.objs.size=h₅.objs.size+1:=by rw[hs₈.1,hs₇.1,Q7]
 rw[hsz]at hz₈ hT₈ hz8
 refine wpAny_pure ⟨_,rfl,wpAny_pure ?_⟩
 show Q (some (.ref h₅.objs.size)) _
 rw[hsz]
 exact hQ h₈ tk₄ x y fx fy hz₈ (up _ _ D.TOz hTO₅) (S1.at_keep (fun o e=>up _ o D.i1z e) h1₅) (S2.at_keep (fun o e=>up _ o D.i2z e) h2₅) hT₈ hz8 fun c o c1 c2 c3 c4 e=>up c o c1 (hk₅ c o c1 c2 c3 c4 e)
theorem Znv{z TI TO i1 i2:Addr}{S1 S2:Src}{k:Nat}{us1 us2:List Value}{a b:Value}{Q:Option Value→Shared→Prop}(hh:A.handled=none)(D:ZiP z TI TO i1 i2 S1 S2)
  (hz:IsZip s.heap z TI TO .none) (hTI:IsPair s.heap TI (.ref i1) (.ref i2)) (hTO:IsPair s.heap TO a b)
  (h1:S1.at s.heap i1 k) (h2:S2.at s.heap i2 k) (r1:S1.raw s.heap us1) (r2:S2.raw s.heap us2) (hend:S1.many us1≤k∨S2.many us2≤k)
  (hQ:∀h' tk,(∀c o,c≠z→c≠TO→c≠i1→c≠i2→s.heap.get? c=some o→h'.get? c=some o)→Q none { s with heap:=h',toks:=tk }) :
  wpAny (model prog w) A (pyNext (.ref z)) Q E s:=by
 have hT:s.TypeIs (.ref z) "zip":=⟨_,hz,rfl⟩
 unfold pyNext
 have done:∀ (h':Heap) (tk:Nat) (e:Addr),(∀c o,c≠z→c≠TO→c≠i1→c≠i2→s.heap.get? c=some o→h'.get? c=some o)→(∃o,h'.get? e=some o∧o.cls=.type "StopIteration") →
   wpAny (model prog w) A (do if (← isInstance (.ref e) (.type "StopIteration")) then pure none else throw (.ref e):Sem (Option Value)) Q E { s with heap:=h',toks:=tk }:=fun h' tk e hk ⟨o,ho,hc⟩=>
  wpAny_bind (wpAny_isInstance (T := "StopIteration") (b:=true) ⟨o,ho,hc⟩ isSubtype_stop (wpAny_pure (hQ h' tk hk)))
 refine wpAny_bind (wpAny_attempt (wpAny_callSpecial?_slot (name:=Str.ofString "__next__") hT F.slot_zip_next (wpAny_call_entry F.slot_zip_next hT F.entry_zip_next ?_ (F.args_zip_next_1 _))))
 show wpAny _ _ (field (.ref z) 2 >>= _) _ _ _
 refine wpAny_bind (wpAny_field hz rfl (x:=.bool false) rfl ?_)
 show wpAny _ _ (field (.ref z) 3 >>= _) _ _ _
 refine wpAny_bind (wpAny_field hz rfl (x:=.ref TI) rfl (wpAny_bind (wpAny_seqItems hTI rfl ?_)))
 show wpAny _ _ (Builtin.SmallTypes.ownedTupleIsFree (.ref z) >>= _) _ _ _
 unfold Builtin.SmallTypes.ownedTupleIsFree
 refine wpAny_bind (wpAny_bind (wpAny_field hz rfl (x:=.none) rfl (wpAny_pure ?_)))
 simp only[if_true]
 refine wpAny_bind (wpAny_rule (wpAny_bind (wpAny_field hz rfl (x:=.ref TO) rfl (wpAny_bind (wpAny_setField_rec hz (by simp) fun h₁ hz₁ hs₁=>?_)))))
 replace hz₁:IsZip h₁ z TI TO .ellipsis:=hz₁
 refine wpAny_bind ?_
 simp only[List.zipIdx_cons,List.zipIdx_nil,List.forIn_cons,List.forIn_nil]
 refine wpAny_bind (wpAny_bind (wpAny_onRaise ?_))
 show wpAny _ _ (Builtin.SmallTypes.nextOf (.ref i1) >>= _) _ _ _
 by_cases m1:k<S1.many us1
 ·have m2:S2.many us2≤k:=by rcases hend with z'|z';omega;exact z'
  refine wpAny_bind (ZdR (S:=S1) (us:=us1) (k:=k) (S1.at_keep (fun o e=>hs₁.extBut _ o D.i1z e) h1) (S1.raw_keep (fun c o n e=>hs₁.extBut c o n e) D.s1z r1) m1 fun h₂ tk₂ x fx h1₂ hs₂=>wpAny_pure ?_)
  have hs₂':Heap.SameBut i1 h₁ h₂:=hs₂
  have hTO₂:IsPair h₂ TO a b:=hs₂'.extBut _ _ D.TOi1 (hs₁.extBut _ _ D.TOz hTO)
  refine wpAny_bind (wpAny_seqItems hTO₂ rfl (wpAny_bind (wpAny_updateSeq_pair hTO₂ fun h₃ hTO₃ hs₃=>wpAny_bind (wpAny_letGo (wpAny_pure ?_)))))
  have hs₃':Heap.SameBut TO h₂ h₃:=hs₃
  refine wpAny_bind (wpAny_bind (wpAny_onRaise ?_))
  show wpAny _ _ (Builtin.SmallTypes.nextOf (.ref i2) >>= _) _ _ _
  refine wpAny_bind (Zgt (S:=S2) (us:=us2) (k:=k) hh
   (S2.at_keep (fun o e=>hs₃'.extBut _ o D.TOi2.symm (hs₂'.extBut _ o D.i12.symm (hs₁.extBut _ o D.i2z e))) h2)
   (S2.raw_keep (fun c o n e=>hs₃'.extBut c o n e) D.s2TO (S2.raw_keep (fun c o n e=>hs₂'.extBut c o n e) D.s2i1 (S2.raw_keep (fun c o n e=>hs₁.extBut c o n e) D.s2z r2))) m2 fun h₄ e hs₄ he=>?_)
  obtain⟨oe,hoe,hce⟩:=he
  have hz₄:IsZip h₄ z TI TO .ellipsis:=hs₄ _ _ D.i2z.symm (hs₃'.extBut _ _ D.TOz.symm (hs₂'.extBut _ _ D.i1z.symm hz₁))
  have hez:e≠z:=fun x=>by subst x;rw[hz₄]at hoe;cases hoe;simp at hce
  exact wpAny_setField_rec hz₄ (by simp) fun h₅ _ hs₅=>done h₅ _ e (fun c o c1 c2 c3 c4 x=>hs₅.extBut _ _ c1 (hs₄ _ _ c4 (hs₃'.extBut _ _ c2 (hs₂'.extBut _ _ c3 (hs₁.extBut _ _ c1 x))))) ⟨oe,hs₅.extBut _ _ hez hoe,hce⟩
 ·refine wpAny_bind (Zgt (S:=S1) (us:=us1) (k:=k) hh (S1.at_keep (fun o e=>hs₁.extBut _ o D.i1z e) h1) (S1.raw_keep (fun c o n e=>hs₁.extBut c o n e) D.s1z r1) (by omega) fun h₂ e hs₂ he=>?_)
  obtain⟨oe,hoe,hce⟩:=he
  have hz₂:IsZip h₂ z TI TO .ellipsis:=hs₂ _ _ D.i1z.symm hz₁
  have hez:e≠z:=fun x=>by subst x;rw[hz₂]at hoe;cases hoe;simp at hce
  exact wpAny_setField_rec hz₂ (by simp) fun h₃ _ hs₃=>done h₃ _ e (fun c o c1 _ c3 _ x=>hs₃.extBut _ _ c1 (hs₂ _ _ c3 (hs₁.extBut _ _ c1 x))) ⟨oe,hs₃.extBut _ _ hez hoe,hce⟩
end
def Src.iter(tk:Tok):Src→Obj
 | .l a=>{ cls:=.type "list_iterator",data:=.fields #[.ref a,.int 0 0] }
 | .t a=>{ cls:=.type "tuple_iterator",data:=.fields #[.ref a,.int 0 0] }
 | .s z=>{ cls:=.type (strIterType z),data:=.fields #[.str z tk,.int 0 0] }
def Src.value(tk:Tok):Src→Value
 | .l a=>.ref a
 | .t a=>.ref a
 | .s z=>.str z tk
theorem Src.iter_at{h:Heap}{i:Addr}{tk:Tok}:∀ {S:Src},h.get? i=some (S.iter tk)→S.at h i 0
 | .l _,e=>⟨_,e,rfl,rfl⟩
 | .t _,e=>⟨_,e,rfl,rfl⟩
 | .s _,e=>⟨tk,_,e,rfl,rfl⟩
theorem Src.pyIter{prog:Program}{w:World}{A:Around}{E:Value→Shared→Prop}{s:Shared}{tk:Tok}{us:List Value}{Q:Value→Shared→Prop}:∀ {S:Src},S.raw s.heap us →
  Q (.ref s.heap.objs.size) { s with heap:=s.heap.push (S.iter tk) }→wpAny (model prog w) A (pyIter (S.value tk)) Q E s
 | .l _,r,q=>wpAny_pyIter_list r q
 | .t _,r,q=>wpAny_pyIter_tuple r q
 | .s _,_,q=>wpAny_pyIter_strU q
theorem Src.raw_push{h:Heap}{ob:Obj}:∀ {S:Src} {us:List Value},S.raw h us→S.raw (h.push ob) us
 | .l _,_,⟨o,e,d⟩=>⟨o,Qc _ e,d⟩
 | .t _,_,⟨o,e,d⟩=>⟨o,Qc _ e,d⟩
 | .s _,_,_=>trivial
abbrev zH1(h:Heap)(S1:Src)(t1:Tok):Heap:=h.push (S1.iter t1)
abbrev zH2(h:Heap)(S1 S2:Src)(t1 t2:Tok):Heap:=(zH1 h S1 t1).push (S2.iter t2)
abbrev zH3(h:Heap)(S1 S2:Src)(t1 t2:Tok):Heap:=(zH2 h S1 S2 t1 t2).push { cls:=.type "tuple",data:=.seq #[.ref h.objs.size,.ref (zH1 h S1 t1).objs.size] }
abbrev zH4(h:Heap)(S1 S2:Src)(t1 t2:Tok):Heap:=(zH3 h S1 S2 t1 t2).push { cls:=.type "tuple",data:=.seq #[.none,.none] }
abbrev zH5(h:Heap)(S1 S2:Src)(t1 t2:Tok):Heap:=(zH4 h S1 S2 t1 t2).push { cls:=.type "zip",data:=.fields #[.none,.bool false,.bool false,.ref (zH2 h S1 S2 t1 t2).objs.size,.ref (zH3 h S1 S2 t1 t2).objs.size] }
theorem ZoF(S1 S2:Src)(t1 t2:Tok)(us1 us2:List Value) :
  Meets (Builtin.«zip.__new__» ⟨[.type "zip",S1.value t1,S2.value t2],[]⟩) (fun _ R s=>S1.raw s.heap us1∧S2.raw s.heap us2 ∧
   R (.ok (.ret (.ref (zH4 s.heap S1 S2 t1 t2).objs.size))) { s with heap:=zH5 s.heap S1 S2 t1 t2 }) :=
 .of_wp fun prog w A R s h=>by
  obtain⟨hp,g,d,tk,os⟩:=s;obtain⟨r1,r2,h⟩:=h
  have hsub:=sub_zip
  have q1:∀ {A:Around} {E:Value→Shared→Prop} {Q:Value→Shared→Prop},Q (.ref hp.objs.size) ⟨zH1 hp S1 t1,g,d,tk,os⟩→wpAny (model prog w) A (pyIter (S1.value t1)) Q E ⟨hp,g,d,tk,os⟩:=
   fun {A E Q} q=>Src.pyIter (s:=⟨hp,g,d,tk,os⟩) (us:=us1) r1 q
  have q2:∀ {A:Around} {E:Value→Shared→Prop} {Q:Value→Shared→Prop},Q (.ref (zH1 hp S1 t1).objs.size) ⟨zH2 hp S1 S2 t1 t2,g,d,tk,os⟩→wpAny (model prog w) A (pyIter (S2.value t2)) Q E ⟨zH1 hp S1 t1,g,d,tk,os⟩:=
   fun {A E Q} q=>Src.pyIter (s:=⟨zH1 hp S1 t1,g,d,tk,os⟩) (us:=us2) (S2.raw_push r2) q
  generalize S1.value t1=v1 at q1 ⊢
  generalize S2.value t2=v2 at q2 ⊢
  wp_walk using q1,q2
  exact⟨_,rfl,h⟩
section
variable {prog:Program} {w:World} {A:Around} {E:Value→Shared→Prop} {s:Shared}
theorem ZnA{S1 S2:Src}{t1 t2:Tok}{us1 us2:List Value}{Q:Value→Shared→Prop}(r1:S1.raw s.heap us1)(r2:S2.raw s.heap us2)
  (h:∀h',IsZip h' (s.heap.objs.size+4) (s.heap.objs.size+2) (s.heap.objs.size+3) .none→IsPair h' (s.heap.objs.size+2) (.ref s.heap.objs.size) (.ref (s.heap.objs.size+1)) →
   IsPair h' (s.heap.objs.size+3) .none .none→S1.at h' s.heap.objs.size 0→S2.at h' (s.heap.objs.size+1) 0→h'.objs.size=s.heap.objs.size+5 →
   (∀c o,s.heap.get? c=some o→h'.get? c=some o)→Q (.ref (s.heap.objs.size+4)) { s with heap:=h' }) :
  wpAny (model prog w) A (call (.type "zip") [S1.value t1,S2.value t2]) Q E s:=by
 refine callType_new F.called_zip (by decide) (F.typeCall_zip_2 _ _) (F.newCall_zip_2 _ _) (fun obj=>F.args_object_init_3 obj _ _) F.entry_zip_new (ZoF S1 S2 t1 t2 us1 us2) ⟨r1,r2,?_⟩
 have z1:(zH1 s.heap S1 t1).objs.size=s.heap.objs.size+1:=Q7 ..
 have z2:(zH2 s.heap S1 S2 t1 t2).objs.size=s.heap.objs.size+2:=by rw[Q7,z1]
 have z3:(zH3 s.heap S1 S2 t1 t2).objs.size=s.heap.objs.size+3:=by rw[Q7,z2]
 have z4:(zH4 s.heap S1 S2 t1 t2).objs.size=s.heap.objs.size+4:=by rw[Q7,z3]
 have z5:(zH5 s.heap S1 S2 t1 t2).objs.size=s.heap.objs.size+5:=by rw[Q7,z4]
 have fr:∀ (tk:Tok) (S:Src),(S.iter tk).isFreed=false:=fun tk S=>by cases S<;>rfl
 have g5:(zH5 s.heap S1 S2 t1 t2).get? (zH4 s.heap S1 S2 t1 t2).objs.size=some _:=Qq _ rfl
 have g4:(zH5 s.heap S1 S2 t1 t2).get? (zH3 s.heap S1 S2 t1 t2).objs.size=some _:=Qc _ (Qq _ rfl)
 have g3:(zH5 s.heap S1 S2 t1 t2).get? (zH2 s.heap S1 S2 t1 t2).objs.size=some _:=Qc _ (Qc _ (Qq _ rfl))
 have g2:(zH5 s.heap S1 S2 t1 t2).get? (zH1 s.heap S1 t1).objs.size=some (S2.iter t2):=Qc _ (Qc _ (Qc _ (Qq _ (fr _ _))))
 have g1:(zH5 s.heap S1 S2 t1 t2).get? s.heap.objs.size=some (S1.iter t1):=Qc _ (Qc _ (Qc _ (Qc _ (Qq _ (fr _ _)))))
 show _∧_
 rw[z2,z3,z4]at g5
 rw[z1,z2]at g3
 rw[z3]at g4
 rw[z1]at g2
 rw[z4]
 exact⟨⟨_,g5,rfl⟩,h _ g5 g3 g4 (Src.iter_at g1) (Src.iter_at g2) z5 fun c o x =>
  Qc _ (Qc _ (Qc _ (Qc _ (Qc _ x))))⟩
end
def Itz(K:PySem.W.Frag)(S1 S2:Src):It :=
 ⟨fun i H=>∃xs ys,S1.its K H xs∧S2.its K H ys∧i<xs.length∧i<ys.length,
  fun i H v H'=>∃p,H p=none∧v=.ref p∧∀xs ys,S1.its K H xs→S2.its K H ys→∀x y,xs[i]? = some x→ys[i]? = some y→H'=upd H p (.tup [x,y]),
  fun i H=>∃xs ys,S1.its K H xs∧S2.its K H ys∧(xs.length≤i∨ys.length≤i)⟩
section
variable {X:Cx} {pins:List (Addr×Obj)} {σ:St} {H:Hp} {s:Shared}
theorem Inv.src(I:Inv X pins σ H s):∀ {S:Src} {xs:List V},S.its X.K H xs→∃us,S.raw s.heap us∧S.many us=xs.length∧∀k u x,S.fit us k u→xs[k]? = some x→ZI x u
 | .l a,xs,h=>by
  obtain⟨its,rv,pl,_⟩:=I.list h
  refine⟨its,pl.isList,rv.length.symm,fun k u x e1 e2=>?_⟩
  obtain⟨u',e3,r⟩:=rv.get e2
  rw[show its[k]? = some u from e1]at e3;cases e3
  exact r
 | .t a,xs,h=>by
  obtain⟨its,rv,pl,_⟩:=I.tuple h
  refine⟨its,pl,rv.length.symm,fun k u x e1 e2=>?_⟩
  obtain⟨u',e3,r⟩:=rv.get e2
  rw[show its[k]? = some u from e1]at e3;cases e3
  exact r
 | .s z,xs,h=>by
  refine⟨[],trivial,?_,fun k u x e1 e2=>?_⟩
  ·rw[show xs=_ from h,Qa];simp[Src.many]
  ·obtain⟨c,tk,e3,e4⟩:=e1
   subst e4
   rw[show xs=_ from h,Qn]at e2
   have e5:z.cps.toList[k]? = some c:=by simpa using e3
   rw[e5]at e2
   cases e2
   exact⟨tk,rfl⟩
theorem Inv.src_off(I:Inv X pins σ H s){b:Addr}(hb:Zf8 X pins H b):∀ {S:Src} {xs:List V},S.its X.K H xs→S.off b
 | .l a,xs,h=>by
  rcases h with(h|⟨ob,h⟩)|⟨o,its,n,hk,_⟩
  ·exact Zd h hb.1
  ·exact Zd h hb.1
  ·rintro rfl
   have e:=I.ok.mod.kin a o hk
   rcases hb.2.2.2.1 with z|z
   ·exact I.ok.noex a o e z
   ·exact absurd (QB (Qr e) (Qy I.ok.bsz z)) (Q4 _)
 | .t a,xs,h=>by
  rcases h with(h|⟨ob,h⟩)|⟨o,its,n,hk,_⟩
  ·exact Zd h hb.1
  ·exact Zd h hb.1
  ·rintro rfl
   have e:=I.ok.mod.kin a o hk
   rcases hb.2.2.2.1 with z|z
   ·exact I.ok.noex a o e z
   ·exact absurd (QB (Qr e) (Qy I.ok.bsz z)) (Q4 _)
 | .s z,xs,h=>trivial
theorem Inv.zipped{fp:List Addr}{h':Heap}{tk:Nat}{x y:V}{u v:Value}(I:Inv X pins σ H s)(hf:∀b∈fp,Zf8 X pins H b)(rx:ZI x u)(ry:ZI y v)
  (hp:IsPair h' s.heap.objs.size u v) (hfh:∀b∈fp,∃o,h'.get? b=some o) (hk:∀c o,c ∉ fp→s.heap.get? c=some o→h'.get? c=some o) :
  Inv X pins σ (upd H s.heap.objs.size (.tup [x,y])) { s with heap:=h',toks:=tk }:=by
 have hn:H s.heap.objs.size=none:=I.fresh
 have ne:∀b ob,s.heap.get? b=some ob→b≠s.heap.objs.size:=fun b ob e=>QC (Qr e)
 have nt:∀b u,H b=some u→b≠s.heap.objs.size:=fun b u e=>Zd e hn
 have nfp:∀b u,H b=some u→b ∉ fp:=fun b u e hb=>by rw[(hf b hb).1]at e;cases e
 refine I.step (g':=s.gens) (d':=s.drawn) (ch:=fp) (fun b hb=>⟨(hf b hb).2.2.2.1,(hf b hb).2.1,(hf b hb).2.2.2.2.1,(hf b hb).2.2.2.2.2⟩)
  (fun b ob _ _ hc e _=>hk b ob hc e) (fun b ob _ _ hc e _=>⟨ob.slots,hk b ob hc e⟩) (fun b ob _ e n=>by rw[Zc (ne b ob e)];exact n) (fun b ob hc e=>⟨ob,hk b ob hc e⟩)
  (fun b xs e=>by rw[Zc (nt b _ e)];exact e) (fun b ob u e=>by rw[Zc (nt b _ e)];exact e) (fun b ps e=>⟨#[],by rw[Zc (nt b _ e),e];simp⟩) (fun m hm=>?_) (fun b ub e=>?_) I.bare
 ·obtain⟨ob,es,ep,ho,r⟩:=hm
  exact⟨ob,es,ep,hk _ ob (fun z=>(hf _ z).2.1 rfl) ho,r⟩
 ·by_cases hb:b=s.heap.objs.size
  ·subst hb
   rw[Zb]at e;cases e
   exact⟨by show 2≤sizeLine;decide,[u,v],.cons rx (.cons ry .nil),⟨_,hp,rfl,_,rfl⟩⟩
  ·rw[Zc hb]at e
   refine(I.hok b ub e).stay (fun c w' hc q=>hk c w' ?_ q) (fun c q=>by rw[Zc (nt c _ q)];exact q) fun c xs q=>by rw[Zc (nt c _ q)];exact q
   rcases hc with z|z
   ·rw[z];exact nfp b ub e
   ·exact nfp c _ z
end
theorem ZmB{P:Program}{w:World}{K:PySem.W.Frag}{elts:List Expr}{x1:Nat}{tpos:Pos}{S1 S2:Src}{z TI TO i1 i2:Addr}
  (d1:TI≠z) (d2:TO≠z) (d3:i1≠z) (d4:i2≠z) (d5:TI≠TO) (d6:TI≠i1) (d7:TI≠i2) (d8:TO≠i1) (d9:TO≠i2) (d10:i1≠i2) :
  Zjo P w K (.Tuple elts x1 tpos) (Itz K S1 S2) [z,TI,TO,i1,i2] z
   (fun i h=>IsZip h z TI TO .none∧IsPair h TI (.ref i1) (.ref i2)∧(∃a b,IsPair h TO a b)∧S1.at h i1 i∧S2.at h i2 i) where
 mem:=by simp
 obj:=fun i h st b hb=>by
  obtain⟨hz,hTI,⟨a,b',hTO⟩,h1,h2⟩:=st
  have nf:∀ {o:Obj} {vs:Array Value},o.data=.fields vs→∀v,o.data≠.cell v:=fun d v e=>by rw[d]at e;cases e
  simp only[List.mem_cons,List.not_mem_nil,or_false]at hb
  rcases hb with rfl|rfl|rfl|rfl|rfl
  ·exact⟨_,hz,nf rfl⟩
  ·exact⟨_,hTI,fun v e=>by cases e⟩
  ·exact⟨_,hTO,fun v e=>by cases e⟩
  ·obtain⟨o,vs,e,d⟩:=Src.at_obj h1;exact⟨o,e,nf d⟩
  ·obtain⟨o,vs,e,d⟩:=Src.at_obj h2;exact⟨o,e,nf d⟩
 keep:=fun i h h' st k=>by
  obtain⟨hz,hTI,⟨a,b',hTO⟩,h1,h2⟩:=st
  exact⟨k z (by simp) _ hz,k TI (by simp) _ hTI,⟨a,b',k TO (by simp) _ hTO⟩,Src.at_keep (fun o e=>k i1 (by simp) o e) h1,Src.at_keep (fun o e=>k i2 (by simp) o e) h2⟩
 item:=by
  intro X hP hw hK hc i pins s σ H E I hf st hg
  subst hP hw hK
  obtain⟨hz,hTI,⟨a,b',hTO⟩,h1,h2⟩:=st
  obtain⟨xs,ys,q1,q2,l1,l2⟩:=hg
  obtain⟨us1,r1,m1,f1⟩:=I.src q1
  obtain⟨us2,r2,m2,f2⟩:=I.src q2
  have hfz:=hf z (by simp)
  have D:ZiP z TI TO i1 i2 S1 S2:=⟨d1,d2,d3,d4,d5,d6,d7,d8,d9,d10,I.src_off hfz q1,I.src_off (hf TO (by simp)) q1,I.src_off (hf i1 (by simp)) q1,I.src_off (hf i2 (by simp)) q1,
   I.src_off hfz q2,I.src_off (hf TO (by simp)) q2,I.src_off (hf i1 (by simp)) q2,I.src_off (hf i2 (by simp)) q2⟩
  refine Zoa D hz hTI hTO h1 h2 r1 r2 (by omega) (by omega) fun h' tk x y fx fy a1 a2 a3 a4 a5 a6 a7=>?_
  have rx:=f1 i x _ fx (Qb l1)
  have ry:=f2 i y _ fy (Qb l2)
  refine⟨_,rfl,wpAny_letOwnedTupleGo_zip a1 fun h'' hz'' hs''=>?_⟩
  have hs':Heap.SameBut z h' h'':=hs''
  have hTI':IsPair h' TI (.ref i1) (.ref i2):=a7 _ _ d1 d5 d6 d7 hTI
  have lt:∀ {b:Addr} {o:Obj},s.heap.get? b=some o→s.heap.objs.size≠b:=fun e=>Q6 (Qr e)
  have hzs:s.heap.objs.size≠z:=lt hz
  have I2:Inv X pins σ (upd H s.heap.objs.size (.tup [xs[i],ys[i]])) { s with heap:=h'',toks:=tk }:=by
   refine I.zipped (fp:=[z,TI,TO,i1,i2]) hf rx ry (hs'.extBut _ _ hzs a5) (fun b hb=>?_) fun c o hc e=>?_
   ·simp only[List.mem_cons,List.not_mem_nil,or_false]at hb
    rcases hb with rfl|rfl|rfl|rfl|rfl
    ·exact⟨_,hz''⟩
    ·exact⟨_,hs'.extBut _ _ d1 hTI'⟩
    ·exact⟨_,hs'.extBut _ _ d2 a2⟩
    ·obtain⟨o,vs,e,_⟩:=Src.at_obj a3;exact⟨o,hs'.extBut _ _ d3 e⟩
    ·obtain⟨o,vs,e,_⟩:=Src.at_obj a4;exact⟨o,hs'.extBut _ _ d4 e⟩
   ·simp only[List.mem_cons,List.not_mem_nil,or_false,not_or]at hc
    exact hs'.extBut _ _ hc.1 (a7 c o hc.1 hc.2.2.1 hc.2.2.2.1 hc.2.2.2.2 e)
  refine⟨.ref s.heap.objs.size,_,I2,rfl,⟨s.heap.objs.size,I.fresh,rfl,fun xs' ys' w1 w2 x' y' e1 e2=>?_⟩,⟨hz'',hs'.extBut _ _ d1 hTI',⟨_,_,hs'.extBut _ _ d2 a2⟩,Src.at_keep (fun o e=>hs'.extBut _ o d3 e) a3,Src.at_keep (fun o e=>hs'.extBut _ o d4 e) a4⟩,fun b hb=>?_⟩
  ·have same:∀ {S:Src} {us vs:List V},S.its X.K H us→S.its X.K H vs→us=vs:=fun {S us vs} p q=>by
    cases S with
    | l a=>exact I.list_inj p q
    | t a=>exact I.tuple_inj p q
    | s z=>rw[show us=_ from p,show vs=_ from q]
   have e3:=same w1 q1
   have e4:=same w2 q2
   subst e3;subst e4
   rw[Qb l1]at e1
   rw[Qb l2]at e2
   cases e1;cases e2
   rfl
  ·rw[Zc (fun e=>by
    obtain⟨o,e1,_⟩:∃o,s.heap.get? b=some o∧True:=by
     simp only[List.mem_cons,List.not_mem_nil,or_false]at hb
     rcases hb with rfl|rfl|rfl|rfl|rfl
     ·exact⟨_,hz,trivial⟩
     ·exact⟨_,hTI,trivial⟩
     ·exact⟨_,hTO,trivial⟩
     ·obtain⟨o,vs,e,_⟩:=Src.at_obj h1;exact⟨o,e,trivial⟩
     ·obtain⟨o,vs,e,_⟩:=Src.at_obj h2;exact⟨o,e,trivial⟩
    exact lt e1 e.symm)]
   exact(hf b hb).1
 done:=by
  intro X hP hw hK hc i pins s σ H E I hf st hg
  subst hP hw hK
  obtain⟨hz,hTI,⟨a,b',hTO⟩,h1,h2⟩:=st
  obtain⟨xs,ys,q1,q2,l⟩:=hg
  obtain⟨us1,r1,m1,f1⟩:=I.src q1
  obtain⟨us2,r2,m2,f2⟩:=I.src q2
  have hfz:=hf z (by simp)
  have D:ZiP z TI TO i1 i2 S1 S2:=⟨d1,d2,d3,d4,d5,d6,d7,d8,d9,d10,I.src_off hfz q1,I.src_off (hf TO (by simp)) q1,I.src_off (hf i1 (by simp)) q1,I.src_off (hf i2 (by simp)) q1,
   I.src_off hfz q2,I.src_off (hf TO (by simp)) q2,I.src_off (hf i1 (by simp)) q2,I.src_off (hf i2 (by simp)) q2⟩
  refine Znv (I.ok.hd hc) D hz hTI hTO h1 h2 r1 r2 (by omega) fun h' tk hk=>⟨rfl,?_⟩
  have kf:∀c o,c ∉ [z,TI,TO,i1,i2]→s.heap.get? c=some o→h'.get? c=some o:=fun c o hc e=>by
   simp only[List.mem_cons,List.not_mem_nil,or_false,not_or]at hc
   exact hk c o hc.1 hc.2.2.1 hc.2.2.2.1 hc.2.2.2.2 e
  have nfp:∀b u,H b=some u→b ∉ [z,TI,TO,i1,i2]:=fun b u e hb=>by rw[(hf b hb).1]at e;cases e
  refine I.step (g':=s.gens) (d':=s.drawn) (ch:=[z,TI,TO,i1,i2]) (fun b hb=>⟨(hf b hb).2.2.2.1,(hf b hb).2.1,(hf b hb).2.2.2.2.1,(hf b hb).2.2.2.2.2⟩)
   (fun b ob _ _ hc e _=>kf b ob hc e) (fun b ob _ _ hc e _=>⟨ob.slots,kf b ob hc e⟩) (fun b ob _ e n=>n) (fun b ob hc e=>⟨ob,kf b ob hc e⟩)
   (fun b xs e=>e) (fun b ob u e=>e) (fun b ps e=>⟨#[],by rw[e];simp⟩) (fun m hm=>?_) (fun b ub e=>?_) I.bare
  ·obtain⟨ob,es,ep,ho,r⟩:=hm
   exact⟨ob,es,ep,kf _ ob (fun z=>(hf _ z).2.1 rfl) ho,r⟩
  ·refine(I.hok b ub e).stay (fun c w' hc q=>kf c w' ?_ q) (fun c q=>q) fun c xs q=>q
   rcases hc with z'|z'
   ·rw[z'];exact nfp b ub e
   ·exact nfp c _ z'
 self:=fun _ _ _ _ _ st h=>wpAny_pyIter_zip st.1 h
def ZrM(K:PySem.W.Frag)(ta:TA):TI:=fun σ H R=>ta σ H fun vs H1=>∃S1 S2 xs ys,vs=[Src.val S1,Src.val S2]∧S1.its K H1 xs∧S2.its K H1 ys∧R (Itz K S1 S2) H1
theorem ZqQ{X:Cx}{a b:Expr}{ta:TA}{p pos:Pos}{elts:List Expr}{x1:Nat}{tpos:Pos}(hg:Gl X "zip")(hm:X.mg "zip" = none)(ha:PA X [a,b] ta)
  (hs:starEach [a,b] X.env=[(false,eval a X.env),(false,eval b X.env)]:=by rfl) (hs2:starEach [b] X.env=[(false,eval b X.env)]:=by rfl) :
  PI X (.Tuple elts x1 tpos) (.Call (.Name "zip" p) [a,b] [] pos) (ZrM X.K ta):=by
 intro pins s σ H R I h
 refine Call_ (Zd1 I hg hm boot_zip (QW (thn (ha pos pins s σ H _ I h) ?_) (by rw[hs,hs2]) (by rw[hs2];rfl)))
 rintro us s1 ⟨vs,H1,I1,r1,q1⟩
 obtain⟨S1,S2,xs,ys,e,y1,y2,q⟩:=q1
 subst e
 obtain⟨u1,u2,rfl,w1,w2⟩:=r1.two
 have vo:∀ {S:Src} {u:Value},ZI S.val u→∃tk,u=S.value tk:=fun {S u} r=>by
  cases S with
  | l a=>exact⟨0,r⟩
  | t a=>exact⟨0,r⟩
  | s z=>obtain⟨tk,e⟩:=r;exact⟨tk,e⟩
 obtain⟨t1,rfl⟩:=vo w1
 obtain⟨t2,rfl⟩:=vo w2
 obtain⟨us1,r1,m1,f1⟩:=I1.src y1
 obtain⟨us2,r2,m2,f2⟩:=I1.src y2
 refine ZnA r1 r2 fun h' hz hTI hTO a1 a2 a3 hk=>wpAny_pyIter_zip hz ?_
 have I2:Inv X pins σ H1 { s1 with heap:=h' }:=I1.kept (t':=s1.toks) hk
 have n:=s1.heap.objs.size
 refine⟨_,_,_,_,H1,rfl,I2,ZmB (S1:=S1) (S2:=S2) (z:=s1.heap.objs.size+4) (TI:=s1.heap.objs.size+2) (TO:=s1.heap.objs.size+3) (i1:=s1.heap.objs.size) (i2:=s1.heap.objs.size+1)
  (QC (Qae (by decide) _)) (QC (Qae (by decide) _)) (QC (Qap (by decide))) (QC (Qae (by decide) _))
  (QC (Qae (by decide) _)) (Q6 (Qap (by decide))) (Q6 (Qae (by decide) _)) (Q6 (Qap (by decide)))
  (Q6 (Qae (by decide) _)) (QC (Qap (by decide))),⟨hz,hTI,⟨_,_,hTO⟩,a1,a2⟩,fun b hb=>?_,q⟩
 have hb':s1.heap.objs.size≤b:=by
  simp only[List.mem_cons,List.not_mem_nil,or_false]at hb
  rcases hb with rfl|rfl|rfl|rfl|rfl
  ·exact QaE _ 4
  ·exact QaE _ 2
  ·exact QaE _ 3
  ·exact Qg _
  ·exact QaE _ 1
 exact I1.fpOk hb' (I1.hok.fresh hb')
section
variable {X:Cx} (K:PySem.W.Frag)
theorem ixL(h:X.K=K:=by rfl):IxR X (ZpJ K):=by subst h;exact Zph
theorem ixT(h:X.K=K:=by rfl):IxR X (Zqw K):=by subst h;exact Zqy
theorem slL(h:X.K=K:=by rfl):SlR X (ZrU K):=by subst h;exact Zpb
def ZrY:List V→Hp→VK→Prop:=fun xs H Q=>∃p ys,xs=[.ref p]∧(SqL K H p ys∨SqT K H p ys)∧Q (.int ys.length) H
theorem Zb1(h:X.K=K:=by rfl):ZaH X (.builtin "len") (ZrY K):=by subst h;exact ZiA
theorem Zg7(h:X.K=K:=by rfl):ZaH X (.builtin "isinstance") (ZrB K):=by subst h;exact Zna
theorem Zrr(h:X.K=K:=by rfl):ZaH X (.builtin "isinstance") (ZpW K):=by subst h;exact Zlx
def ZrO:List V→Hp→VK→Prop:=fun xs H Q=>∃ (p:Addr) (bs:List Bool),xs=[.ref p]∧SqL K H p (bs.map V.bl)∧Q (.bl (bs.all id)) H
theorem ZsL(hc:X.calm=true:=by rfl)(h:X.K=K:=by rfl):ZaH X (.builtin "all") (ZrO K):=by subst h;exact ZmY hc
def rSrtI:List V→Hp→VK→Prop:=fun xs H Q=>∃ (p:Addr) (ns:List Int),xs=[.ref p]∧SqL K H p (ns.map V.int)∧ns.length<64 ∧
  ∀ (l:Addr) (ns':List Int),H l=none→ns'.Perm ns→ns'.Pairwise (·≤·)→Q (.ref l) (upd H l (.lst (ns'.map V.int)))
def ZrV:List V→Hp→VK→Prop:=fun xs H Q=>∃ (p:Addr) (ss:List Str),xs=[.ref p]∧SqL K H p (ss.map V.str)∧ss.length<64 ∧
  ∀ (l:Addr) (ss':List Str),H l=none→ss'.Perm ss→sortedS ss'=true→Q (.ref l) (upd H l (.lst (ss'.map V.str)))
theorem ZrE(h:X.K=K:=by rfl):ZaH X (.builtin "sorted") (ZrV K):=by subst h;exact Ziv
def Zr8:V→List V→Hp→VK→Prop:=fun x vs H Q=>∃ (sep:Str) (p:Addr) (ys:List Str),x=.str sep∧vs=[.ref p]∧SqL K H p (ys.map V.str)∧(ys.map (·.length)).sum+ys.length*sep.length≤16777216∧Q (.str (Txt.join sep ys)) H
theorem ZrJ(h:X.K=K:=by rfl):MtR X "str.join" (Zr8 K):=by subst h;exact Zo4
theorem iL{tg l:Expr}{tl:TE}(hl:PE X l tl)(h:X.K=K:=by rfl):PI X tg l (Zp5 K tl):=by subst h;exact Zpn hl
theorem gT{es:List Expr}{k:Nat}{t:TGs}{n:Nat}{pos:Pos}(h:PGs X es t)(hK:X.K=K:=by rfl)(hc:X.calm=true:=by rfl)
  (hn:(assignEach es X.env).length=n:=by rfl) (hst:(assignEach es X.env).findIdx? (·.1)=none:=by rfl):PG X (.Tuple es k pos) (Zrw K n t):=by subst hK;exact Zq4 hc h hn hst
theorem iZ{a b:Expr}{ta:TA}{p pos:Pos}{elts:List Expr}{x1:Nat}{tpos:Pos}(hm:X.mg "zip" = none)(ha:PA X [a,b] ta)(hg:Gl X "zip":=by rfl)(hK:X.K=K:=by rfl)
  (hs:starEach [a,b] X.env=[(false,eval a X.env),(false,eval b X.env)]:=by rfl) (hs2:starEach [b] X.env=[(false,eval b X.env)]:=by rfl) :
  PI X (.Tuple elts x1 tpos) (.Call (.Name "zip" p) [a,b] [] pos) (ZrM K ta):=by subst hK;exact ZqQ hg hm ha hs hs2
end
structure Df (P:Program) (w:World) (K:PySem.W.Frag) (mg:Str→Option Value) (base:Heap) (k:Nat) (x:Str) (ps:List Str) (sp:Sp):Prop where
 ex:∃f fd,ZeE P w K mg base CX0 k f fd ps sp∧mg x=some (.ref f)∧PySem.W.keepIn K (.ref f)=true∧Zcy K fd ps []
section
variable {P:Program} {w:World} {K:PySem.W.Frag} {mg:Str→Option Value} {base:Heap}
structure Top (K:PySem.W.Frag) (mg:Str→Option Value) (x:Str) (st:Stmt) (ps:List Str):Prop where
 ex:∃f fd,Fun K x x st f fd∧mg x=some (.ref f)∧Zcy K fd ps []
theorem Top.df{x:Str}{st:Stmt}{N ps:List Str}{k:Nat}{sp:Sp}(T:Top K mg x st ps)(S:Zq N ps (Zg st))(len:∀vs H Q E,sp vs H Q E→vs.length=ps.length)
  (hbody:∀ (cdv:Value) (f:Addr) (A:Around) (outer:List Env) (s:Shared) (H:Hp) (vs:List V) (Q:VK) (E:XK),ZaV k (A.deeper (envOfC x (Zg st) s.heap.objs.size f cdv))→sp vs H Q E →
   ∃t,PSs (ZiH CX0 P w K mg base N x (Zg st) f cdv A outer s H E).nox (Zn st) t∧t { nx:=fun _ H'=>Q .non H',rt:=Q } (Zd2 N vs) H):Df P w K mg base (k+1) x ps sp:=by
 obtain⟨f,fd,F,m,b⟩:=T.ex
 exact⟨f,fd,F.ok S len (fun cdv A outer s H vs Q E hr h=>hbody cdv f A outer s H vs Q E hr h),m,F.kp,b⟩
end
section
variable {X:Cx} {k j:Nat} {x:Str} {ps:List Str} {sp:Sp} {e:Expr} {es:List Expr} {t:TA} {p pos:Pos}
theorem Zv(F:Df X.prog X.w X.K X.mg X.base k x ps sp)(hr:ZaV j X.A)(ha:PA X (e::es) t)(hjk:k≤j:=by decide)(hg:Gl X x:=by rfl)(hdb:(x == ("__debug__" : Str))=false:=by decide)
  (he:starEach (e::es) X.env=(false,eval e X.env)::starEach es X.env:=by rfl) (hpl:(backTo pos (starEach es X.env)).any (·.1)=false:=by rfl) :
  PE X (.Call (.Name x p) (e::es) [] pos) (ZpV sp [] E0 t):=by
 obtain⟨f,fd,F,m,kp,b⟩:=F.ex
 exact Zoy F (hr.mono hjk) hg m kp b .nil Zlc ha hdb he hpl
theorem Zdo{T:String}(hm:X.mg x=none)(hv:bootBuiltins x=some (.type T))(hg:Gl X x:=by rfl)(hn:x ≠ "__name__":=by decide)(hd:(x == ("__debug__" : Str))=false:=by decide):PE X (.Name x pos) (tC (.ty T)) :=
 Zo9 hg hm hv rfl hn hd
end
theorem ZdF{lo:Int}{n k:Nat}{D:Addr}{σ:St}{H1:Hp}{g:TG}{te:TE}{Q:VK}(Pv:Nat→List V→St→Hp→Prop)(h0:Pv 0 [] (σ++List.replicate k none) (upd H1 D (.lst [])))
  (hs:∀i ys σ H,i<n→Pv i ys σ H→g (.int (lo+i)) σ H fun σ4 H4=>te σ4 H4 fun y H6=>H6 D=some (.lst ys)∧ys.length<sizeLine∧Pv (i+1) (ys++[y]) σ4 (upd H6 D (.lst (ys++[y]))))
  (hd:∀ys σ H,Pv n ys σ H→Q (.ref D) H):Zek (Itr lo n) D k σ H1 g Znd te Q:=by
 refine⟨fun i m ys σ H=>m=n-i∧i≤n∧Pv i ys σ H,⟨n,by simp,Qv _,h0⟩,?_⟩
 rintro i m ys σ H ⟨rfl,hi,p⟩
 by_cases hlt:i<n
 ·refine .inr ⟨hlt,Pv (i+1),fun ys' σ' H' p'=>⟨n-(i+1),by omega,rfl,hlt,p'⟩,fun x H' y=>?_⟩
  obtain⟨e,y⟩:=y
  subst e y
  simp only[Znd,↓reduceIte]
  exact hs i ys σ _ hlt p
 ·have e:i=n:=by omega
  subst e
  exact .inl ⟨Qg _,hd ys σ H p⟩
theorem ZjE{K:PySem.W.Frag}{S1 S2:Src}{xs ys:List V}{k:Nat}{D:Addr}{σ:St}{H1:Hp}{g:TG}{te:TE}{Q:VK}(Pv:Nat→List V→St→Hp→Prop)(h0:Pv 0 [] (σ++List.replicate k none) (upd H1 D (.lst [])))
  (hl:∀i zs σ H,Pv i zs σ H→S1.its K H xs∧S2.its K H ys)
  (hs:∀i zs σ H x y p,xs[i]? = some x→ys[i]? = some y→Pv i zs σ H→H p=none→g (.ref p) σ (upd H p (.tup [x,y])) fun σ4 H4=>te σ4 H4 fun z H6=>H6 D=some (.lst zs)∧zs.length<sizeLine∧Pv (i+1) (zs++[z]) σ4 (upd H6 D (.lst (zs++[z]))))
  (hd:∀zs σ H,Pv (min xs.length ys.length) zs σ H→Q (.ref D) H):Zek (Itz K S1 S2) D k σ H1 g Znd te Q:=by
 refine⟨fun i m zs σ H=>m=min xs.length ys.length-i∧i≤min xs.length ys.length∧Pv i zs σ H,⟨min xs.length ys.length,by simp,Qv _,h0⟩,?_⟩
 rintro i m zs σ H ⟨rfl,hi,p⟩
 obtain⟨q1,q2⟩:=hl i zs σ H p
 by_cases hlt:i<min xs.length ys.length
 ·have l1:i<xs.length:=by omega
  have l2:i<ys.length:=by omega
  refine .inr ⟨⟨xs,ys,q1,q2,l1,l2⟩,Pv (i+1),fun ys' σ' H' p'=>⟨min xs.length ys.length-(i+1),by omega,rfl,hlt,p'⟩,fun x H' y=>?_⟩
  obtain⟨r,hr,rfl,e⟩:=y
  have e':=e xs ys q1 q2 _ _ (Qb l1) (Qb l2)
  subst e'
  simp only[Znd,↓reduceIte]
  exact hs i zs σ H _ _ r (Qb l1) (Qb l2) p hr
 ·have e:i=min xs.length ys.length:=by omega
  refine .inl ⟨⟨xs,ys,q1,q2,by omega⟩,hd zs σ H (e ▸ p)⟩
section
variable {X:Cx} {N N':List Str} {o c:Scope} {x:Str} {pos:Pos} {C:Addr} {s:Shared} {H:Hp} {fp:List Addr}
theorem ZeW(S:Zaq N N' o c)(ho:X.env.scope=o)(hl:c.names.lookup x=some .local):(ZaX X c N' C s H fp).env.scope.names.lookup x=some .local:=by
 have e:=Zc5 (X:=X) S ho (ZaZ X.env.cells c.names []) C x
 rw[hl]at e
 exact e
theorem ZbJ(S:Zaq N N' o c)(ho:X.env.scope=o)(hl:c.names.lookup x=some .globalImplicit):Gl (ZaX X c N' C s H fp) x:=by
 have e:=Zc5 (X:=X) S ho (ZaZ X.env.cells c.names []) C x
 rw[hl]at e
 exact e
theorem Znf(S:Zaq N N' o c)(ho:X.env.scope=o)(hl:c.names.lookup x=some .free):Vis (ZaX X c N' C s H fp).env.scope x:=by
 have e:=Zc5 (X:=X) S ho (ZaZ X.env.cells c.names []) C x
 rw[hl]at e
 have e':(ZaX X c N' C s H fp).env.scope.names.lookup x=if X.env.kindOf x=some .cell then some NameKind.cell else some NameKind.free:=e
 by_cases z:X.env.kindOf x=some .cell
 ·rw[if_pos z]at e';exact .inr (.inl e')
 ·rw[if_neg z]at e';exact .inr (.inr e')
theorem cv(i:Nat)(S:Zaq N N' o c)(ho:X.env.scope=o)(hl:c.names.lookup x=some .free)(hN:N'[i]? = some x:=by rfl)(hd:(x == ("__debug__" : Str))=false:=by decide)(hcd:(x == ("__classdict__" : Str))=false:=by decide) :
  PE (ZaX X c N' C s H fp) (.Name x pos) (Zl8 i):=Zkg hN (Znf S ho hl) hd hcd
theorem cw(i:Nat)(S:Zaq N N' o c)(ho:X.env.scope=o)(hl:c.names.lookup x=some .local)(hN:N'[i]? = some x:=by rfl)(hd:(x == ("__debug__" : Str))=false:=by decide)(hcd:(x == ("__classdict__" : Str))=false:=by decide) :
  PE (ZaX X c N' C s H fp) (.Name x pos) (Zl8 i):=Zkg hN (.inl (ZeW S ho hl)) hd hcd
theorem cg(i:Nat)(S:Zaq N N' o c)(ho:X.env.scope=o)(hl:c.names.lookup x=some .local)(hi:N'[i]? = some x:=by rfl):PG (ZaX X c N' C s H fp) (.Name x pos) (Zlr i) :=
 ZD S.nd hi (.inl (ZeW S ho hl)) (.inr (ZeW S ho hl))
end
mutual
inductive DV (K:PySem.W.Frag) (H:Hp):V→PyData→Prop where
 | non:DV K H .non .none
 | bl (b:Bool):DV K H (.bl b) (.bool b)
 | int (i:Int):DV K H (.int i) (.int i)
 | str (s:Str):DV K H (.str s) (.str s)
 | lst {a:Addr} {xs:List V} {ds:List PyData}:SqL K H a xs→DVs K H xs ds→DV K H (.ref a) (.list ds)
 | tup {a:Addr} {xs:List V} {ds:List PyData}:SqT K H a xs→DVs K H xs ds→DV K H (.ref a) (.tuple ds)
inductive DVs (K:PySem.W.Frag) (H:Hp):List V→List PyData→Prop where
 | nil:DVs K H [] []
 | cons {x:V} {d:PyData} {xs:List V} {ds:List PyData}:DV K H x d→DVs K H xs ds→DVs K H (x::xs) (d::ds)
end
section
variable {X:Cx} {pins:List (Addr×Obj)} {σ:St} {H:Hp} {s:Shared}
mutual
theorem Inv.reads(I:Inv X pins σ H s):∀ {x:V} {d:PyData} {u:Value},DV X.K H x d→ZI x u→∃as,Reads s.heap u d as
 | _,_,_,.non,r=>by cases r;exact⟨_,.none⟩
 | _,_,_,.bl b,r=>by cases r;exact⟨_,.bool b⟩
 | _,_,_,.int i,r=>by obtain⟨t,rfl⟩:=r;exact⟨_,.int i t⟩
 | _,_,_,.str z,r=>by obtain⟨t,rfl⟩:=r;exact⟨_,.str z t⟩
 | _,_,_,.lst h hs,r=>by
  cases r
  obtain⟨its,rv,⟨o,n,e,hc,_,hd⟩,_⟩:=I.list h
  obtain⟨as,q⟩:=Inv.readsAll I hs rv
  exact⟨_,reads_list_at e hc hd (by simpa using q)⟩
 | _,_,_,.tup h hs,r=>by
  cases r
  obtain⟨its,rv,⟨o,e,hc,n,hd⟩,_⟩:=I.tuple h
  obtain⟨as,q⟩:=Inv.readsAll I hs rv
  exact⟨_,reads_tuple_at e hc hd (by simpa using q)⟩
theorem Inv.readsAll(I:Inv X pins σ H s):∀ {xs:List V} {ds:List PyData} {us:List Value},DVs X.K H xs ds→ZG xs us→∃as,ReadsAll s.heap us ds as
 | _,_,_,.nil,r=>by cases r;exact⟨_,.nil⟩
 | _,_,_,.cons h hs,r=>by
  cases r with
  | cons r1 r2 =>
   obtain⟨as,q1⟩:=Inv.reads I h r1
   obtain⟨bs,q2⟩:=Inv.readsAll I hs r2
   exact⟨_,.cons q1 q2⟩
end
def ZoG(K:PySem.W.Frag)(neg:Bool):R2:=fun x y H Q=>∃d e,DV K H x d∧DV K H y e∧SeqAt.shaped d=true∧SeqAt.shaped e=true∧Q (.bl (if neg then !PyData.eqv d e else PyData.eqv d e)) H
theorem Zqt(hu:X.A.units+64<cLine):OpR X (compareOp .Eq) (ZoG X.K false):=by
 intro pins s σ H x y v u Q I rx ry h
 obtain⟨d,e,h1,h2,s1,s2,q⟩:=h
 obtain⟨as,r1⟩:=I.reads h1 rx
 obtain⟨bs,r2⟩:=I.reads h2 ry
 exact eq_dataH r1 r2 s1 s2 hu ⟨.bl _,H,I,rfl,q⟩
theorem Zrf(hu:X.A.units+64<cLine):OpR X (compareOp .NotEq) (ZoG X.K true):=by
 intro pins s σ H x y v u Q I rx ry h
 obtain⟨d,e,h1,h2,s1,s2,q⟩:=h
 obtain⟨as,r1⟩:=I.reads h1 rx
 obtain⟨bs,r2⟩:=I.reads h2 ry
 exact ne_dataH r1 r2 s1 s2 hu ⟨.bl _,H,I,rfl,q⟩
end
theorem eqD{X:Cx}(K:PySem.W.Frag){k:Nat}(hr:ZaV k X.A)(h:X.K=K:=by rfl):OpR X (compareOp .Eq) (ZoG K false):=by subst h;exact Zqt hr.units
theorem neD{X:Cx}(K:PySem.W.Frag){k:Nat}(hr:ZaV k X.A)(h:X.K=K:=by rfl):OpR X (compareOp .NotEq) (ZoG K true):=by subst h;exact Zrf hr.units
mutual
theorem DV.mono{K:PySem.W.Frag}{H H':Hp}(s:ZH H H'):∀ {x:V} {d:PyData},DV K H x d→DV K H' x d
 | _,_,.non=>.non
 | _,_,.bl b=>.bl b
 | _,_,.int i=>.int i
 | _,_,.str z=>.str z
 | _,_,.lst h hs=>.lst (s.seq h) (DVs.mono s hs)
 | _,_,.tup h hs=>.tup (by
   rcases h with(h|⟨ob,h⟩)|h
   ·exact .inl (.inl (s _ _ h))
   ·exact .inl (.inr ⟨ob,s _ _ h⟩)
   ·exact .inr h) (DVs.mono s hs)
theorem DVs.mono{K:PySem.W.Frag}{H H':Hp}(s:ZH H H'):∀ {xs:List V} {ds:List PyData},DVs K H xs ds→DVs K H' xs ds
 | _,_,.nil=>.nil
 | _,_,.cons h hs=>.cons (DV.mono s h) (DVs.mono s hs)
end
def Ite(K:PySem.W.Frag)(a:Addr):It :=
 ⟨fun i H=>∃xs,SqL K H a xs∧i<xs.length,
  fun i H v H'=>∃p,H p=none∧v=.ref p∧∀xs,SqL K H a xs→∀x,xs[i]? = some x→H'=upd H p (.tup [.int i,x]),
  fun i H=>∃xs,SqL K H a xs∧xs.length≤i⟩
theorem Zlz{P:Program}{w:World}{K:PySem.W.Frag}{elts:List Expr}{x1:Nat}{tpos:Pos}{a e it:Addr}(hne:e≠it) :
  Zjo P w K (.Tuple elts x1 tpos) (Ite K a) [e,it] e (fun i h=>(∃old,IsEnum h e it i old)∧h.IsListIter it a i) where
 mem:=by simp
 obj:=fun i h st b hb=>by
  obtain⟨⟨old,he⟩,o,hit,hc,hd⟩:=st
  simp only[List.mem_cons,List.not_mem_nil,or_false]at hb
  rcases hb with rfl|rfl
  ·exact⟨_,he,fun v z=>by cases z⟩
  ·exact⟨o,hit,fun v z=>by rw[hd]at z;cases z⟩
 keep:=fun i h h' st k=>by
  obtain⟨⟨old,he⟩,hit⟩:=st
  exact⟨⟨old,k e (by simp) _ he⟩,hit.at fun o q=>k it (by simp) o q⟩
 item:=by
  intro X hP hw hK hc i pins s σ H E I hf st hg
  subst hP hw hK
  obtain⟨⟨old,he⟩,hit⟩:=st
  obtain⟨xs,q1,l1⟩:=hg
  obtain⟨its,rv,pl,_⟩:=I.list q1
  obtain⟨u,hu,ru⟩:=rv.get (Qb l1)
  refine wpAny_pyNext_enum_item he hit pl.isList (x:=u) (by simpa using hu) hne fun h' a1 a2 a3 a4 a5=>?_
  have lt:∀ {b:Addr} {o:Obj},s.heap.get? b=some o→s.heap.objs.size≠b:=fun q=>Q6 (Qr q)
  have hes:s.heap.objs.size≠e:=lt he
  refine⟨_,rfl,wpAny_letOwnedTupleGo_enum a1 fun h'' he'' hs''=>?_⟩
  have hs':Heap.SameBut e h' h'':=hs''
  have hit'':h''.IsListIter it a (i+1):=a2.extBut hs'.extBut hne.symm
  have I2:Inv X pins σ (upd H s.heap.objs.size (.tup [.int i,xs[i]])) { s with heap:=h'',toks:=s.toks+1 }:=by
   refine I.zipped (fp:=[e,it]) (u:=.int i s.toks) (v:=u) hf ⟨_,rfl⟩ ru (hs'.extBut _ _ hes a3) (fun b hb=>?_) fun c o hc q=>?_
   ·simp only[List.mem_cons,List.not_mem_nil,or_false]at hb
    rcases hb with rfl|rfl
    ·exact⟨_,he''⟩
    ·obtain⟨o,q,_⟩:=hit'';exact⟨o,q⟩
   ·simp only[List.mem_cons,List.not_mem_nil,or_false,not_or]at hc
    exact hs'.extBut _ _ hc.1 (a5 c o hc.1 hc.2 q)
  refine⟨.ref s.heap.objs.size,_,I2,rfl,⟨s.heap.objs.size,I.fresh,rfl,fun xs' w1 x' e1=>?_⟩,⟨⟨_,he''⟩,hit''⟩,fun b hb=>?_⟩
  ·have e3:=I.list_inj w1 q1
   subst e3
   rw[Qb l1]at e1
   cases e1
   rfl
  ·rw[Zc (fun z=>by
    obtain⟨o,q⟩:∃o,s.heap.get? b=some o:=by
     simp only[List.mem_cons,List.not_mem_nil,or_false]at hb
     rcases hb with rfl|rfl
     ·exact⟨_,he⟩
     ·obtain⟨o,q,_⟩:=hit;exact⟨o,q⟩
    exact lt q z.symm)]
   exact(hf b hb).1
 done:=by
  intro X hP hw hK hc i pins s σ H E I hf st hg
  subst hP hw hK
  obtain⟨⟨old,he⟩,hit⟩:=st
  obtain⟨xs,q1,l1⟩:=hg
  obtain⟨its,rv,pl,_⟩:=I.list q1
  obtain⟨f0,f1,f2,f3,f4,f5⟩:=hf it (by simp)
  have hl:=rv.length
  exact wpAny_pyNext_enum_end (I.ok.hd hc) he hit pl.isList (by rw[Qai];exact QN (by omega)) fun h' eb=>⟨rfl,I.turned (t':=s.toks) (fun b o hb q=>eb b o hb q) f0 f1 f3 f4 f5⟩
 self:=fun _ _ _ _ _ st h=>by obtain⟨⟨old,he⟩,_⟩:=st;exact wpAny_pyIter_enum he h
def ZpX(K:PySem.W.Frag)(ta:TA):TI:=fun σ H R=>ta σ H fun vs H1=>∃a xs,vs=[V.ref a]∧SqL K H1 a xs∧R (Ite K a) H1
theorem Zou{X:Cx}{l:Expr}{ta:TA}{p pos:Pos}{elts:List Expr}{x1:Nat}{tpos:Pos}(hg:Gl X "enumerate")(hm:X.mg "enumerate" = none)(ha:PA X [l] ta)
  (hs:starEach [l] X.env=[(false,eval l X.env)]:=by rfl):PI X (.Tuple elts x1 tpos) (.Call (.Name "enumerate" p) [l] [] pos) (ZpX X.K ta):=by
 intro pins s σ H R I h
 refine Call_ (Zd1 I hg hm boot_enumerate (QW (thn (ha pos pins s σ H _ I h) ?_) hs rfl))
 rintro us s1 ⟨vs,H1,I1,r1,q1⟩
 obtain⟨a,xs,e,y1,q⟩:=q1
 subst e
 obtain⟨u,rfl,ru⟩:=r1.one
 cases ru
 obtain⟨its,rv,pl,_⟩:=I1.list y1
 refine call_enumerate_list pl.isList fun h' he hit hsz hk=>wpAny_pyIter_enum he ?_
 have I2:Inv X pins σ H1 { s1 with heap:=h' }:=I1.kept (t':=s1.toks) hk
 refine⟨_,_,_,_,H1,rfl,I2,Zlz (a:=a) (e:=s1.heap.objs.size+1) (it:=s1.heap.objs.size) (Q6 (Nat.lt_succ_self _)),⟨⟨_,he⟩,hit⟩,fun b hb=>?_,q⟩
 have hb':s1.heap.objs.size≤b:=by
  simp only[List.mem_cons,List.not_mem_nil,or_false]at hb
  rcases hb with rfl|rfl
  ·exact QaE _ 1
  ·exact Qg _
 exact I1.fpOk hb' (I1.hok.fresh hb')
theorem iE{X:Cx}(K:PySem.W.Frag){l:Expr}{ta:TA}{p pos:Pos}{elts:List Expr}{x1:Nat}{tpos:Pos}(hm:X.mg "enumerate" = none)(ha:PA X [l] ta)(hg:Gl X "enumerate":=by rfl)(hK:X.K=K:=by rfl)
  (hs:starEach [l] X.env=[(false,eval l X.env)]:=by rfl):PI X (.Tuple elts x1 tpos) (.Call (.Name "enumerate" p) [l] [] pos) (ZpX K ta):=by subst hK;exact Zou hg hm ha hs
theorem Zhe{K:PySem.W.Frag}{a:Addr}{xs:List V}{g:TG}{tb:TS}{D:Zf7}{σ:St}{H:Hp}(Pv:Nat→St→Hp→Prop)(h0:Pv 0 σ H)(hl:∀i σ H,Pv i σ H→SqL K H a xs)
  (hs:∀i x σ H p,xs[i]? = some x→Pv i σ H→H p=none→g (.ref p) σ (upd H p (.tup [.int i,x])) fun σ2 H2=>tb { D with nx:=Pv (i+1),ct:=Pv (i+1),bk:=D.nx } σ2 H2) (hd:∀σ H,Pv xs.length σ H→D.nx σ H) :
  ∃W:Nat→Nat→St→Hp→Prop,(∃m,W 0 m σ H)∧∀i m σ H,W i m σ H →
   ((Ite K a).stop i H∧D.nx σ H)∨((Ite K a).go i H∧∃N:St→Hp→Prop,(∀σ' H',N σ' H'→∃m',m'<m∧W (i+1) m' σ' H')∧∀x H',(Ite K a).yld i H x H'→g x σ H' fun σ2 H2=>tb { D with nx:=N,ct:=N,bk:=D.nx } σ2 H2):=by
 refine⟨fun i m σ H=>m=xs.length-i∧i≤xs.length∧Pv i σ H,⟨xs.length,by simp,Qv _,h0⟩,?_⟩
 rintro i m σ H ⟨rfl,hi,p⟩
 have q1:=hl i σ H p
 by_cases hlt:i<xs.length
 ·refine .inr ⟨⟨xs,q1,hlt⟩,Pv (i+1),fun σ' H' p'=>⟨xs.length-(i+1),by omega,rfl,hlt,p'⟩,fun x H' y=>?_⟩
  obtain⟨r,hr,rfl,e⟩:=y
  have e':=e xs q1 _ (Qb hlt)
  subst e'
  exact hs i _ σ H r (Qb hlt) p hr
 ·have e:i=xs.length:=by omega
  exact .inl ⟨⟨xs,q1,by omega⟩,hd σ H (e ▸ p)⟩
def rMinL(K:PySem.W.Frag):List V→Hp→VK→Prop:=fun vs H Q=>∃ (p:Addr) (ns:List Int),vs=[.ref p]∧SqL K H p (ns.map V.int)∧0<ns.length∧∀M,M∈ns→(∀a∈ns,M≤a)→Q (.int M) H
def Zq5(K:PySem.W.Frag):List V→Hp→VK→Prop:=fun xs H Q=>∃p ys,xs=[.ref p]∧(SqL K H p ys∨SqT K H p ys)∧∀l,H l=none→Q (.ref l) (upd H l (.lst ys))
theorem Zia{X:Cx}(K:PySem.W.Frag)(h:X.K=K:=by rfl):ZaH X (.type "list") (Zq5 K):=by subst h;exact ZiC
section
variable {prog:Program} {w:World} {A:Around} {E:Value→Shared→Prop} {s:Shared}
theorem Zid{it t:Addr}{items:Array Value}(hne:t≠it):∀ (n i:Nat) (s:Shared) (Q:List Value→Shared→Prop),s.heap.IsListIter it t i→s.heap.IsList t items→i+n≤items.size →
  (∀h',h'.IsListIter it t (i+n)→Heap.SameBut it s.heap h'→Q ((items.toList.drop i).take n) { s with heap:=h' })→wpAny (model prog w) A (draw (.ref it) n) Q E s
 | 0,i,s,Q,hit,_,_,hQ=>by
  show wpAny _ _ (pure []) Q E s
  exact wpAny_pure (by simpa using hQ s.heap hit (Heap.SameBut.refl ..))
 | n+1,i,s,Q,hit,ht,hle,hQ=>by
  have hlt:i<items.size:=by omega
  show wpAny _ _ (pyNext (.ref it) >>= _) Q E s
  refine wpAny_bind (wpAny_pyNext_list_item hit ht (x:=items[i]) (by simp[hlt]) fun h₁ hit₁ hs₁=>?_)
  refine wpAny_bind (wpAny_holding (Zid hne n (i+1) _ _ hit₁ (ht.extBut hs₁.extBut hne) (by omega) fun h₂ hit₂ hs₂=>wpAny_pure ?_))
  have hd:items.toList.drop i=items[i]::items.toList.drop (i+1):=by simp[List.drop_eq_getElem_cons,hlt]
  have:=hQ h₂ (by rw[show i+(n+1)=i+1+n by omega];exact hit₂) (hs₁.trans hs₂)
  rw[hd,List.take_succ_cons]at this
  exact this
theorem ZfE{t:Addr}{items:Array Value}{Q:List Value→Shared→Prop}(hh:A.handled=none)(ht:s.heap.IsList t items)
  (hQ:∀h',Heap.ExtBut s.heap.objs.size s.heap h'→Q items.toList { s with heap:=h' }):wpAny (model prog w) A (unpackItems (.ref t) items.size none) Q E s:=by
 have hlt:t≠s.heap.objs.size:=by obtain⟨o,ho,_⟩:=ht;exact QC (Qr ho)
 unfold unpackItems
 refine wpAny_bind ?_
 ·unfold notIterableAtAll
  refine wpAny_bind (wpAny_specialOf ht.typeIs slot_list_iter.lookup ?_)
  refine wpAny_pure ?_
  simp only[Bool.false_eq_true,if_false]
  refine wpAny_bind (wpAny_holding (wpAny_pyIter_list ht ?_))
  refine wpAny_bind (wpAny_holding (Zid hlt items.size 0 _ _ ⟨_,Qq _ rfl,rfl,rfl⟩ (ht.push _) (by omega) fun h₁ hit₁ hs₁=>?_))
  have hall:List.take items.size (List.drop 0 items.toList)=items.toList:=by
   rw[List.drop_zero];exact QD (by simp)
  rw[hall]
  rw[if_neg (by simp)]
  have ht₁:h₁.IsList t items:=(ht.push _).extBut hs₁.extBut hlt
  refine wpAny_bind (wpAny_holding (wpAny_pyNext_list_end hh hit₁ ht₁ (by simp) fun h₂ he₂=>?_))
  simp only[Option.isSome_none,Bool.false_eq_true,if_false]
  refine wpAny_pure (hQ h₂ fun b o hb e=>he₂ b o hb (hs₁.extBut b o hb (Qc _ e)))
theorem ZjH{t:Addr}{items:Array Value}{targets:List (Bool×(Value→Sem Unit))}{Q:Unit→Shared→Prop}(hh:A.handled=none)(ht:s.heap.IsList t items)
  (hn:targets.length=items.size) (hstar:targets.findIdx? (·.1)=none)
  (h:∀h',Heap.ExtBut s.heap.objs.size s.heap h'→wpAny (model prog w) A (assignInOrder (targets.map (·.2)) items.toList) Q E { s with heap:=h' }) :
  wpAny (model prog w) A (unpack (.ref t) targets) Q E s:=by
 unfold unpack
 rw[hn,hstar]
 exact wpAny_bind (wpAny_holding (ZfE hh ht h))
theorem Zfo{env:Env}{elts:List Expr}{x1}{pos:Pos}{t:Addr}{items:Array Value}{Q:Unit→Shared→Prop}(hh:A.handled=none)(ht:s.heap.IsList t items)
  (hn:(assignEach elts env).length=items.size) (hstar:(assignEach elts env).findIdx? (·.1)=none)
  (h:∀h',Heap.ExtBut s.heap.objs.size s.heap h'→wpAny (model prog w) A (assignInOrder ((assignEach elts env).map (·.2)) items.toList) Q E { s with heap:=h' }) :
  wpAny (model prog w) A (assign (.Tuple elts x1 pos) env (.ref t)) Q E s:=by
 rw[assign_Tuple]
 exact wpAny_bind (wpAny_standAt (ZjH hh ht hn hstar h))
end
def ZsK(K:PySem.W.Frag)(n:Nat)(t:TGs):TG:=fun v σ H Q=>∃a xs,v=.ref a∧SqL K H a xs∧xs.length=n∧t xs σ H Q
theorem gL{X:Cx}(K:PySem.W.Frag){es:List Expr}{k:Nat}{t:TGs}{n:Nat}{pos:Pos}(h:PGs X es t)(hK:X.K=K:=by rfl)(hc:X.calm=true:=by rfl)
  (hn:(assignEach es X.env).length=n:=by rfl) (hst:(assignEach es X.env).findIdx? (·.1)=none:=by rfl):PG X (.Tuple es k pos) (ZsK K n t):=by
 subst hK
 intro pins s σ H v u Q I r hw
 obtain⟨a,xs,e1,hq,hl,hw⟩:=hw
 subst e1
 cases r
 obtain⟨its,rv,ht,hz⟩:=I.list hq
 refine Zfo (I.ok.hd hc) ht.isList (by simp[hn,← hl,rv.length]) hst fun h' hx=>?_
 have I1:Inv X pins σ H { s with heap:=h' }:=I.kept (t':=s.toks) fun b o e=>hx b o (QC (Qr e)) e
 exact h pins _ σ H xs _ Q I1 (by simpa using rv) hw
def Zhy(xs:List V)(lo hi:Option Int)(st:Int):List V :=
 (sliceRange (sliceBounds lo hi (some st) xs.length).1 (sliceBounds lo hi (some st) xs.length).2.1 (sliceBounds lo hi (some st) xs.length).2.2).filterMap fun i=>xs[i]?
theorem Zh9{xs:List V}{us:List Value}(r:ZG xs us):∀is:List Nat,ZG (is.filterMap fun i=>xs[i]?) (is.filterMap fun i=>us[i]?)
 | []=>.nil
 | i::is=>by
  have ih:=Zh9 r is
  by_cases hi:i<xs.length
  ·have e1:xs[i]? = some xs[i]:=Qb hi
   obtain⟨u,hu,ru⟩:=r.get e1
   rw[Q1,Q1,e1,hu]
   exact .cons ru ih
  ·have e1:xs[i]? = none:=QN (by omega)
   have e2:us[i]? = none:=QN (by rw[← r.length];omega)
   rw[Q1,Q1,e1,e2]
   exact ih
def ZqM(X:Cx)(r:V→Option Int→Option Int→Int→Hp→VK→Prop):Prop :=
 ∀ (pins:List (Addr×Obj)) (s:Shared) (σ:St) (H:Hp) (x:V) (v vl vu vs:Value) (lo hi:Option Int) (st:Int) (sl:Addr) (Q:VK),Inv X pins σ H s→ZI x v→s.heap.IsSliceOf sl vl vu vs→IsPart vl lo→IsPart vu hi→IsPart vs (some st)→r x lo hi st H Q →
  ∃T id,typeLookup (.type T) "__getitem__" = pure (some (.builtin id))∧s.TypeIs v T∧wpAny (model X.prog X.w) X.A (getItem v (.ref sl)) (EP X pins σ Q) X.xe s
def ZsG(r:V→Option Int→Option Int→Int→Hp→VK→Prop)(te:TE)(tl th ts:TO):TE:=fun σ H Q=>te σ H fun x H1=>tl σ H1 fun l H2=>th σ H2 fun u H3=>ts σ H3 fun k H4=>∃i,k=some i∧r x l u i H4 Q
section
variable {X:Cx} {e st:Expr} {te:TE} {lo hi:Option Expr} {tl th ts:TO} {pos p2:Pos}
theorem Zma{r:V→Option Int→Option Int→Int→Hp→VK→Prop}(hr:ZqM X r)(he:PE X e te)(hl:PO X lo tl)(hu:PO X hi th)(hst:PO X (some st) ts):PE X (.Subscript e (.Slice lo hi (some st) p2) pos) (ZsG r te tl th ts):=by
 intro pins s σ H Q I h
 refine Subscript_ (thn (he pins s σ H _ I h) ?_)
 rintro v s1 ⟨x,H1,I1,r1,q1⟩
 refine wpAny_Slice (thn (hl pins s1 σ H1 _ I1 q1) fun vl s2 ⟨l,H2,I2,pl,q2⟩=>thn (hu pins s2 σ H2 _ I2 q2) fun vu s3 ⟨u,H3,I3,pu,q3⟩=>thn (hst pins s3 σ H3 _ I3 q3) ?_)
 rintro vs s4 ⟨k,H4,I4,pk,q4⟩
 obtain⟨i,rfl,q4⟩:=q4
 have I5:Inv X pins σ H4 { s4 with heap:=s4.heap.push { cls:=.type "slice",data:=.fields #[vl,vu,vs] } }:=I4.kept (t':=s4.toks) fun b ob q=>Qc _ q
 obtain⟨T,id,hT,ht,hg⟩:=hr pins { s4 with heap:=s4.heap.push { cls:=.type "slice",data:=.fields #[vl,vu,vs] } } σ H4 x v vl vu vs l u i s4.heap.objs.size Q I5 r1 (Heap.IsSliceOf.new ..) pl pu pk q4
 show wpAny (model X.prog X.w) X.A (subscriptTail e (.Slice lo hi (some st) p2) v (.ref s4.heap.objs.size)) (EP X pins σ Q) X.xe { s4 with heap:=s4.heap.push { cls:=.type "slice",data:=.fields #[vl,vu,vs] } }
 exact tail_any (ops:=[v,.ref s4.heap.objs.size]) ht hT hg (by with_unfolding_all rfl)
def Zp2(K:PySem.W.Frag):V→Option Int→Option Int→Int→Hp→VK→Prop:=fun x lo hi st H Q=>∃a xs,x=.ref a∧SqL K H a xs∧st≠0∧∀p,H p=none→Q (.ref p) (upd H p (.lst (Zhy xs lo hi st)))
theorem Znw:ZqM X (Zp2 X.K):=by
 intro pins s σ H x v vl vu vs lo hi st sl Q I rx hs pl pu pk h
 obtain⟨a,xs,rfl,hx,hne,q⟩:=h
 cases rx
 obtain⟨its,r,ht,hz⟩:=I.list hx
 have hlen:=r.length
 refine⟨"list",_,slot_list_getitem.lookup,ht.isList.typeIs,?_⟩
 refine wpAny_getItem_list_slice ht.isList hs pl pu pk (by intro e;exact hne (Ql e)) ?_ (by rw[QE]<;>omega)
 have hsz:=slicePick_size_le its.toArray lo hi (some st)
 have hv:ZG (Zhy xs lo hi st) (slicePick its.toArray lo hi (some st)).toList:=by
  unfold slicePick Zhy
  simp only[List.size_toArray,← hlen]
  have:=Zh9 r (sliceRange (sliceBounds lo hi (some st) xs.length).1 (sliceBounds lo hi (some st) xs.length).2.1 (sliceBounds lo hi (some st) xs.length).2.2)
  simpa using this
 refine⟨.ref s.heap.objs.size,_,I.laid (t':=s.toks) (o:=.lst (Zhy xs lo hi st)) (fun b ob q=>Qc _ q) (Qg _) ?_,rfl,q _ (I.hok.fresh (Qg _))⟩
 refine⟨?_,(slicePick its.toArray lo hi (some st)).toList,0,hv,?_⟩
 ·have e1:its.toArray.size=xs.length:=by rw[QE];exact hlen.symm
  rw[hv.length,QaH]
  exact Qy hsz (by rw[e1];exact hz)
 ·simpa using Qq _ rfl
theorem ZsB(K:PySem.W.Frag)(h:X.K=K:=by rfl):ZqM X (Zp2 K):=by subst h;exact Znw
end
theorem Zf4(n:Nat):sliceRange ((n:Int)-1) (-1) (-1)=(List.range n).map fun i=>n-1-i:=by
 unfold sliceRange
 have hc:(if (-1:Int)>0 then (if (n:Int)-1 < -1 then (-1-((n:Int)-1) + -1-1) / -1 else 0) else (if (n:Int)-1 > -1 then ((n:Int)-1 - -1 - -1-1) / (- -1) else 0)).toNat=n:=by
  rw[if_neg (by decide)]
  by_cases h:(n:Int)-1 > -1
  ·rw[if_pos h,show (- -1:Int)=1 by decide,Int.ediv_one];omega
  ·rw[if_neg h];omega
 simp only[]
 rw[hc]
 apply Qx
 intro k hk
 have:=Qag.mp hk
 omega
theorem Zhk{α:Type}(xs:List α):((List.range xs.length).map fun i=>xs.length-1-i).filterMap (fun i=>xs[i]?)=xs.reverse:=by
 rw[List.filterMap_map]
 have e:∀n,n≤xs.length→(List.range n).filterMap ((fun i=>xs[i]?) ∘ fun i=>xs.length-1-i)=xs.reverse.take n:=by
  intro n
  induction n with
  | zero=>intro _;rfl
  | succ n ih =>
   intro hn
   rw[List.range_succ,List.filterMap_append,ih (by omega)]
   have h1:xs[xs.length-1-n]? = some xs[xs.length-1-n]:=Qb (by omega)
   rw[Q1]
   simp only[Function.comp,h1,List.filterMap_nil]
   rw[QH,List.getElem?_reverse (by omega),h1]
   rfl
 rw[e _ (Qg _)]
 exact QD (by simp)
theorem ZlX(xs:List V):Zhy xs none none (-1)=xs.reverse:=by
 have e:sliceRange (sliceBounds none none (some (-1)) xs.length).1 (sliceBounds none none (some (-1)) xs.length).2.1 (sliceBounds none none (some (-1)) xs.length).2.2=sliceRange ((xs.length:Int)-1) (-1) (-1):=rfl
 unfold Zhy
 rw[e,Zf4,Zhk]
section
variable {X:Cx}
def rInsert:V→List V→Hp→VK→Prop:=fun x vs H Q=>∃l xs i y,x=.ref l∧vs=[.int i,y]∧H l=some (.lst xs)∧0≤i∧i≤xs.length∧xs.length<sizeLine∧Q .non (upd H l (.lst (xs.take i.toNat++y::xs.drop i.toNat)))
def rBits:V→List V→Hp→VK→Prop:=fun x vs H Q=>∃i,x=.int i∧vs=[]∧Q (.int (Builtin.Int.intBits i:Nat)) H
theorem inQ(K:PySem.W.Frag)(h:X.K=K:=by rfl):OpR X (compareOp .In) (rIn K false):=by subst h;exact ZlY
def rTupQ(K:PySem.W.Frag):List V→Hp→VK→Prop:=fun xs H Q=>∃p ys,xs=[.ref p]∧((SqL K H p ys∧∀l,H l=none→Q (.ref l) (upd H l (.tup ys)))∨(SqT K H p ys∧Q (.ref p) H))
end
def Its(z:Str):It:=⟨fun i _=>i<z.cps.size,fun i H v H'=>H'=H∧∃c,z.cps[i]? = some c∧v=.str ⟨#[c]⟩,fun i _=>z.cps.size≤i⟩
section
variable {X:Cx} {tg:Expr}
def iStr(tl:TE):TI:=fun σ H R=>tl σ H fun x H1=>∃z,x=.str z∧R (Its z) H1
end
def ZsW:PyData→Str
 | .str z=>z
 | d=>d.shown
def rStrD(K:PySem.W.Frag):List V→Hp→VK→Prop:=fun xs H Q=>∃x d,xs=[x]∧DV K H x d∧PyData.layable0 d=true∧d.intsShort 13=true∧d.showable=true∧Q (.str (ZsW d)) H
def ZjZ(kvs:List (List Key×V))(k:List Key):Option V:=(kvs.find? fun kv=>decide (kv.1=k)).map (·.2)
abbrev PairT(H:Hp):List (List Key×V)→List (List Key×Addr×Value)→Prop:=Paired fun (p:List Key×V) (q:List Key×Addr×Value)=>p.1=q.1∧H q.2.1=some (.tup (p.1.map kV))∧ZI p.2 q.2.2
section
variable {X:Cx} {pins:List (Addr×Obj)} {σ:St} {H:Hp} {s:Shared}
def Zro:TE:=fun _ H Q=>∀p,H p=none→Q (.ref p) (upd H p (.dT []))
theorem Zlg{pos:Pos}:PE X (.Dict [] [] pos) Zro:=by
 intro pins s σ H Q I h
 have hb:sysModules<s.heap.objs.size:=Nat.lt_trans (by decide) (show mainGlobals<s.heap.objs.size from(I.mod.glob.keeps I.bk).lt)
 refine wpAny_Dict_empty ⟨.ref s.heap.objs.size,upd H s.heap.objs.size (.dT []),?_,rfl,h _ (I.hok.fresh (Qg _))⟩
 refine I.laid (t':=s.toks) (fun _ _ q=>Qc _ q) (Qg _) ?_
 refine⟨Qv _,?_,[],.nil,_,#[],0,Qq _ rfl,⟨rfl,rfl,rfl⟩,rfl,rfl,List.nodup_nil⟩
 exact beq_eq_false_iff_ne.mpr fun z=>Q4 _ (z ▸ hb)
end
def rSetDef:V→List V→Hp→VK→Prop:=fun x vs H Q=>∃d kvs b ks y,x=.ref d∧vs=[.ref b,y]∧H d=some (.dT kvs)∧H b=some (.tup (ks.map kV))∧kvs.length<sizeLine ∧
 (∀v,ZjZ kvs ks=some v→Q v H)∧(ZjZ kvs ks=none→Q y (upd H d (.dT (kvs++[(ks,y)]))))
def Zs3:List V→Hp→VK→Prop:=fun xs H Q=>∃j:Int,xs=[.int j]∧∀p,H p=none→Q (.ref p) (upd H p (.rng 0 j))
def Zs2:List V→Hp→VK→Prop:=fun xs H Q=>∃i j:Int,xs=[.int i,.int j]∧∀p,H p=none→Q (.ref p) (upd H p (.rng i j))
def ZdQ(lo:Int)(n:Nat):List Int:=(List.range n).map fun (k:Nat)=>lo+k
theorem Zdf(lo:Int)(n:Nat):(ZdQ lo n).length=n:=by simp[ZdQ]
def rListR:List V→Hp→VK→Prop:=fun xs H Q=>∃ (p:Addr) (lo hi:Int),xs=[.ref p]∧H p=some (.rng lo hi) ∧ -(2 ^ 62)≤lo∧lo<2 ^ 62 ∧ -(2 ^ 62)≤hi∧hi<2 ^ 62∧(hi-lo).toNat≤1000 ∧
 ∀l,H l=none→Q (.ref l) (upd H l (.lst ((ZdQ lo (hi-lo).toNat).map V.int)))
section
variable {prog:Program} {w:World} {A:Around} {E:Value→Shared→Prop} {s:Shared}
end
section
variable {X:Cx}
def rSlTS(K:PySem.W.Frag):V→Option Int→Option Int→Int→Hp→VK→Prop:=fun x lo hi st H Q=>∃a xs,x=.ref a∧SqT K H a xs∧lo=none∧hi=none∧st = -1∧∀p,H p=none→Q (.ref p) (upd H p (.tup xs.reverse))
def rExtendT(K:PySem.W.Frag):V→List V→Hp→VK→Prop:=fun x vs H Q=>∃l b xs zs,x=.ref l∧vs=[.ref b]∧H l=some (.lst xs)∧H b=some (.tup zs)∧xs.length+zs.length≤sizeLine∧Q .non (upd H l (.lst (xs++zs)))
def gSlice(to:TE)(tl th:TO):TG:=fun v σ H Q=>to σ H fun o H1=>tl σ H1 fun l H2=>th σ H2 fun u H3=>∃ (p b:Addr) (xs ys:List V) (a c:Int),o=.ref p∧v=.ref b∧l=some a∧u=some c∧H3 p=some (.lst xs)∧H3 b=some (.lst ys)∧p≠b∧0≤a∧a≤c∧c≤xs.length∧xs.length+ys.length≤sizeLine ∧
 Q σ (upd H3 p (.lst (xs.take a.toNat++ys++xs.drop c.toNat)))
def rSumB(K:PySem.W.Frag):List V→Hp→VK→Prop:=fun vs H Q=>∃ (p:Addr) (ns:List Int),vs=[.ref p]∧SqL K H p (ns.map V.int)∧ns.length≤1000∧(∀n∈ns,0≤n∧n≤10000000000)∧Q (.int ns.sum) H
theorem Zfd(ns:List Int):∀n,n≤ns.length→preSum (fun j=>ns.getD j 0) n=(ns.take n).sum
 | 0,_=>rfl
 | n+1,h=>by
  have ih:=Zfd ns n (by omega)
  have e:ns.take (n+1)=ns.take n++[ns.getD n 0]:=by
   rw[QH,Qb (by omega),QF,Qb (by omega)]
   rfl
  rw[e,List.sum_append,← ih]
  simp[preSum]
end
section
variable {prog:Program} {w:World} {A:Around} {E:Value→Shared→Prop} {s:Shared} {κ:PyProof.Rows.KeyKind} {k0:SortKind} {a₀:Array Keyed} {st:SortSt}
def LtAt(prog:Program)(w:World)(A:Around)(s:Shared)(k0:SortKind)(κ:PyProof.Rows.KeyKind):Prop :=
 ∀ (E:Value→Shared→Prop) (x y:Value) (a b:κ.α) (Q:Bool→Shared→Prop),κ.keyOf x=some a→κ.keyOf y=some b→Q (κ.blt a b) s→wpAny (model prog w) A (keyLt' k0 x y) Q E s
structure SB (k0:SortKind) (a₀:Array Keyed) (st:SortSt):Prop where
 perm:(arrOf st).Perm a₀
 kind:kindOf st=k0
 failed:failedOf st=none
 pend:pendingOf st = #[]
theorem Zsr(st:SortSt)(xs:Array Keyed):arrOf (setArr st xs)=xs:=rfl
end
section
variable {prog:Program} {w:World} {A:Around} {E:Value→Shared→Prop} {s:Shared} {κ:PyProof.Rows.KeyKind}
end
def kLt:Key→Key→Bool
 | .inl i,.inl j=>decide (i<j)
 | .inr x,.inr y=>decide (x.cps.toList<y.cps.toList)
 | .inl _,.inr _=>true
 | .inr _,.inl _=>false
theorem Zka:∀a:Key,kLt a a=false
 | .inl i=>decide_eq_false (by omega)
 | .inr x=>decide_eq_false (List.lt_irrefl _)
theorem Zl2:∀a b c:Key,kLt a b=true→kLt b c=true→kLt a c=true
 | .inl i,.inl j,.inl k,h1,h2=>by have:=of_decide_eq_true h1;have:=of_decide_eq_true h2;exact decide_eq_true (by omega)
 | .inr x,.inr y,.inr z,h1,h2=>decide_eq_true (List.lt_trans (of_decide_eq_true h1) (of_decide_eq_true h2))
 | .inl _,.inl _,.inr _,_,_=>rfl
 | .inl _,.inr _,.inr _,_,_=>rfl
 | .inl _,.inr _,.inl _,_,h=>by cases h
 | .inr _,.inl _,_,h,_=>by cases h
 | .inr _,.inr _,.inl _,_,h=>by cases h
theorem ZlR:∀a b:Key,kLt a b=false→kLt b a=false→a=b
 | .inl i,.inl j,h1,h2=>by have:=of_decide_eq_false h1;have:=of_decide_eq_false h2;congr 1;omega
 | .inr x,.inr y,h1,h2=>by
  have a1:¬ x.cps.toList<y.cps.toList:=of_decide_eq_false h1
  have a2:¬ y.cps.toList<x.cps.toList:=of_decide_eq_false h2
  have e:x.cps.toList=y.cps.toList:=List.le_antisymm a2 a1
  obtain⟨xs⟩:=x
  obtain⟨ys⟩:=y
  congr 2
  exact Array.toList_inj.mp e
 | .inl _,.inr _,h,_=>by cases h
 | .inr _,.inl _,_,h=>by cases h
def Za8:List Key→List Key→Bool
 | [],[]=>false
 | [],_::_=>true
 | _::_,[]=>false
 | x::xs,y::ys=>if x=y then Za8 xs ys else kLt x y
theorem ZfG(x y:Key)(xs ys:List Key):Za8 (x::xs) (y::ys)=if x=y then Za8 xs ys else kLt x y:=rfl
theorem ZcF:∀a:List Key,Za8 a a=false
 | []=>rfl
 | x::r=>by unfold Za8;rw[if_pos rfl];exact ZcF r
theorem Zdz:∀a b c:List Key,Za8 a b=true→Za8 b c=true→Za8 a c=true
 | [],[],_,h,_=>by cases h
 | [],_::_,[],_,h=>by cases h
 | [],_::_,_::_,_,_=>rfl
 | _::_,[],_,h,_=>by cases h
 | _::_,_::_,[],_,h=>by cases h
 | x::r,y::s,z::t,h1,h2=>by
  have ih:=Zdz r s t
  unfold Za8 at h1 h2 ⊢
  by_cases e1:x=y
  ·rw[if_pos e1]at h1
   by_cases e2:y=z
   ·rw[if_pos e2]at h2
    rw[if_pos (e1.trans e2)]
    exact ih h1 h2
   ·rw[if_neg e2]at h2
    rw[if_neg (fun e=>e2 (e1.symm.trans e)),e1]
    exact h2
  ·rw[if_neg e1]at h1
   by_cases e2:y=z
   ·rw[if_neg (fun e=>e1 (e.trans e2.symm)),← e2]
    exact h1
   ·rw[if_neg e2]at h2
    have h3:=Zl2 _ _ _ h1 h2
    rw[if_neg (fun e=>by rw[e,Zka]at h3;cases h3)]
    exact h3
theorem ZeP:∀a b:List Key,Za8 a b=false→Za8 b a=false→a=b
 | [],[],_,_=>rfl
 | [],_::_,h,_=>by cases h
 | _::_,[],_,h=>by cases h
 | x::r,y::s,h1,h2=>by
  unfold Za8 at h1 h2
  by_cases e:x=y
  ·rw[if_pos e]at h1
   rw[if_pos e.symm]at h2
   rw[e,ZeP r s h1 h2]
  ·rw[if_neg e]at h1
   rw[if_neg fun z=>e z.symm]at h2
   exact absurd (ZlR _ _ h1 h2) e
theorem Zoh(a b c:List Key)(h:Za8 a c=true):Za8 a b=true∨Za8 b c=true:=by
 by_cases h1:Za8 a b=true
 ·exact .inl h1
 ·by_cases h2:Za8 b a=true
  ·exact .inr (Zdz _ _ _ h2 h)
  ·have e:=ZeP a b (by simpa using h1) (by simpa using h2)
   rw[← e];exact .inr h
def unV:V→Option Key
 | .int i=>some (.inl i)
 | .str x=>some (.inr x)
 | _=>none
def Zp3:List V→Option (List Key)
 | []=>some []
 | x::r=>(unV x).bind fun k=>(Zp3 r).map (k::·)
def ZbG(ks:List Key):List Bool:=ks.map fun k=>k.isLeft
def Zse(H:Hp)(sh:List Bool):Value→Option (List Key)
 | .ref a=>match H a with
  | some (.tup xs)=>(Zp3 xs).bind fun ks=>if ZbG ks=sh then some ks else none
  | _=>none
 | _=>none
def tupKind(H:Hp)(sh:List Bool):PyProof.Rows.KeyKind:=⟨⟨List Key,Za8,ZcF,Zdz,fun a b c h=>Zoh a b c h,ZeP⟩,Zse H sh,[]⟩
section
variable {prog:Program} {w:World} {A:Around} {E:Value→Shared→Prop} {s:Shared}
end
section
variable {prog:Program} {w:World} {A:Around} {E:Value→Shared→Prop} {s:Shared}
end
abbrev Zfu:=List (Addr×List Key)
def Zgb(ts:Zfu):List V:=ts.map fun t=>V.ref t.1
def AtT(H:Hp)(ts:Zfu):Prop:=∀t∈ts,H t.1=some (.tup (t.2.map kV))
theorem Zh8:∀ {ts:Zfu} {us:List Value},ZG (Zgb ts) us→us=ts.map fun t=>Value.ref t.1
 | [],_,h=>by cases h;rfl
 | t::r,_,h=>by
  cases h with
  | cons a b=>rw[Zh8 b];cases a;rfl
def rSrtT(K:PySem.W.Frag):List V→Hp→VK→Prop:=fun xs H Q=>∃ (p:Addr) (ts:Zfu) (sh:List Bool),xs=[.ref p]∧SqL K H p (Zgb ts)∧AtT H ts∧sh≠[]∧(∀t∈ts,ZbG t.2=sh)∧ts.length<64 ∧
 ∀ (l:Addr) (ts':Zfu),H l=none→ts'.Perm ts→ts'.Pairwise (fun a b=>Za8 b.2 a.2=false)→Q (.ref l) (upd H l (.lst (Zgb ts')))
theorem Znn(A:Around)(s:Shared){k m:Key}{p q:Value}(hp:ZI (kV k) p)(hq:ZI (kV m) q)(hs:k.isLeft=m.isLeft):∃e,SeqAt.EqAt A s p q e∧(e=true↔k=m):=by
 cases k with
 | inl i =>
  cases m with
  | inl j =>
   obtain⟨t,rfl⟩:=hp
   obtain⟨u,rfl⟩:=hq
   exact⟨_,SeqAt.EqAt.int_int i t j u,by simp⟩
  | inr y=>cases hs
 | inr x =>
  cases m with
  | inl j=>cases hs
  | inr y =>
   obtain⟨t,rfl⟩:=hp
   obtain⟨u,rfl⟩:=hq
   exact⟨_,SeqAt.EqAt.str_str x t y u,by simp⟩
theorem Zm9(A:Around)(s:Shared){k m:Key}{p q:Value}(hp:ZI (kV k) p)(hq:ZI (kV m) q)(hs:k.isLeft=m.isLeft)(prog:Program)(w:World)(E:Value→Shared→Prop)(Q:Value→Shared→Prop)(h:Q (.bool (kLt k m)) s) :
  wpAny (model prog w) A (richCompare .Lt p q) Q E s:=by
 cases k with
 | inl i =>
  cases m with
  | inl j =>
   obtain⟨t,rfl⟩:=hp
   obtain⟨u,rfl⟩:=hq
   exact(PyProof.Rows.lt_int h:wpAny (model prog w) A (compareOp .Lt (.int i t) (.int j u)) Q E s)
  | inr y=>cases hs
 | inr x =>
  cases m with
  | inl j=>cases hs
  | inr y =>
   obtain⟨t,rfl⟩:=hp
   obtain⟨u,rfl⟩:=hq
   exact(PyProof.Rows.lt_str h:wpAny (model prog w) A (compareOp .Lt (.str x t) (.str y u)) Q E s)
section
open PySem.SeqAt
open PySem.AutoSeq1 (wpAny_loadPart')
open PySem.MeetsSeq PySem.MeetsSeq2 PySem.MeetsSeq3
theorem Zhx(l b:Addr)(items items2:Array Value)(n n2:Nat)(dd dd2:Option Addr)(sl sl2:Array (Option Value))(ks ms:List Key)(hi:ZG (ks.map kV) items.toList)(hj:ZG (ms.map kV) items2.toList)(hs:ZbG ks=ZbG ms) :
  Meets (Builtin.«tuple.__lt__» ⟨[.ref l,.ref b],[]⟩)
   (fun _ R s=>s.heap.get? l=some { cls:=.type "tuple",dict:=dd,data:=.seq items n,slots:=sl }∧s.heap.get? b=some { cls:=.type "tuple",dict:=dd2,data:=.seq items2 n2,slots:=sl2 } ∧
    R (.ok (.ret (.bool (Za8 ks ms)))) s) :=
 .of_wp fun prog w A R s h=>by
  obtain⟨hp,g,d,tk,os⟩:=s;obtain⟨hl,hb,h⟩:=h
  have f2:=AutoSeq1.sub_tuple_tuple
  have z1:items.size=ks.length:=by have:=hi.length;simpa using this.symm
  have z2:items2.size=ms.length:=by have:=hj.length;simpa using this.symm
  have z3:ks.length=ms.length:=by have:=congrArg List.length hs;simpa [ZbG] using this
  wp_walk using wpAny_loadPart' hl,wpAny_loadPart' hb,wpAny_forIn_list _ (fun rest b s'=>b.1=none∧s'=⟨hp,g,d,tk,os⟩∧∃ (vs ws:List Value) (ks' ms':List Key),rest=vs.zip ws ∧
   ZG (ks'.map kV) vs∧ZG (ms'.map kV) ws∧ZbG ks'=ZbG ms'∧R (.ok (.ret (.bool (Za8 ks' ms')))) ⟨hp,g,d,tk,os⟩) _
  case turn =>
   rintro⟨y,x⟩ rest b s' ⟨hb',rfl,vs,ws,ks',ms',hz,hvi,hwi,hsh,hR⟩
   cases ks' with
   | nil=>cases hvi;rw[List.zip_nil_left]at hz;cases hz
   | cons k1 kr =>
    cases ms' with
    | nil=>cases hsh
    | cons m1 mr =>
     cases hvi with
     | cons r1 rr =>
      cases hwi with
      | cons r1' rr' =>
       rw[List.zip_cons_cons]at hz
       injection hz with hyx hrest
       injection hyx with hy hx
       subst hy hx
       rw[ZfG]at hR
       unfold ZbG at hsh
       rw[Qh,Qh]at hsh
       injection hsh with s1 s2
       obtain⟨e,he,hiff⟩:=Znn A.in1 ⟨hp,g,d,tk,os⟩ r1 r1' s1
       refine wpAny_bind (he prog w _ _ ?_)
       cases e with
       | true =>
        rw[if_pos (hiff.mp rfl)]at hR
        wp_walk
        exact⟨rfl,rfl,_,_,_,_,hrest,rr,rr',s2,hR⟩
       | false =>
        rw[if_neg (fun q=>absurd (hiff.mpr q) Qm)]at hR
        have hri:=Zm9 A.in1 ⟨hp,g,d,tk,os⟩ r1 r1' s1 prog w
        wp_walk using hri
        exact⟨_,rfl,by simpa using hR⟩
  case fin =>
   rintro⟨b1,b2⟩ s' ⟨hb',rfl,vs,ws,ks',ms',hz,hvi,hwi,hsh,hR⟩
   simp only at hb'
   subst hb'
   have hv:Za8 ks' ms'=decide (items.size<items2.size):=by
    rw[decide_eq_false (by omega)]
    cases ks' with
    | nil =>
     cases ms' with
     | nil=>rfl
     | cons _ _=>cases hsh
    | cons k1 kr =>
     cases ms' with
     | nil=>cases hsh
     | cons m1 mr =>
      cases hvi with
      | cons r1 rr =>
       cases hwi with
       | cons r1' rr'=>rw[List.zip_cons_cons]at hz;cases hz
   rw[hv]at hR
   wp_walk
   exact⟨_,rfl,by simpa [Builtin.Tuple.tupleCompareSizes] using hR⟩
  case h =>
   exact⟨rfl,rfl,items.toList,items2.toList,ks,ms,rfl,hi,hj,hs,h⟩
end
section
variable {prog:Program} {w:World} {A:Around} {E:Value→Shared→Prop} {s:Shared}
theorem ZkG{l b:Addr}{items items2:Array Value}{ks ms:List Key}{Q:Value→Shared→Prop}(hl:IsTup s.heap l items)(hb:IsTup s.heap b items2)(hi:ZG (ks.map kV) items.toList)(hj:ZG (ms.map kV) items2.toList)(hs:ZbG ks=ZbG ms)
  (hu:A.units<cLine) (h:Q (.bool (Za8 ks ms)) s):wpAny (model prog w) A (richCompare .Lt (.ref l) (.ref b)) Q E s:=by
 obtain⟨⟨cls,dd,data,sl⟩,ho,hc,n,hd⟩:=id hl
 obtain⟨⟨cls2,dd2,data2,sl2⟩,ho2,hc2,n2,hd2⟩:=id hb
 simp only at hc hd hc2 hd2
 subst hc hd hc2 hd2
 exact richCompare_meets_room (op:=.Lt) ⟨_,ho,rfl⟩ ⟨_,ho2,rfl⟩ PySem.F.slot_tuple_lt PySem.F.entry_tuple_lt (PySem.F.args_tuple_lt_2 _ _) (Zhx l b items items2 n n2 dd dd2 sl sl2 ks ms hi hj hs)
  ⟨ho,ho2,show Value.bool (Za8 ks ms)≠Value.notImplemented∧Q (.bool (Za8 ks ms)) s from⟨(fun x=>nomatch x),h⟩⟩ hu
end
section
variable {prog:Program} {w:World}
theorem ZlQ{A:Around}{a:Args}:(A.under (.builtin "min.loop" a)).units≤A.units+1:=by
 show A.units+(Code.builtin "min.loop" a).cUnits≤A.units+1
 first|exact Qg _|simp[Code.cUnits,Code.frames,Code.isFrame]
theorem Zha{A:Around}{R:Result→Shared→Prop}{l I S:Addr}{ts:Zfu}{sh:List Bool}{h0:Heap}{kw:List (Str×Value)}(hh:A.handled=none)(hu:A.units+4<cLine)(hlist:h0.IsList l (ts.map fun t=>Value.ref t.1).toArray)
  (hI:h0.get? I=none) (hS:h0.get? S=none) (hSI:S≠I) (htup:∀t∈ts,∃its:List Value,ZG (t.2.map kV) its∧IsTup h0 t.1 its.toArray) (hsh:∀t∈ts,ZbG t.2=sh) (s0:Shared)
  (q:∀ (h':Heap) (t:Addr×List Key),(∀b o,h0.get? b=some o→h'.get? b=some o)→t∈ts→(∀u∈ts,Za8 u.2 t.2=false)→R (.ok (.ret (.ref t.1))) { s0 with heap:=h' }) :
  ∀ (k j:Nat) (h:Heap) (t:Addr×List Key) (c:Nat),ts.length-j=k→j≤ts.length→(∀b o,h0.get? b=some o→h.get? b=some o)→h.IsListIter I l j→h.get? S=some { cls:=.type "list",data:=.seq #[.ref t.1,.ref t.1] c }→t∈ts →
   (∀u∈ts.take j,Za8 u.2 t.2=false)→codeAny (model prog w) A (.builtin "min.loop" { pos:=[.ref I,.none,.ref S],kw:=kw }) R { s0 with heap:=h }
 | k,j,h,t,c,hk,hj,keep,hit,hst,htm,hbest=>by
  refine codeAny_builtin F.entry_min_loop ?_
  show wpAny _ _ (seqItems? (.ref S) >>= _) _ _ _
  refine wpAny_bind (wpAny_seqItems hst rfl ?_)
  have keepL:h.IsList l (ts.map fun t=>Value.ref t.1).toArray:=by
   obtain⟨o,ho,r⟩:=hlist
   exact⟨o,keep _ _ ho,r⟩
  by_cases hlt:j<ts.length
  ·have hx:((ts.map fun t=>Value.ref t.1).toArray)[j]? = some (Value.ref ts[j].1):=by simp[hlt]
   refine wpAny_bind (wpAny_tryCatch (wpAny_pyNext_list_item hit keepL hx fun h1 hit1 sb=>?_))
   have keep1:∀b o,h0.get? b=some o→h1.get? b=some o:=fun b o hb=>by
    have nb:b≠I:=fun e=>by rw[e,hI]at hb;cases hb
    rw[sb.2 b nb];exact keep b o hb
   have hst1:h1.get? S=some { cls:=.type "list",data:=.seq #[.ref t.1,.ref t.1] c }:=by rw[sb.2 S hSI];exact hst
   refine wpAny_bind (wpAny_pure ?_)
   have hjm:ts[j]∈ts:=Q3 hlt
   obtain⟨i1,v1,t1⟩:=htup _ hjm
   obtain⟨i2,v2,t2⟩:=htup _ htm
   have tup1:∀ {a:Addr} {its:List Value},IsTup h0 a its.toArray→IsTup h1 a its.toArray:=fun ⟨o,ho,hc⟩=>⟨o,keep1 _ _ ho,hc⟩
   have hsh1:ZbG ts[j].2=ZbG t.2:=(hsh _ hjm).trans (hsh _ htm).symm
   refine wpAny_bind (wpAny_tryCatch (wpAny_holding (wpAny_bind (ZkG (tup1 t1) (tup1 t2) (by simpa using v1) (by simpa using v2) hsh1 (Nat.lt_of_le_of_lt ZlQ (by omega)) (wpAny_bind (wpAny_holding (wpAny_truthy_bool (wpAny_bind (wpAny_letGo (wpAny_pure ?_))))))))))
   cases hb:Za8 ts[j].2 t.2 with
   | true =>
    refine wpAny_bind (wpAny_updateSeq hst1 rfl ?_ (by show 2≤_;rw[sizeLine_eq];decide) (by show 2≤_;rw[sizeLine_eq];decide))
    refine wpAny_bind (wpAny_letGo (wpAny_pure ⟨rfl,?_⟩))
    refine Zha hh hu hlist hI hS hSI htup hsh s0 q (k-1) (j+1) _ ts[j] c (by omega) (by omega) (fun b o hb'=>?_) ?_ ?_ hjm (fun u hu'=>?_)
    ·have nb:S≠b:=fun e=>by rw[← e,hS]at hb';cases hb'
     exact Qaf _ nb (keep1 b o hb')
    ·obtain⟨o,ho,r⟩:=hit1
     exact⟨o,Qaf _ hSI ho,r⟩
    ·have:=get?_update_seq (c := "list") hst1 (fun _=>#[.ref ts[j].1,.ref ts[j].1])
     simpa using this
    ·rw[QH,Qb hlt]at hu'
     rcases Qk.mp hu' with hu'|hu'
     ·have:=hbest u hu'
      cases hz:Za8 u.2 ts[j].2 with
      | false=>rfl
      | true=>rw[Zdz _ _ _ hz hb]at this;cases this
     ·have:u=ts[j]:=by simpa using hu'
      rw[this];exact ZcF _
   | false =>
    refine wpAny_bind (wpAny_letGo (wpAny_pure ⟨rfl,?_⟩))
    refine Zha hh hu hlist hI hS hSI htup hsh s0 q (k-1) (j+1) h1 t c (by omega) (by omega) keep1 hit1 hst1 htm (fun u hu'=>?_)
    rw[QH,Qb hlt]at hu'
    rcases Qk.mp hu' with hu'|hu'
    ·exact hbest u hu'
    ·have:u=ts[j]:=by simpa using hu'
     rw[this];exact hb
  ·have hx:((ts.map fun t=>Value.ref t.1).toArray)[j]? = none:=by simp;omega
   refine wpAny_bind (wpAny_tryCatch (wpAny_pyNext_list_end hh hit keepL hx fun h1 eb=>?_))
   have hst1:h1.get? S=some { cls:=.type "list",data:=.seq #[.ref t.1,.ref t.1] c }:=eb S _ hSI hst
   refine wpAny_bind (wpAny_updateSeq hst1 rfl ?_ (by show 2≤_;rw[sizeLine_eq];decide) (by show 0≤_;omega))
   refine wpAny_bind (wpAny_letGo (wpAny_pure ?_))
   refine q _ t (fun b o hb=>?_) htm (fun u hu'=>hbest u (by rw[QD (by omega)];exact hu'))
   have nb:S≠b:=fun e=>by rw[← e,hS]at hb;cases hb
   have nI:b≠I:=fun e=>by rw[e,hI]at hb;cases hb
   exact Qaf _ nb (eb b o nI (keep b o hb))
termination_by k=>k
theorem Zmu{A:Around}{R:Result→Shared→Prop}{l I S:Addr}{ts:Zfu}{sh:List Bool}{h0 h:Heap}{c:Nat}{kw:List (Str×Value)}(hh:A.handled=none)(hu:A.units+4<cLine)(hlist:h0.IsList l (ts.map fun t=>Value.ref t.1).toArray)
  (hI:h0.get? I=none) (hS:h0.get? S=none) (hSI:S≠I) (htup:∀t∈ts,∃its:List Value,ZG (t.2.map kV) its∧IsTup h0 t.1 its.toArray) (hsh:∀t∈ts,ZbG t.2=sh) (s0:Shared) (keep:∀b o,h0.get? b=some o→h.get? b=some o) (hit:h.IsListIter I l 0) (hst:h.get? S=some { cls:=.type "list",data:=.seq #[] c })
  (hne:ts≠[]∨∃n d kr,kw=(n,d)::kr∧∀h':Heap,(∀b o,h0.get? b=some o→h'.get? b=some o)→R (.ok (.ret d)) { s0 with heap:=h' })
  (q:∀ (h':Heap) (t:Addr×List Key),(∀b o,h0.get? b=some o→h'.get? b=some o)→t∈ts→(∀u∈ts,Za8 u.2 t.2=false)→R (.ok (.ret (.ref t.1))) { s0 with heap:=h' }) :
  codeAny (model prog w) A (.builtin "min.loop" { pos:=[.ref I,.none,.ref S],kw:=kw }) R { s0 with heap:=h }:=by
 refine codeAny_builtin F.entry_min_loop ?_
 show wpAny _ _ (seqItems? (.ref S) >>= _) _ _ _
 refine wpAny_bind (wpAny_seqItems hst rfl ?_)
 have keepL:h.IsList l (ts.map fun t=>Value.ref t.1).toArray:=by
  obtain⟨o,ho,r⟩:=hlist
  exact⟨o,keep _ _ ho,r⟩
 cases ts with
 | nil =>
  obtain⟨n,d,kr,rfl,q0⟩:=hne.resolve_left (by simp)
  refine wpAny_bind (wpAny_tryCatch (wpAny_pyNext_list_end hh hit keepL (by simp) fun h1 eb=>?_))
  show wpAny _ _ (rule _ >>= _) _ _ _
  refine wpAny_bind (wpAny_rule (wpAny_pure ?_))
  refine q0 _ fun b o hb=>?_
  have nI:b≠I:=fun e=>by rw[e,hI]at hb;cases hb
  exact eb b o nI (keep b o hb)
 | cons t r =>
  refine wpAny_bind (wpAny_tryCatch (wpAny_pyNext_list_item hit keepL (x:=.ref t.1) (by simp) fun h1 hit1 sb=>?_))
  have keep1:∀b o,h0.get? b=some o→h1.get? b=some o:=fun b o hb=>by
   have nb:b≠I:=fun e=>by rw[e,hI]at hb;cases hb
   rw[sb.2 b nb];exact keep b o hb
  have hst1:h1.get? S=some { cls:=.type "list",data:=.seq #[] c }:=by rw[sb.2 S hSI];exact hst
  refine wpAny_bind (wpAny_pure ?_)
  show wpAny _ _ (updateSeq S _ >>= _) _ _ _
  refine wpAny_bind (wpAny_updateSeq hst1 rfl ?_ (by show 0≤_;omega) (by show 2≤_;rw[sizeLine_eq];decide))
  refine wpAny_pure ⟨rfl,?_⟩
  refine Zha hh hu hlist hI hS hSI htup hsh s0 q _ 1 _ t (c+1) rfl (by simp) (fun b o hb'=>?_) ?_ ?_ (by simp) (fun u hu'=>?_)
  ·have nb:S≠b:=fun e=>by rw[← e,hS]at hb';cases hb'
   exact Qaf _ nb (keep1 b o hb')
  ·obtain⟨o,ho,r⟩:=hit1
   exact⟨o,Qaf _ hSI ho,r⟩
  ·have:=get?_update_seq (c := "list") hst1 (fun _=>#[.ref t.1,.ref t.1])
   simpa using this
  ·have:u=t:=by simpa using hu'
   rw[this];exact ZcF _
end
section
variable {X:Cx}
def Zp7(K:PySem.W.Frag):List V→Hp→VK→Prop:=fun vs H Q=>∃ (p:Addr) (ts:Zfu) (sh:List Bool),vs=[.ref p]∧SqL K H p (Zgb ts)∧AtT H ts∧ts≠[]∧(∀t∈ts,ZbG t.2=sh) ∧
 ∀t:Addr×List Key,t∈ts→(∀u∈ts,Za8 u.2 t.2=false)→Q (.ref t.1) H
theorem Zn0{prog:Program}{w:World}{A:Around}{R:Result→Shared→Prop}{s:Shared}{l:Addr}{ts:Zfu}{sh:List Bool}{kw:List (Str×Value)}{kw2:List (Str×Value)}(hh:A.handled=none)(hu:A.units+4<cLine)(hlist:s.heap.IsList l (ts.map fun t=>Value.ref t.1).toArray)
  (hkw:(kw=[]∧kw2=[])∨∃d,kw=[(Str.ofString "default",d)]∧kw2=[(Str.ofString "default",d)])
  (htup:∀t∈ts,∃its:List Value,ZG (t.2.map kV) its∧IsTup s.heap t.1 its.toArray) (hsh:∀t∈ts,ZbG t.2=sh)
  (hne:ts≠[]∨∃n d kr,kw2=(n,d)::kr∧∀h':Heap,(∀b o,s.heap.get? b=some o→h'.get? b=some o)→R (.ok (.ret d)) { s with heap:=h' })
  (q:∀ (h':Heap) (t:Addr×List Key),(∀b o,s.heap.get? b=some o→h'.get? b=some o)→t∈ts→(∀u∈ts,Za8 u.2 t.2=false)→R (.ok (.ret (.ref t.1))) { s with heap:=h' }) :
  codeAny (model prog w) A (.call (.builtin "min") { pos:=[.ref l],kw:=kw }) R s:=by
 refine codeAny_call_builtin_at rfl F.entry_min ?_
 have hc:checkBuiltinCall "min" { pos:=[.ref l],kw:=kw }=pure ():=by
  rcases hkw with⟨rfl,_⟩|⟨d,rfl,_⟩<;>rfl
 rw[hc]
 refine wpAny_pure ?_
 have go:∀ {A':Around},A'.handled=none→wpAny (model prog w) A' (pyIter (.ref l) >>= fun it=>newList [] >>= fun b=>again (.builtin "min.loop" { pos:=[it,.none,b],kw:=kw2 })) (fun fin s'=>match fin with
   | Fin.done f=>R (Except.ok f) s'
   | Fin.again c'=>c'.quiet=true∧codeAny (model prog w) A c' R s') (fun e s'=>R (Except.error e) s') s:=fun {A'} hA'=>by
  refine wpAny_bind (wpAny_pyIter_list hlist ?_)
  refine wpAny_bind (wpAny_newList ?_ (by show 0≤_;omega))
  refine wpAny_pure ⟨rfl,?_⟩
  have none_at:∀b,s.heap.objs.size≤b→s.heap.get? b=none:=fun b hb=>by
   cases e:s.heap.get? b with
   | none=>rfl
   | some o=>exact absurd (Qr e) (Nat.not_lt.mpr hb)
  have hsz:(s.heap.push { cls:=Value.type "list_iterator",data:=Data.fields #[Value.ref l,Value.int 0 0] }).objs.size=s.heap.objs.size+1:=size_push' _ _
  refine Zmu (h0:=s.heap) (c:=0) hh hu hlist (none_at _ (Qg _)) (none_at _ (by rw[hsz];exact Qa4 _)) (by rw[hsz];exact Nat.succ_ne_self _) htup hsh s (fun b o h=>Qc _ (Qc _ h)) ⟨_,Qc _ (Qq _ rfl),rfl,rfl⟩ (Qq _ rfl) hne q
 rcases hkw with⟨rfl,rfl⟩|⟨d,rfl,rfl⟩
 ·exact go hh
 ·exact go hh
theorem Zml(hc:X.calm=true)(hu:X.A.units+64<cLine):ZaH X (.builtin "min") (Zp7 X.K):=by
 intro pins s σ H vs us Q I r h
 obtain⟨p,ts,sh,rfl,hq,hat,hne,hsh,q⟩:=h
 obtain⟨u,rfl,rx⟩:=Zdd r
 cases rx
 obtain⟨its,rv,pl,hz⟩:=I.list hq
 have ei:=Zh8 rv
 subst ei
 refine wpAny_call (Zn0 (sh:=sh) (I.ok.hd hc) (by omega) pl.isList (.inl ⟨rfl,rfl⟩) (fun t ht=>?_) hsh (.inl hne) fun h' t kp ht hmin=>?_)
 ·obtain⟨i,v,q,_⟩:=I.tuple (SqT.of (K:=X.K) (hat t ht))
  exact⟨i,v,q⟩
 ·exact⟨.ref t.1,H,I.kept (t':=s.toks) kp,rfl,q t ht hmin⟩
theorem ZsM(K:PySem.W.Frag){k:Nat}(hr:ZaV k X.A)(hc:X.calm=true:=by rfl)(h:X.K=K:=by rfl):ZaH X (.builtin "min") (Zp7 K):=by subst h;exact Zml hc hr.units
def tMinD(K:PySem.W.Frag)(te:TA):TE:=fun σ H Q=>te σ H fun vs H1=>∃ (p:Addr) (ts:Zfu) (sh:List Bool),vs=[.ref p]∧SqL K H1 p (Zgb ts)∧AtT H1 ts∧(∀t∈ts,ZbG t.2=sh)∧(ts=[]→Q .non H1) ∧
 ∀t:Addr×List Key,t∈ts→(∀u∈ts,Za8 u.2 t.2=false)→Q (.ref t.1) H1
end
def EqS(s:Shared)(items:List Value)(v:Value)(e:Nat→Bool):Prop:=∀ (prog:Program) (w:World) (A:Around) (E:Value→Shared→Prop) (Q:Bool→Shared→Prop) (m:Nat) (x:Value),A.units+2<cLine→items[m]? = some x→Q (e m) s→wpAny (model prog w) A (eqBool x v) Q E s
section
variable {X:Cx}
def rRemI:V→List V→Hp→VK→Prop:=fun x vs H Q=>∃ (l:Addr) (ns:List Int) (n:Int),x=.ref l∧vs=[.int n]∧H l=some (.lst (ns.map V.int))∧n∈ns∧ns.length≤1000∧Q .non (upd H l (.lst ((ns.erase n).map V.int)))
def rRemT:V→List V→Hp→VK→Prop:=fun x vs H Q=>∃ (l:Addr) (ts:Zfu) (t:Addr×List Key),x=.ref l∧vs=[.ref t.1]∧H l=some (.lst (Zgb ts))∧AtT H ts∧t∈ts∧ts.length≤1000∧∀ (i:Nat) (hi:i<ts.length),ts[i].2=t.2→Q .non (upd H l (.lst (Zgb (ts.eraseIdx i))))
end
section
open PySem.SeqAt
open PySem.AutoSeq1 (wpAny_loadPart')
open PySem.MeetsSeq PySem.MeetsSeq2 PySem.MeetsSeq3
end
section
variable {prog:Program} {w:World} {A:Around} {E:Value→Shared→Prop} {s:Shared}
end
section
variable {X:Cx}
def rGeK(K:PySem.W.Frag):R2:=fun x y H Q=>∃ (a b:Addr) (ks ms:List Key),x=.ref a∧y=.ref b∧SqT K H a (ks.map kV)∧SqT K H b (ms.map kV)∧ZbG ks=ZbG ms∧Q (.bl (!Za8 ks ms)) H
end
def rMaxL(K:PySem.W.Frag):List V→Hp→VK→Prop:=fun vs H Q=>∃ (p:Addr) (ns:List Int),vs=[.ref p]∧SqL K H p (ns.map V.int)∧0<ns.length∧∀M,M∈ns→(∀a∈ns,a≤M)→Q (.int M) H
def isNum(n:Int):Value→Bool
 | .int a _=>a == n
 | _=>false
section
variable {X:Cx}
def rCountI:V→List V→Hp→VK→Prop:=fun x vs H Q=>∃ (l:Addr) (ns:List Int) (n:Int),x=.ref l∧vs=[.int n]∧H l=some (.lst (ns.map V.int))∧Q (.int ((ns.count n:Nat):Int)) H
end
section
variable {X:Cx} {T name id:String} {r:V→List V→Hp→VK→Prop} {o e:Expr} {es:List Expr} {to:TE} {t:TA} {apos cpos:Pos}
end
def Zs4(s:Shared)(items:List Value)(v:Value)(e:Nat→Bool):Prop:=∀ (prog:Program) (w:World) (A:Around) (E:Value→Shared→Prop) (Q:Bool→Shared→Prop) (m:Nat) (x:Value),A.units+60<cLine→items[m]? = some x→Q (e m) s→wpAny (model prog w) A (eqBool x v) Q E s
section
variable {X:Cx}
def rRemD(K:PySem.W.Frag):V→List V→Hp→VK→Prop:=fun x vs H Q=>∃ (l:Addr) (xs:List V) (ds:List PyData) (y:V) (d:PyData) (i:Nat),x=.ref l∧vs=[y]∧H l=some (.lst xs)∧DVs K H xs ds∧DV K H y d∧(∀e∈ds,e.canLay0=true)∧d.canLay0=true∧d.depth≤56∧xs.length≤1000 ∧
 i<ds.length∧(∀e,ds[i]? = some e→PyData.eqv e d=true)∧(∀m e,m<i→ds[m]? = some e→PyData.eqv e d=false)∧Q .non (upd H l (.lst (xs.eraseIdx i)))
def rInD(K:PySem.W.Frag):R2:=fun x y H Q=>∃ (l:Addr) (xs:List V) (ds:List PyData) (d:PyData),y=.ref l∧SqL K H l xs∧DVs K H xs ds∧DV K H x d∧PyData.canLayAll0 ds=true∧SeqAt.shaped d=true∧d.depth≤60∧Q (.bl (ds.any fun e=>PyData.eqv e d)) H
def ZpR(K:PySem.W.Frag):List V→Hp→VK→Prop:=fun vs H Q=>∃ (p:Addr) (ns:List Int),vs=[.ref p]∧SqL K H p (ns.map V.int)∧ns.length≤1000∧(∀n∈ns,0≤n∧n≤10000000000000)∧Q (.int ns.sum) H
theorem Zmm(hc:X.calm=true):ZaH X (.builtin "sum") (ZpR X.K):=by
 intro pins s σ H vs us Q I r h
 obtain⟨p,ns,rfl,hq,hn,hb,q⟩:=h
 obtain⟨u,rfl,rx⟩:=Zdd r
 cases rx
 obtain⟨its,rv,pl,_⟩:=I.list hq
 have hi:=ZgP rv
 obtain⟨xs,e⟩:=hi.allInts.items
 have hns:ns=xs.toList.map (·.1):=by rw[← hi.numsOf,← nums_intItems,← e]
 have hsz:xs.size=ns.length:=by rw[hns,Qa,QaH]
 have hnum:numAt xs=fun j=>ns.getD j 0:=by funext j;rw[numAt_eq,hns]
 have hl:=pl.isList
 rw[e]at hl
 have bound:∀n,n≤ns.length→0≤(ns.take n).sum∧(ns.take n).sum≤10000000000000*n:=by
  intro n
  induction n with
  | zero=>intro _;exact⟨by simp,by simp⟩
  | succ n ih =>
   intro h
   have ih:=ih (by omega)
   have hm:=hb ns[n] (Q3 (by omega))
   have e2:ns.take (n+1)=ns.take n++[ns[n]]:=by rw[QH,Qb (by omega)];rfl
   rw[e2,List.sum_append]
   have e3:([ns[n]]:List Int).sum=ns[n]:=by simp
   rw[e3]
   omega
 refine sum_intList (I.ok.hd hc) hl (fun j hj=>?_) fun h' tk t' hk=>⟨.int _,H,I.kept hk,⟨t',rfl⟩,?_⟩
 ·rw[hnum]
  have hm:=hb ns[j] (Q3 (by omega))
  have hg:ns.getD j 0=ns[j]:=by rw[QF,Qb (by omega)];rfl
  have hp:=bound (j+1) (by omega)
  refine⟨⟨?_,?_⟩,⟨?_,?_⟩⟩
  ·show -(2 ^ 63)≤ns.getD j 0
   rw[hg];omega
  ·show ns.getD j 0<2 ^ 63
   rw[hg];omega
  ·rw[Zfd ns (j+1) (by omega)];omega
  ·rw[Zfd ns (j+1) (by omega)];omega
 ·rw[hnum,hsz,Zfd ns ns.length (Qg _),QD (Qg _)]
  exact q
theorem ZrS(K:PySem.W.Frag)(hc:X.calm=true:=by rfl)(h:X.K=K:=by rfl):ZaH X (.builtin "sum") (ZpR K):=by subst h;exact Zmm hc
end
section
variable {X:Cx}
def rIxD:R2:=fun x y H Q=>∃d kvs b ks v,x=.ref d∧y=.ref b∧H d=some (.dT kvs)∧H b=some (.tup (ks.map kV))∧ZjZ kvs ks=some v∧Q v H
def rSetDT:ZlI:=fun o i v H Q=>∃d kvs b ks,o=.ref d∧i=.ref b∧H d=some (.dT kvs)∧H b=some (.tup (ks.map kV))∧ZjZ kvs ks=none∧kvs.length<sizeLine∧Q (upd H d (.dT (kvs++[(ks,v)])))
end
abbrev IsZipG(h:Heap)(z TI TO:Addr)(f0:Value)(fl:Bool):Prop :=
 h.get? z=some { cls:=.type "zip",dict:=none,data:=.fields #[f0,.bool fl,.bool false,.ref TI,.ref TO],slots:=#[] }
section
variable {prog:Program} {w:World} {A:Around} {E:Value→Shared→Prop} {s:Shared}
end
section
variable {prog:Program} {w:World} {A:Around} {R:Result→Shared→Prop} {s:Shared}
end
def Zpf(J:It)(D:Addr)(ys:List V)(σ:St)(H:Hp)(g:TG)(te:TE)(N:List V→St→Hp→Prop):Prop :=
 ∃W:Nat→Nat→List V→St→Hp→Prop,(∃m,W 0 m ys σ H) ∧
  ∀i m ys σ2 H2,W i m ys σ2 H2→(J.stop i H2∧N ys σ2 H2) ∨
   (J.go i H2∧∃N2:List V→St→Hp→Prop,(∀ys' σ' H',N2 ys' σ' H'→∃m',m'<m∧W (i+1) m' ys' σ' H')∧∀x H3,J.yld i H2 x H3→g x σ2 H3 fun σ4 H4 =>
    te σ4 H4 fun y H6=>H6 D=some (.lst ys)∧ys.length<sizeLine∧N2 (ys++[y]) σ4 (upd H6 D (.lst (ys++[y]))))
def ZpO(J:It)(D:Addr)(k:Nat)(σ:St)(H1:Hp)(g:TG)(wi2:TI)(g2:TG)(te:TE)(Q:VK):Prop :=
 ∃W:Nat→Nat→List V→St→Hp→Prop,(∃m,W 0 m [] (σ++List.replicate k none) (upd H1 D (.lst []))) ∧
  ∀i m ys σ2 H2,W i m ys σ2 H2→(J.stop i H2∧Q (.ref D) H2) ∨
   (J.go i H2∧∃N:List V→St→Hp→Prop,(∀ys' σ' H',N ys' σ' H'→∃m',m'<m∧W (i+1) m' ys' σ' H')∧∀x H3,J.yld i H2 x H3→g x σ2 H3 fun σ4 H4=>wi2 σ4 H4 fun J2 H5=>Zpf J2 D ys σ4 H5 g2 te N)
def ZsZ(n:Nat)(wi:TI)(g:TG)(wi2:TI)(g2:TG)(te:TE):TE:=fun σ H Q=>wi σ H fun J H1=>∀D,H1 D=none→ZpO J D n σ H1 g wi2 g2 te Q
section
variable {X:Cx} {N N':List Str} {o c:Scope}
end
end L2
namespace Hf
open L2
abbrev PW:=List (Int×Nat)
def val(P:PW):Int:=(P.map fun p=>p.1*(p.2:Int)).sum
def ws(P:PW):List Int:=P.map (·.1)
def ds(P:PW):List Nat:=P.map (·.2)
def zs(z:Nat):List Int:=List.replicate z 0
def kr(w E:Nat)(D:List Nat):Nat:=(D.map fun d=>w ^ (E-d)).sum
def Kr(w:Nat)(D:List Nat):Prop:=∃E,(∀d∈D,d≤E)∧kr w E D=w ^ E
inductive Hu (w:Nat):List Int→Nat→Int→Prop
 | stop {e:Int} {m:Nat}:Hu w [e] m 0
 | step {E L:List Int} {m:Nat} {C:Int}:1<L.length→E.Perm L→L.Pairwise (·≤·)→Hu w (L.drop m++[(L.take m).sum]) w C→Hu w E m (C+(L.take m).sum)
def Fit(w n m:Nat):Prop:=n=1∨∃t,n=m+t*(w-1)
structure Fits (w n m:Nat):Prop where
 w2:2≤w
 m2:2≤m
 mw:m≤w
 ok:Fit w n m
end Hf
namespace L2
open PySem PySem.Spec PyProof.Rows
section
variable {prog:Program} {w:World} {A:Around} {R:Result→Shared→Prop} {s:Shared}
end
def Zqv(J:It)(D:Addr)(k:Nat)(σ:St)(H1:Hp)(g:TG)(tc:TT)(tk te:TE)(Q:VK):Prop :=
 ∃W:Nat→Nat→List (List Key×V)→St→Hp→Prop,(∃m,W 0 m [] (σ++List.replicate k none) (upd H1 D (.dT []))) ∧
  ∀i m ys σ2 H2,W i m ys σ2 H2→(J.stop i H2∧Q (.ref D) H2) ∨
   (J.go i H2∧∃N:List (List Key×V)→St→Hp→Prop,(∀ys' σ' H',N ys' σ' H'→∃m',m'<m∧W (i+1) m' ys' σ' H')∧∀x H3,J.yld i H2 x H3→g x σ2 H3 fun σ4 H4=>tc σ4 H4 fun b H5 =>
    if b=true then tk σ4 H5 fun kv H6=>te σ4 H6 fun y H7=>∃ (b:Addr) (ks:List Key),kv=.ref b∧H7 D=some (.dT ys)∧H7 b=some (.tup (ks.map kV))∧ZjZ ys ks=none∧ys.length<sizeLine∧N (ys++[(ks,y)]) σ4 (upd H7 D (.dT (ys++[(ks,y)]))) else N ys σ4 H5)
def tDComp(n:Nat)(wi:TI)(g:TG)(tc:TT)(tk te:TE):TE:=fun σ H Q=>wi σ H fun J H1=>∀D,H1 D=none→Zqv J D n σ H1 g tc tk te Q
section
variable {X:Cx} {N N':List Str} {o c:Scope}
end
section
variable {κ:Type} [DecidableEq κ]
def Z1(kvs:List (κ×V))(k:κ):Option V:=(kvs.find? fun kv=>decide (kv.1=k)).map (·.2)
def Zbn(kvs:List (κ×V))(k:κ)(v:V):List (κ×V) :=
 if (kvs.any fun kv=>decide (kv.1=k))=true then kvs.map (fun kv=>if kv.1=k then (kv.1,v) else kv) else kvs++[(k,v)]
def ZcH(kvs:List (κ×V))(k:κ):List (κ×V):=kvs.filter fun kv=>decide (kv.1≠k)
theorem Zr1{k:κ}:Z1 ([]:List (κ×V)) k=none:=rfl
theorem Zde{p:κ×V}{r:List (κ×V)}{k:κ}(e:p.1=k):Z1 (p::r) k=some p.2:=by simp[Z1,List.find?_cons,e]
theorem Zdh{p:κ×V}{r:List (κ×V)}{k:κ}(e:¬ p.1=k):Z1 (p::r) k=Z1 r k:=by simp[Z1,List.find?_cons,e]
theorem Zfh(k:κ):∀kvs:List (κ×V),(kvs.any fun kv=>decide (kv.1=k))=(Z1 kvs k).isSome
 | []=>rfl
 | p::r=>by
  rw[QaI]
  by_cases e:p.1=k
  ·simp only[Zde e,decide_eq_true e,Bool.true_or,Option.isSome_some]
  ·rw[Zdh e,decide_eq_false e,Bool.false_or];exact Zfh k r
theorem ZdY(kvs:List (κ×V))(k:κ)(v:V):(Zbn kvs k v).length≤kvs.length+1:=by
 unfold Zbn
 split
 ·rw[Qa];omega
 ·rw[Qf,QK,List.length_nil];omega
theorem Zb4{kvs:List (κ×V)}{k:κ}(v:V)(h:Z1 kvs k=none):Zbn kvs k v=kvs++[(k,v)]:=by
 unfold Zbn
 rw[Zfh,h]
 exact if_neg (by decide)
theorem ZdA.isSome_eq{o:Option V}{u:Option Value}(r:ZdA o u):o.isSome=u.isSome:=by
 cases o with
 | none=>cases u with
  | none=>rfl
  | some _=>exact(show False from r).elim
 | some _=>cases u with
  | none=>exact(show False from r).elim
  | some _=>rfl
theorem ZdA.getD{o:Option V}{u:Option Value}{d:V}{d':Value}(r:ZdA o u)(rd:ZI d d'):ZI (o.getD d) (u.getD d'):=by
 cases o with
 | none=>cases u with
  | none=>exact rd
  | some _=>exact(show False from r).elim
 | some _=>cases u with
  | none=>exact(show False from r).elim
  | some _=>exact r
theorem KV.val{kvs:List (κ×V)}{vs:List (κ×Value)}(r:KV kvs vs)(k:κ):ZdA (Z1 kvs k) (valueAt vs k):=by
 unfold KV at r
 induction r with
 | nil=>exact True.intro
 | @cons p q ps qs h t ih =>
  obtain⟨h1,h2⟩:=h
  by_cases e:p.1=k
  ·have e':q.1=k:=h1.symm.trans e
   have b:valueAt (q::qs) k=some q.2:=by simp[valueAt,List.find?_cons,e']
   rw[Zde e,b];exact h2
  ·have e':¬ q.1=k:=fun z=>e (h1.trans z)
   have b:valueAt (q::qs) k=valueAt qs k:=by simp[valueAt,List.find?_cons,e']
   rw[Zdh e,b];exact ih
theorem KV.any{kvs:List (κ×V)}{vs:List (κ×Value)}(r:KV kvs vs)(k:κ):(kvs.any fun kv=>decide (kv.1=k))=vs.any fun kv=>decide (kv.1=k):=by
 unfold KV at r
 induction r with
 | nil=>rfl
 | cons h t ih=>rw[QaI,QaI,ih,h.1]
theorem KV.repl{kvs:List (κ×V)}{vs:List (κ×Value)}(r:KV kvs vs)(k:κ){y:V}{u:Value}(ry:ZI y u) :
  KV (kvs.map fun kv=>if kv.1=k then (kv.1,y) else kv) (vs.map fun kv=>if kv.1=k then (kv.1,u) else kv):=by
 unfold KV at r ⊢
 induction r with
 | nil=>exact .nil
 | @cons p q ps qs h t ih =>
  rw[Qh,Qh]
  refine .cons ?_ ih
  obtain⟨h1,h2⟩:=h
  by_cases e:p.1=k
  ·rw[if_pos e,if_pos (h1.symm.trans e)];exact⟨h1,ry⟩
  ·rw[if_neg e,if_neg (fun z=>e (h1.trans z))];exact⟨h1,h2⟩
theorem KV.put{kvs:List (κ×V)}{vs:List (κ×Value)}(r:KV kvs vs)(k:κ){y:V}{u:Value}(ry:ZI y u):KV (Zbn kvs k y) (stored vs k u):=by
 unfold Zbn stored
 rw[r.any k]
 by_cases e:(vs.any fun kv=>decide (kv.1=k))=true
 ·rw[if_pos e,if_pos e];exact r.repl k ry
 ·rw[if_neg e,if_neg e];exact Paired.snoc r ⟨rfl,ry⟩
theorem KV.drop{kvs:List (κ×V)}{vs:List (κ×Value)}(r:KV kvs vs)(k:κ):KV (ZcH kvs k) (without vs k):=by
 unfold KV at r ⊢
 unfold ZcH without
 induction r with
 | nil=>exact .nil
 | @cons p q ps qs h t ih =>
  obtain⟨h1,h2⟩:=h
  rw[List.filter_cons,List.filter_cons]
  by_cases e:p.1=k
  ·have a:¬ decide (p.1≠k)=true:=by simp[e]
   have b:¬ decide (q.1≠k)=true:=by simp[h1.symm.trans e]
   rw[if_neg a,if_neg b];exact ih
  ·have e':¬ q.1=k:=fun z=>e (h1.trans z)
   have a:decide (p.1≠k)=true:=by simp[e]
   have b:decide (q.1≠k)=true:=by simp[e']
   rw[if_pos a,if_pos b];exact .cons ⟨h1,h2⟩ ih
theorem KV.length{kvs:List (κ×V)}{vs:List (κ×Value)}(r:KV kvs vs):kvs.length=vs.length:=Paired.length r
theorem ZmD(kvs:List (κ×V))(k:κ):(ZcH kvs k).length≤kvs.length:=Qaj _ _
end
theorem ZgA{P:Program}{w:World}{k:Key}{u:Value}(r:ZI (kV k) u):(ZN P w).is k u=true:=by
 cases k with
 | inl i=>obtain⟨t,e⟩:=(show ∃t,u=Value.int i t from r);subst e;exact ZjL P w i t
 | inr x=>obtain⟨t,e⟩:=(show ∃t,u=Value.str x t from r);subst e;exact Zj4 P w x t
theorem ZhJ{P:Program}{w:World}:∀ {ks:List Key} {us:List Value},ZG (ks.map kV) us→ItemsAre (ZN P w) ks us
 | [],_,r=>by rw[QaP]at r;cases r;exact .nil
 | k::ks,_,r=>by
  rw[Qh]at r
  cases r with
  | cons h t=>exact .cons (ZgA h) (ZhJ t)
abbrev KT(H:Hp):List (List Key×V)→List (List Key×Addr×Value)→Prop:=Paired fun p q=>p.1=q.1∧H q.2.1=some (.tup (p.1.map kV))∧ZI p.2 q.2.2
theorem KT.val{H:Hp}{kvs:List (List Key×V)}{xs:List (List Key×Addr×Value)}(r:KT H kvs xs)(k:List Key):ZdA (Z1 kvs k) ((atKey xs k).map (·.2)):=by
 induction r with
 | nil=>exact True.intro
 | @cons p q ps qs h t ih =>
  obtain⟨h1,_,h2⟩:=h
  by_cases e:p.1=k
  ·have e':q.1=k:=h1.symm.trans e
   have b:atKey (q::qs) k=some q.2:=by simp[atKey,List.find?_cons,e']
   rw[Zde e,b];exact h2
  ·have e':¬ q.1=k:=fun z=>e (h1.trans z)
   have b:atKey (q::qs) k=atKey qs k:=by simp[atKey,List.find?_cons,e']
   rw[Zdh e,b];exact ih
theorem KT.repl{H:Hp}{kvs:List (List Key×V)}{xs:List (List Key×Addr×Value)}(r:KT H kvs xs)(k:List Key){y:V}{u:Value}(ry:ZI y u) :
  KT H (kvs.map fun kv=>if kv.1=k then (kv.1,y) else kv) (xs.map (putAt k u)):=by
 induction r with
 | nil=>exact .nil
 | @cons p q ps qs h t ih =>
  rw[Qh,Qh]
  refine .cons ?_ ih
  obtain⟨h1,h2,h3⟩:=h
  unfold putAt
  by_cases e:p.1=k
  ·rw[if_pos e,if_pos (h1.symm.trans e)];exact⟨h1,h2,ry⟩
  ·rw[if_neg e,if_neg (fun z=>e (h1.trans z))];exact⟨h1,h2,h3⟩
theorem KT.put{H:Hp}{kvs:List (List Key×V)}{xs:List (List Key×Addr×Value)}(r:KT H kvs xs)(k:List Key){b:Addr}{y:V}{u:Value}(hb:H b=some (.tup (k.map kV)))(ry:ZI y u) :
  KT H (Zbn kvs k y) (storedH xs k b u):=by
 have e:(kvs.any fun kv=>decide (kv.1=k))=(atKey xs k).isSome:=by
  rw[Zfh,(r.val k).isSome_eq,Option.isSome_map]
 unfold Zbn storedH
 rw[e]
 by_cases q:(atKey xs k).isSome=true
 ·rw[if_pos q,if_pos q];exact r.repl k ry
 ·rw[if_neg q,if_neg q];exact Paired.snoc r ⟨rfl,hb,ry⟩
theorem KT.keeps{H H':Hp}{kvs:List (List Key×V)}{xs:List (List Key×Addr×Value)}(r:KT H kvs xs)(ht:∀b ys,H b=some (.tup ys)→H' b=some (.tup ys)):KT H' kvs xs :=
 Paired.mapP r fun _ _ z=>⟨z.1,ht _ _ z.2.1,z.2.2⟩
section
variable {P:Program} {w:World} {H:Hp} {h:Heap} {a:Addr}
theorem Zp6{u:HO}(ok:HOk P w H h)(e:Rd H a u):Z9 P w H h a u:=e.ok ok
theorem Zgo{kvs:List (Key×V)}(ok:HOk P w H h)(e:Rd H a (.dK kvs)):kvs.length≤sizeLine∧(a == sysModules)=false∧∃vs,KV kvs vs∧h.DictOf (ZN P w) a vs :=
 show Z9 P w H h a (.dK kvs) from Zp6 ok e
theorem Zom{kvs:List (Key×V)}(ok:HOk P w H h)(e:H a=some (.dK kvs)):kvs.length≤sizeLine∧(a == sysModules)=false∧∃vs,KV kvs vs∧h.DictOf (ZN P w) a vs:=Zgo ok (.inl e)
theorem ZgJ{ks:List Key}(ok:HOk P w H h)(e:H a=some (.tup (ks.map kV))):(tupleKind (ZN P w)).is h ks a:=by
 obtain⟨_,its,r,o,h1,h2,n,h3⟩:=(show Z9 P w H h a (.tup (ks.map kV)) from ok a _ e)
 exact⟨o,its.toArray,n,h1,h2,h3,by simpa using ZhJ r⟩
theorem ZhE{kvs:List (List Key×V)}(ok:HOk P w H h)(e:Rd H a (.dT kvs)):kvs.length≤sizeLine∧(a == sysModules)=false ∧
  ∃xs,KT H kvs xs∧h.DictOfH (tupleKind (ZN P w)) a xs:=by
 obtain⟨z,y,xs,r,o,es,ep,h1,h2,h3,h4,h5⟩:=(show Z9 P w H h a (.dT kvs) from Zp6 ok e)
 refine⟨z,y,xs,r,o,es,ep,h1,h2,h3,h4,fun x hx=>?_,h5⟩
 have all:∀ {l:List (List Key×V)} {m:List (List Key×Addr×Value)},KT H l m→∀x∈m,(tupleKind (ZN P w)).is h x.1 x.2.1:=by
  intro l m q
  induction q with
  | nil=>intro x hx;exact nomatch hx
  | @cons p q ps qs hq t ih =>
   intro x hx
   rcases QI.mp hx with e|hx
   ·subst e
    exact ZgJ ok (by rw[← hq.1];exact hq.2.1)
   ·exact ih x hx
 exact all r x hx
theorem Zsc{kvs:List (List Key×V)}(ok:HOk P w H h)(e:H a=some (.dT kvs)):kvs.length≤sizeLine∧(a == sysModules)=false ∧
  ∃xs,KT H kvs xs∧h.DictOfH (tupleKind (ZN P w)) a xs:=ZhE ok (.inl e)
end
def ZL(H:Hp)(a:Addr)(y:V)(r:Option V):Prop :=
 (∃kvs k,Rd H a (.dK kvs)∧y=kV k∧r=Z1 kvs k)∨∃kvs k b,Rd H a (.dT kvs)∧y=.ref b∧H b=some (.tup (k.map kV))∧r=Z1 kvs k
def Zb6(H:Hp)(a:Addr)(y v:V)(H':Hp):Prop :=
 (∃kvs k,H a=some (.dK kvs)∧y=kV k∧kvs.length<sizeLine∧H'=upd H a (.dK (Zbn kvs k v))) ∨
 ∃kvs k b,H a=some (.dT kvs)∧y=.ref b∧H b=some (.tup (k.map kV))∧kvs.length<sizeLine∧H'=upd H a (.dT (Zbn kvs k v))
theorem ZL.k{H:Hp}{a:Addr}{kvs:List (Key×V)}{k:Key}(e:H a=some (.dK kvs)):ZL H a (kV k) (Z1 kvs k):=.inl ⟨kvs,k,.inl e,rfl,rfl⟩
theorem ZL.t{H:Hp}{a b:Addr}{kvs:List (List Key×V)}{k:List Key}(e:H a=some (.dT kvs))(eb:H b=some (.tup (k.map kV))):ZL H a (.ref b) (Z1 kvs k):=.inr ⟨kvs,k,b,.inl e,rfl,eb,rfl⟩
theorem Zb6.k{H:Hp}{a:Addr}{kvs:List (Key×V)}{k:Key}{v:V}(e:H a=some (.dK kvs))(hl:kvs.length<sizeLine):Zb6 H a (kV k) v (upd H a (.dK (Zbn kvs k v))):=.inl ⟨kvs,k,e,rfl,hl,rfl⟩
theorem Zb6.t{H:Hp}{a b:Addr}{kvs:List (List Key×V)}{k:List Key}{v:V}(e:H a=some (.dT kvs))(eb:H b=some (.tup (k.map kV)))(hl:kvs.length<sizeLine) :
  Zb6 H a (.ref b) v (upd H a (.dT (Zbn kvs k v))):=.inr ⟨kvs,k,b,e,rfl,eb,hl,rfl⟩
section
variable {X:Cx} {pins:List (Addr×Obj)} {σ:St} {H:Hp} {s:Shared} {a:Addr} {y v:V} {u r:Value} {o:Option V} {A:Around} {E:Value→Shared→Prop}
theorem Inv.big(I:Inv X pins σ H s):sysModules<s.heap.objs.size:=by
 have h:mainGlobals<s.heap.objs.size:=(I.mod.glob.keeps I.bk).lt
 exact Nat.lt_trans (by decide) h
theorem Zl0{Q:Value→Shared→Prop}(hu:A.units+1<cLine)(I:Inv X pins σ H s)(g:ZL H a y (some v))(ry:ZI y u)(h:∀w' s',Inv X pins σ H s'→ZI v w'→Q w' s') :
  wpAny (model X.prog X.w) A (getItem (.ref a) u) Q E s:=by
 rcases g with⟨kvs,k,e,ey,l⟩|⟨kvs,k,b,e,ey,eb,l⟩
 ·subst ey
  obtain⟨z,hd,vs,rel,dd⟩:=Zgo I.hok e
  obtain⟨w',hw,rw'⟩:=ZdA.some_of (v:=v) (o:=valueAt vs k) (by rw[l];exact rel.val k)
  exact wpAny_getItem_of (ZgA ry) dd.mapOf hw (h w' _ (I.tok _) rw')
 ·subst ey
  cases (show u=Value.ref b from ry)
  obtain⟨z,hd,xs,rel,dd⟩:=ZhE I.hok e
  obtain⟨w',hw,rw'⟩:=ZdA.some_of (v:=v) (o:=(atKey xs k).map (·.2)) (by rw[l];exact rel.val k)
  obtain⟨p,hp,hp2⟩:=QaQ.mp hw
  refine wpAny_getItem_heap (tupleKind_room_in1 hu) (ZgJ I.hok eb) dd hp ?_
  rw[hp2]
  exact h w' _ (I.tok _) rw'
theorem Zpv{Q:Value→Shared→Prop}(hu:A.units+1<cLine)(I:Inv X pins σ H s)(g:ZL H a y o)(ry:ZI y u)(h:∀s',Inv X pins σ H s'→Q (.bool (!o.isSome)) s') :
  wpAny (model X.prog X.w) A (compareOp .NotIn u (.ref a)) Q E s:=by
 rcases g with⟨kvs,k,e,ey,l⟩|⟨kvs,k,b,e,ey,eb,l⟩
 ·subst ey
  obtain⟨z,hd,vs,rel,dd⟩:=Zgo I.hok e
  refine wpAny_notIn_of (ZgA ry) hd dd.mapOf ?_
  rw[← (rel.val k).isSome_eq,← l]
  exact h _ (I.tok _)
 ·subst ey
  cases (show u=Value.ref b from ry)
  obtain⟨z,hd,xs,rel,dd⟩:=ZhE I.hok e
  refine wpAny_notIn_heap (tupleKind_room_in1 hu) (ZgJ I.hok eb) hd dd ?_
  have q:=(rel.val k).isSome_eq
  rw[Option.isSome_map]at q
  rw[← q,← l]
  exact h _ (I.tok _)
theorem Zgd{h':Heap}{t':Nat}{ob:HO}(I:Inv X pins σ H s)(mu:Mut (H a))(hs:Heap.SameBut a s.heap h')(he:∃q,h'.get? a=some q)(new:Z9 X.prog X.w (upd H a ob) h' a ob) :
  Inv X pins σ (upd H a ob) { s with heap:=h',toks:=t' } :=
 I.write (x:=a) (e:=a) mu (.inl rfl) (fun b q hb z=>(hs.2 b hb).trans z) he new
theorem ZkH{P:Program}{w:World}{H':Hp}{h':Heap}{kvs:List (Key×V)}{vs:List (Key×Value)}(z:kvs.length≤sizeLine)(hd:(a == sysModules)=false)(rel:KV kvs vs)(dd:h'.DictOf (ZN P w) a vs) :
  Z9 P w H' h' a (.dK kvs):=⟨z,hd,vs,rel,dd⟩
theorem Zmo{H':Hp}{Q:Unit→Shared→Prop}(hu:A.units+1<cLine)(I:Inv X pins σ H s)(g:Zb6 H a y v H')(ry:ZI y u)(rv:ZI v r)(h:∀s',Inv X pins σ H' s'→Q () s') :
  wpAny (model X.prog X.w) A (setItem (.ref a) u r) Q E s:=by
 rcases g with⟨kvs,k,e,ey,l,eH⟩|⟨kvs,k,b,e,ey,eb,l,eH⟩
 ·subst ey eH
  obtain⟨z,hd,vs,rel,dd⟩:=Zom I.hok e
  have hz:vs.length≤sizeLine:=by rw[← rel.length];exact z
  have hl:(Zbn kvs k v).length≤sizeLine:=by have:=ZdY kvs k v;omega
  refine wpAny_setItem_pairs (hsz:=hz) (ZgA ry) dd fun h' dd' hs=>h _ ?_
  have he:∃q,h'.get? a=some q:=let ⟨q,_,_,hq,_⟩:=dd';⟨q,hq⟩
  exact Zgd I (by rw[e];exact True.intro) hs he (ZkH hl hd (rel.put k rv) dd')
 ·subst ey eH
  cases (show u=Value.ref b from ry)
  obtain⟨z,hd,xs,rel,dd⟩:=Zsc I.hok e
  have hz:xs.length≤sizeLine:=by rw[← Paired.length rel];exact z
  have hl:(Zbn kvs k v).length≤sizeLine:=by have:=ZdY kvs k v;omega
  refine wpAny_setItem_heap (hsz:=hz) (tupleKind_room_in1 hu) (ZgJ I.hok eb) dd fun h' dd' hs=>h _ ?_
  obtain⟨q,es,ep,hq,h2,h3,h4,_,h5⟩:=dd'
  refine Zgd I (by rw[e];exact True.intro) hs ⟨q,hq⟩ ⟨hl,hd,_,(rel.put k eb rv).keeps fun c ys ec=>?_,q,es,ep,hq,h2,h3,h4,h5⟩
  rw[Zc (ZmS ec e (fun z=>nomatch z))]
  exact ec
end
section
variable {X:Cx} {pins:List (Addr×Obj)} {σ:St} {H:Hp} {s:Shared} {a:Addr} {kvs:List (Key×V)} {k:Key} {u:Value} {A:Around} {E:Value→Shared→Prop}
theorem Zso{v:V}{more:List Value}{Q:Value→Shared→Prop}(I:Inv X pins σ H s)(e:H a=some (.dK kvs))(ry:ZI (kV k) u)(l:Z1 kvs k=some v)(hm:more=[]∨∃x,more=[x])
  (h:∀w' s',Inv X pins σ (upd H a (.dK (ZcH kvs k))) s'→ZI v w'→Q w' s'):wpAny (model X.prog X.w) A (call (.builtin "dict.pop") (.ref a::u::more)) Q E s:=by
 obtain⟨z,hd,vs,rel,dd⟩:=Zom I.hok e
 obtain⟨w',hw,rw'⟩:=ZdA.some_of (v:=v) (o:=valueAt vs k) (by rw[← l];exact rel.val k)
 have hp:(keyPart u).isSome=true:=by
  cases k with
  | inl i=>obtain⟨t,q⟩:=(show ∃t,u=Value.int i t from ry);subst q;rfl
  | inr x=>obtain⟨t,q⟩:=(show ∃t,u=Value.str x t from ry);subst q;rfl
 have ha:argsOk "dict.pop" ⟨.ref a::u::more,[]⟩:=by
  rcases hm with q|⟨x,q⟩
  ·subst q;exact PySem.F.args_dict_pop_2 _ _
  ·subst q;exact PySem.F.args_dict_pop_3 _ _ _
 refine call_meetsIn Qaw dd.typeIs PySem.F.entry_dict_pop ha (meets_dict_pop_there (ZN X.prog X.w) a (ZgA ry) more hm hp)
  ⟨vs,w',dd,by rw[← rel.length];exact z,hw,fun h' dd' hs=>h w' _ ?_ rw'⟩
 have he:∃q,h'.get? a=some q:=let ⟨q,_,_,hq,_⟩:=dd';⟨q,hq⟩
 exact Zgd I (by rw[e];exact True.intro) hs he (ZkH (Qy (ZmD kvs k) z) hd (rel.drop k) dd')
theorem Zrn{Q:Value→Shared→Prop}(I:Inv X pins σ H s)(e:Rd H a (.dK kvs))(h:∀t s',Inv X pins σ H s'→Q (.int kvs.length t) s'):wpAny (model X.prog X.w) A (call (.builtin "len") [.ref a]) Q E s:=by
 obtain⟨z,hd,vs,rel,dd⟩:=Zgo I.hok e
 refine call_len_dict hd dd (by rw[← rel.length];rw[sizeLine_eq]at z;omega) ?_
 rw[← rel.length]
 exact h _ _ (I.tok _)
end
def NoSl(i:Expr):Prop:=∀ov iv,subscripted i false ov iv=operate [ov,iv] (getItem ov iv)
theorem Zj6{X:Cx}{pins:List (Addr×Obj)}{σ:St}{H:Hp}{s:Shared}{a:Addr}{y:V}{o:Option V}(I:Inv X pins σ H s)(g:ZL H a y o):s.TypeIs (.ref a) "dict":=by
 rcases g with⟨kvs,k,e,_,_⟩|⟨kvs,k,b,e,_,_,_⟩
 ·obtain⟨_,_,vs,_,dd⟩:=Zgo I.hok e
  exact dd.typeIs
 ·obtain⟨_,_,xs,_,dd⟩:=ZhE I.hok e
  exact dd.typeIs
def tDGet(td ty:TE):TE:=fun σ H Q=>td σ H fun x H1=>ty σ H1 fun y H2=>∃a v,x=.ref a∧ZL H2 a y (some v)∧Q v H2
def tDIn(ty td:TE):TE:=fun σ H Q=>ty σ H fun y H1=>td σ H1 fun x H2=>∃a o,x=.ref a∧ZL H2 a y o∧Q (.bl o.isSome) H2
def tDNotIn(ty td:TE):TE:=fun σ H Q=>ty σ H fun y H1=>td σ H1 fun x H2=>∃a o,x=.ref a∧ZL H2 a y o∧Q (.bl (!o.isSome)) H2
def sDPut(td ty tv:TE):TS:=fun D σ H=>tv σ H fun v H1=>td σ H1 fun x H2=>ty σ H2 fun y H3=>∃a H4,x=.ref a∧Zb6 H3 a y v H4∧D.nx σ H4
def sDAug(td ty tv:TE)(rd:V→V→Hp→VK→Prop):TS:=fun D σ H=>td σ H fun x H1=>ty σ H1 fun y H2=>∃a v,x=.ref a∧ZL H2 a y (some v) ∧
 tv σ H2 fun y2 H3=>rd v y2 H3 fun z H4=>∃H5,Zb6 H4 a y z H5∧D.nx σ H5
def sDDel(td ty:TE):TS:=fun D σ H=>td σ H fun x H1=>ty σ H1 fun y H2=>∃a kvs k,x=.ref a∧H2 a=some (.dK kvs)∧y=kV k∧(Z1 kvs k).isSome=true∧D.nx σ (upd H2 a (.dK (ZcH kvs k)))
section
variable {X:Cx} {o i e value:Expr} {pos pos' tpos:Pos} {td ty tv:TE}
end
theorem ZjT{P:Program}{w:World}{H:Hp}(h:Heap)(hb:sysModules<h.objs.size):Z9 P w H (h.push { cls:=.type "dict",data:=.dict #[] }) h.objs.size (.dK []) :=
 ⟨Qv _,beq_eq_false_iff_ne.mpr (Ne.symm (QC hb)),[],.nil,Heap.DictOf.new h⟩
def ZqE:TE:=fun _ H Q=>∀p,H p=none→Q (.ref p) (upd H p (.dK []))
def tDNewT:TE:=fun _ H Q=>∀p,H p=none→Q (.ref p) (upd H p (.dT []))
section
variable {X:Cx} {pos:Pos}
theorem Ze5:PE X (.Dict [] [] pos) ZqE:=fun pins s σ H Q I h =>
 wpAny_Dict_empty ⟨.ref s.heap.objs.size,_,I.laid (a:=s.heap.objs.size) (o:=.dK []) (t':=s.toks) (fun _ _ q=>Qc _ q) (Qg _) (ZjT s.heap I.big),rfl,h _ (I.hok.fresh (Qg _))⟩
end
def ZkC:List (TE×TE)→St→Hp→(List (V×V)→Hp→Prop)→Prop
 | [],_,H,Q=>Q [] H
 | (tk,tv)::r,σ,H,Q=>tk σ H fun x H1=>tv σ H1 fun y H2=>ZkC r σ H2 fun ps H3=>Q ((x,y)::ps) H3
abbrev VV:List (V×V)→List (Value×Value)→Prop:=Paired fun p q=>ZI p.1 q.1∧ZI p.2 q.2
def PPs(X:Cx)(pos:Pos)(keys:List (Option Expr))(values:List Expr)(trs:List (TE×TE)):Prop :=
 ∀ (pins:List (Addr×Obj)) (s:Shared) (σ:St) (H:Hp) (Q:List (V×V)→Hp→Prop),Inv X pins σ H s→ZkC trs σ H Q →
  wpAny (model X.prog X.w) X.A (evalPairs (pairTrees keys values X.env pos)) (fun vs s'=>∃ps H',Inv X pins σ H' s'∧VV ps vs∧Q ps H') X.xe s
theorem ZoD{X:Cx}{pos:Pos}:PPs X pos [] [] []:=fun pins s σ H Q I h=>pairTrees_nil_walk ⟨[],H,I,.nil,h⟩
theorem ZdW{X:Cx}{pos:Pos}{k v:Expr}{ks:List (Option Expr)}{vs:List Expr}{tk tv:TE}{trs:List (TE×TE)}(hk:PE X k tk)(hv:PE X v tv)(hr:PPs X pos ks vs trs) :
  PPs X pos (some k::ks) (v::vs) ((tk,tv)::trs):=fun pins s σ H Q I h =>
 pairTrees_cons_walk (thn (hk pins s σ H _ I h) fun u s1 ⟨x,H1,I1,rx,q1⟩=>thn (hv pins s1 σ H1 _ I1 q1) fun w2 s2 ⟨y,H2,I2,ry,q2⟩=>
  thn (hr pins s2 σ H2 _ I2 q2) fun ws s3 ⟨ps,H3,I3,rel,q3⟩=>⟨(x,y)::ps,H3,I3,.cons ⟨rx,ry⟩ rel,q3⟩)
def ZcQ(kvs more:List (Key×V)):List (Key×V):=more.foldl (fun acc kv=>Zbn acc kv.1 kv.2) kvs
theorem KV.merge:∀ {more:List (Key×V)} {rs:List (Key×Value)} {kvs:List (Key×V)} {vs:List (Key×Value)},KV more rs→KV kvs vs→KV (ZcQ kvs more) (merged vs rs):=by
 intro more rs kvs vs r
 unfold KV at r
 induction r generalizing kvs vs with
 | nil=>intro q;exact q
 | @cons p q ps qs h t ih =>
  intro r0
  have e:KV (Zbn kvs p.1 p.2) (stored vs q.1 q.2):=by
   have:=r0.put p.1 h.2
   rw[← h.1];exact this
  exact ih e
theorem ZeJ:∀ (more kvs:List (Key×V)),(ZcQ kvs more).length≤kvs.length+more.length
 | [],kvs=>by show kvs.length≤kvs.length+0;omega
 | p::r,kvs=>by
  have h1:=ZeJ r (Zbn kvs p.1 p.2)
  have h2:=ZdY kvs p.1 p.2
  show (ZcQ (Zbn kvs p.1 p.2) r).length≤_
  rw[QK];omega
theorem ZgS{P:Program}{w:World}:∀ {kvs:List (Key×V)} {ws:List (Value×Value)},VV (kvs.map fun kv=>(kV kv.1,kv.2)) ws→∃rs,Carries (ZN P w) ws rs∧KV kvs rs
 | [],_,r=>by rw[QaP]at r;cases r;exact⟨[],True.intro,.nil⟩
 | p::kvs,_,r=>by
  rw[Qh]at r
  cases r with
  | @cons a b as bs h t =>
   obtain⟨rs,c,q⟩:=ZgS (P:=P) (w:=w) t
   obtain⟨b1,b2⟩:=b
   exact⟨(p.1,b2)::rs,⟨ZgA h.1,rfl,c⟩,.cons ⟨rfl,h.2⟩ q⟩
def Zr3(trs:List (TE×TE)):TE:=fun σ H Q=>∀p,H p=none→ZkC trs σ (upd H p (.dK [])) fun ps H2=>H2 p=some (.dK [])∧∃kvs:List (Key×V),ps=kvs.map (fun kv=>(kV kv.1,kv.2))∧kvs.length≤15∧Q (.ref p) (upd H2 p (.dK (ZcQ [] kvs)))
theorem Zpk{X:Cx}{pos:Pos}{keys:List (Option Expr)}{values:List Expr}{trs:List (TE×TE)}(h:PPs X pos keys values trs)(hall:keys.all (·.isSome)=true)(hl:keys.length=values.length)(h0:keys≠[])
  (h15:keys.length≤15):PE X (.Dict keys values pos) (Zr3 trs):=by
 intro pins s σ H Q I q
 have hn:=I.hok.fresh (Qg s.heap.objs.size)
 have I1:=I.laid (a:=s.heap.objs.size) (o:=.dK []) (h':=s.heap.push { cls:=.type "dict",data:=.dict #[] }) (t':=s.toks) (fun _ _ q=>Qc _ q) (Qg _) (ZjT s.heap I.big)
 refine wpAny_Dict_walk (knd:=ZN X.prog X.w) hall hl h0 h15 (thn (h pins _ σ _ _ I1 (q _ hn)) ?_)
 rintro ws s2 ⟨ps,H2,I2,rel,e,kvs,ep,lk,q2⟩
 subst ep
 obtain⟨rs,c,rk⟩:=ZgS (P:=X.prog) (w:=X.w) rel
 obtain⟨z,hd,vs0,r0,dd⟩:=Zom I2.hok e
 cases r0
 refine⟨rs,c,dd,fun h' dd' hs=>⟨.ref s.heap.objs.size,_,?_,rfl,q2⟩⟩
 have hz:(ZcQ [] kvs).length≤sizeLine:=by
  have h1:=ZeJ kvs []
  rw[List.length_nil]at h1
  rw[sizeLine_eq];omega
 have he:∃q,h'.get? s.heap.objs.size=some q:=let ⟨q,_,_,hq,_⟩:=dd';⟨q,hq⟩
 exact Zgd I2 (by rw[e];exact True.intro) hs he (ZkH hz hd (rk.merge .nil) dd')
structure M1 (X:Cx) (o:Expr) (m:Str) (apos:Pos) (e:Expr) (cpos:Pos):Prop where
 base:attributeBase o m X.env (eval o X.env)=eval o X.env
 few:((backTo cpos (starEach [e] X.env)).all (fun x=>!x.1)&&(backToKw cpos (keywordEach [] X.env)).all (fun x=>x.1.isSome)
  && decide (([e]:List Expr).length+([]:List Keyword).length+(if ([]:List Keyword).isEmpty then 0 else 1)<30))=true
 line:(apos.endLine == cpos.line)=true
 trees:backTo cpos (starEach [e] X.env)=[(false,eval e X.env)]
structure M2 (X:Cx) (o:Expr) (m:Str) (apos:Pos) (e f:Expr) (cpos:Pos):Prop where
 base:attributeBase o m X.env (eval o X.env)=eval o X.env
 few:((backTo cpos (starEach [e,f] X.env)).all (fun x=>!x.1)&&(backToKw cpos (keywordEach [] X.env)).all (fun x=>x.1.isSome)
  && decide (([e,f]:List Expr).length+([]:List Keyword).length+(if ([]:List Keyword).isEmpty then 0 else 1)<30))=true
 line:(apos.endLine == cpos.line)=true
 trees:backTo cpos (starEach [e,f] X.env)=[(false,eval e X.env),(false,eval f X.env)]
def IsD(H:Hp)(a:Addr):Prop:=(∃kvs,Rd H a (.dK kvs))∨∃kvs,Rd H a (.dT kvs)
theorem Zrd{X:Cx}{pins:List (Addr×Obj)}{σ:St}{H:Hp}{s:Shared}{a:Addr}(I:Inv X pins σ H s)(d:IsD H a) :
  s.TypeIs (.ref a) "dict"∧(∀b,Value.ref a=.ref b→∃ob,s.heap.get? b=some ob∧ob.dict=none)∧(a == sysModules)=false:=by
 rcases d with⟨kvs,e⟩|⟨kvs,e⟩
 ·obtain⟨_,hd,vs,_,dd⟩:=Zgo I.hok e
  refine⟨dd.typeIs,fun b q=>?_,hd⟩
  cases q
  obtain⟨ob,_,_,h1,h2,_⟩:=dd
  exact⟨ob,h1,h2.2.1⟩
 ·obtain⟨_,hd,xs,_,dd⟩:=ZhE I.hok e
  refine⟨dd.typeIs,fun b q=>?_,hd⟩
  cases q
  obtain⟨ob,_,_,h1,h2,_⟩:=dd
  exact⟨ob,h1,h2.2.1⟩
section
variable {X:Cx} {pins:List (Addr×Obj)} {σ:St} {H:Hp} {s:Shared} {a:Addr} {y d:V} {u r:Value} {o:Option V} {A:Around} {E:Value→Shared→Prop}
theorem Zq9{Q:Value→Shared→Prop}(hu:A.units+1<cLine)(I:Inv X pins σ H s)(g:ZL H a y o)(ry:ZI y u)(h:∀w' s',Inv X pins σ H s'→ZI (o.getD .non) w'→Q w' s') :
  wpAny (model X.prog X.w) A (call (.builtin "dict.get") [.ref a,u]) Q E s:=by
 rcases g with⟨kvs,k,e,ey,l⟩|⟨kvs,k,b,e,ey,eb,l⟩
 ·subst ey
  obtain⟨z,hd,vs,rel,dd⟩:=Zgo I.hok e
  refine call_meetsIn PySem.F.slot_dict_get dd.typeIs PySem.F.entry_dict_get (PySem.F.args_dict_get_2 _ _) (meets_dict_get (ZN X.prog X.w) a (ZgA ry) hd) ⟨_,dd.mapOf,h _ _ (I.tok _) ?_⟩
  rw[l]
  exact(rel.val k).getD rfl
 ·subst ey
  cases (show u=Value.ref b from ry)
  obtain⟨z,hd,xs,rel,dd⟩:=ZhE I.hok e
  refine call_meetsIn PySem.F.slot_dict_get dd.typeIs PySem.F.entry_dict_get (PySem.F.args_dict_get_2 _ _) (meetsH_dict_get (tupleKind (ZN X.prog X.w)) a b hd) ⟨tupleKind_room_in1 hu,k,xs,ZgJ I.hok eb,dd,h _ _ (I.tok _) ?_⟩
  rw[l]
  exact(rel.val k).getD rfl
end
def Zoe(td ty:TE):TE:=fun σ H Q=>td σ H fun x H1=>∃a,x=.ref a∧IsD H1 a∧ty σ H1 fun y H2=>∃o,ZL H2 a y o∧Q (o.getD .non) H2
def Zsx(td ty tx:TE):TE:=fun σ H Q=>td σ H fun x H1=>∃a,x=.ref a∧IsD H1 a∧ty σ H1 fun y H2=>tx σ H2 fun z H3=>∃o,ZL H3 a y o∧Q (o.getD z) H3
def Zsw(td ty:TE):TE:=fun σ H Q=>td σ H fun x H1=>∃a,x=.ref a∧IsD H1 a∧ty σ H1 fun y H2=>∃kvs k v,H2 a=some (.dK kvs)∧y=kV k∧Z1 kvs k=some v∧Q v (upd H2 a (.dK (ZcH kvs k)))
def Zss(td ty tx:TE):TE:=fun σ H Q=>td σ H fun x H1=>∃a,x=.ref a∧IsD H1 a∧ty σ H1 fun y H2=>tx σ H2 fun z H3=>∃kvs k,H3 a=some (.dK kvs)∧y=kV k ∧
 (∀v,Z1 kvs k=some v→Q v (upd H3 a (.dK (ZcH kvs k))))∧(Z1 kvs k=none→Q z H3)
section
variable {X:Cx} {o e f:Expr} {apos cpos:Pos} {td ty tx:TE}
theorem Zm3(hu:X.A.units+1<cLine)(ho:PE X o td)(he:PE X e ty)(m:M1 X o "get" apos e cpos):PE X (.Call (.Attribute o "get" apos) [e] [] cpos) (Zoe td ty):=by
 intro pins s σ H Q I h
 refine wpAny_Call_method m.base m.few m.line QX PySem.F.slot_dict_get PySem.F.type_dict_get (thn (ho pins s σ H _ I h) ?_)
 rintro u s1 ⟨x,H1,I1,rx,a,ex,d,q1⟩
 subst ex
 obtain rfl:u=Value.ref a:=rx
 obtain⟨t1,t2,_⟩:=Zrd I1 d
 refine⟨t1,t2,?_⟩
 rw[m.trees]
 refine Calls.callWith_builtin rfl (Calls.evalArgs_plain (Calls.spliced_cons (thn (he pins s1 σ H1 _ I1 q1) fun iv s2 ⟨y,H2,I2,ry,ov,g,q2⟩=>Calls.spliced_nil ?_)))
 exact Zq9 hu I2 g ry fun w' s3 I3 rw'=>⟨_,H2,I3,rw',q2⟩
end
section
variable {X:Cx} {pins:List (Addr×Obj)} {σ:St} {H:Hp} {s:Shared} {a:Addr} {kvs:List (Key×V)} {A:Around} {E:Value→Shared→Prop}
end
section
variable {X:Cx} {pins:List (Addr×Obj)} {σ:St} {H:Hp} {s:Shared} {a:Addr} {y:V} {u:Value} {A:Around} {E:Value→Shared→Prop}
end
section
variable {X:Cx}
theorem Zmd:ZaH X (.builtin "len") (fun xs H Q=>∃a kvs,xs=[V.ref a]∧H a=some (.dK kvs)∧Q (.int kvs.length) H):=by
 intro pins s σ H xs us Q I r h
 obtain⟨a,kvs,rfl,ha,q⟩:=h
 obtain⟨u,rfl,ru⟩:=Zdd r
 cases ru
 exact Zrn I (.inl ha) fun t s' I'=>⟨.int kvs.length,H,I',⟨t,rfl⟩,q⟩
end
section
variable {κ:Type} [DecidableEq κ]
theorem ZpP{kvs:List (κ×V)}{k:κ}{v:V}(h:Z1 kvs k=some v):k∈kvs.map (·.1):=by
 have q:(kvs.any fun kv=>decide (kv.1=k))=true:=by
  rw[Zfh,h]
  all_goals rfl
 obtain⟨p,hp,e⟩:=List.any_eq_true.mp q
 exact List.mem_map.mpr ⟨p,hp,of_decide_eq_true e⟩
end
structure Mf (P:Program) (w:World) (K:PySem.W.Frag) (mg:Str→Option Value) (base:Heap) (k:Nat) (C:Addr) (m:Str) (ps:List Str) (sp:Sp):Prop where
 ex:∃f fd,ZeE P w K mg base CX0 k f fd ps sp∧Zne K C m f∧Zcy K fd ps []
structure Cf (P:Program) (w:World) (K:PySem.W.Frag) (mg:Str→Option Value) (base:Heap) (k:Nat) (C:Addr) (x:Str) (ps:List Str) (sp:Sp):Prop where
 ex:∃f fd,ZeE P w K mg base CX0 k f fd ps sp∧Mk K C f∧Zcy K fd ps []∧mg x=some (.ref C)
structure ZcP (K:PySem.W.Frag) (C:Addr) (m qual:Str) (st:Stmt) (ps:List Str):Prop where
 ex:∃f fd,Fun K m qual st f fd∧Zne K C m f∧Zcy K fd ps []
structure ZpH (K:PySem.W.Frag) (mg:Str→Option Value) (C:Addr) (x qual:Str) (st:Stmt) (ps:List Str):Prop where
 ex:∃f fd,Fun K "__init__" qual st f fd∧Mk K C f∧Zcy K fd ps []∧mg x=some (.ref C)
section
variable {P:Program} {w:World} {K:PySem.W.Frag} {mg:Str→Option Value} {base:Heap}
theorem ZcP.mf{C:Addr}{m qual:Str}{st:Stmt}{N ps:List Str}{k:Nat}{sp:Sp}(T:ZcP K C m qual st ps)(S:Zq N ps (Zg st))(len:∀vs H Q E,sp vs H Q E→vs.length=ps.length)
  (hbody:∀ (cdv:Value) (f:Addr) (A:Around) (outer:List Env) (s:Shared) (H:Hp) (vs:List V) (Q:VK) (E:XK),ZaV k (A.deeper (envOfC qual (Zg st) s.heap.objs.size f cdv))→sp vs H Q E →
   ∃t,PSs (ZiH CX0 P w K mg base N qual (Zg st) f cdv A outer s H E).nox (Zn st) t∧t { nx:=fun _ H'=>Q .non H',rt:=Q } (Zd2 N vs) H):Mf P w K mg base (k+1) C m ps sp:=by
 obtain⟨f,fd,F,m,b⟩:=T.ex
 exact⟨f,fd,F.ok S len (fun cdv A outer s H vs Q E hr h=>hbody cdv f A outer s H vs Q E hr h),m,b⟩
theorem ZpH.cf{C:Addr}{x qual:Str}{st:Stmt}{N ps:List Str}{k:Nat}{sp:Sp}(T:ZpH K mg C x qual st ps)(S:Zq N ps (Zg st))(len:∀vs H Q E,sp vs H Q E→vs.length=ps.length)
  (hbody:∀ (cdv:Value) (f:Addr) (A:Around) (outer:List Env) (s:Shared) (H:Hp) (vs:List V) (Q:VK) (E:XK),ZaV k (A.deeper (envOfC qual (Zg st) s.heap.objs.size f cdv))→sp vs H Q E →
   ∃t,PSs (ZiH CX0 P w K mg base N qual (Zg st) f cdv A outer s H E).nox (Zn st) t∧t { nx:=fun _ H'=>Q .non H',rt:=Q } (Zd2 N vs) H):Cf P w K mg base (k+1) C x ps sp:=by
 obtain⟨f,fd,F,m,b,g⟩:=T.ex
 exact⟨f,fd,F.ok S len (fun cdv A outer s H vs Q E hr h=>hbody cdv f A outer s H vs Q E hr h),m,b,g⟩
end
section
variable {X:Cx} {k j:Nat} {C:Addr} {m x:Str} {ps:List Str} {sp:Sp} {o e:Expr} {es:List Expr} {ta:TE} {t:TA} {p apos pos:Pos} {pl:Sem Bool}
theorem ZcG(F:Mf X.prog X.w X.K X.mg X.base k C m ps sp)(c:Cls X.K C)(hr:ZaV j X.A)(he:PE X o ta)(ha:PA X (e::es) t)(hjk:k≤j:=by decide)
  (hst:starEach (e::es) X.env=(false,eval e X.env)::starEach es X.env:=by rfl) (hpl:(backTo pos (starEach es X.env)).any (·.1)=false:=by rfl)
  (ht:eval (.Call (.Attribute o m apos) (e::es) [] pos) X.env=(do
   let ov ← eval o X.env
   standAt apos.atName
   let (f,first) ← holding [ov] (getMethod ov m pl)
   callWith pos f first (backTo pos (starEach (e::es) X.env)) (backToKw pos (keywordEach [] X.env))):=by rfl) :
  PE X (.Call (.Attribute o m apos) (e::es) [] pos) (ZkZ C m sp [] E0 ta t):=by
 obtain⟨f,fd,F,g,b⟩:=F.ex
 exact ZoQ he c g F (hr.mono hjk) b .nil Zlc ha hst hpl ht
theorem Zav(F:Mf X.prog X.w X.K X.mg X.base k C m ps sp)(c:Cls X.K C)(hr:ZaV j X.A)(he:PE X o ta)(hjk:k≤j:=by decide)
  (ht:eval (.Call (.Attribute o m apos) [] [] pos) X.env=(do
   let ov ← eval o X.env
   standAt apos.atName
   let (f,first) ← holding [ov] (getMethod ov m pl)
   callWith pos f first (backTo pos (starEach [] X.env)) (backToKw pos (keywordEach [] X.env))):=by rfl) :
  PE X (.Call (.Attribute o m apos) [] [] pos) (ZkZ C m sp [] E0 ta ZpN):=by
 obtain⟨f,fd,F,g,b⟩:=F.ex
 exact ZmL he c g F (hr.mono hjk) b .nil Zlc ht
theorem Zn2(F:Cf X.prog X.w X.K X.mg X.base k C x ps sp)(hr:ZaV j X.A)(ha:PA X (e::es) t)(hjk:k+1≤j:=by decide)(hg:Gl X x:=by rfl)(hdb:(x == ("__debug__" : Str))=false:=by decide)
  (he:starEach (e::es) X.env=(false,eval e X.env)::starEach es X.env:=by rfl) (hpl:(backTo pos (starEach es X.env)).any (·.1)=false:=by rfl) :
  PE X (.Call (.Name x p) (e::es) [] pos) (ZpT C sp [] E0 t):=by
 obtain⟨f,fd,F,g,b,gm⟩:=F.ex
 exact ZpM g F (hr.mono hjk) hg gm b .nil Zlc ha hdb he hpl
end
section
variable {X:Cx} {pins:List (Addr×Obj)} {σ:St} {H:Hp} {s:Shared} {d:Addr} {o:Obj} {u:HO}
theorem Inv.freeze(I:Inv X pins σ H s)(e:H d=some u)(mu:Mut (some u))(ho:s.heap.get? d=some o):Inv X pins σ (upd H d (.frz o u)) s:=by
 have h:=I.write (x:=d) (e:=d) (o:=.frz o u) (t':=s.toks) (h':=s.heap) (by rw[e];exact mu) (.inl rfl) (fun b v _ q=>q) ⟨o,ho⟩ ?_
 ·exact h
 ·refine⟨ho,(I.hok d u e).stay (fun b v _ q=>q) (fun b q=>?_) (fun b xs q=>?_)⟩
  ·rw[Zc (fun z=>by rw[z,e]at q;cases q;exact mu)];exact q
  ·rw[Zc (fun z=>by rw[z,e]at q;cases q;exact mu)];exact q
theorem Inv.nofrz(I:Inv X pins σ H s)(e:H d=some u)(mu:Mut (some u)):∀o' u',X.H₀ d≠some (.frz o' u'):=fun o' u' z=>by
 have:=I.base.frzs d o' u' z
 rw[e]at this
 cases this
 exact mu
theorem Inv.thaw(I:Inv X pins σ H s)(e:H d=some (.frz o u))(mu:Mut (some u))(n:∀o' u',X.H₀ d≠some (.frz o' u')):Inv X pins σ (upd H d u) s:=by
 have hne:∀b,H b=none→b≠d:=fun b z=>Zd (H:=H) e z |>.symm
 refine⟨I.ok,I.os,I.bare,⟨I.base.keep,I.base.slot,fun b v a1 a2 a3=>?_,I.base.there,fun b xs q=>?_,fun b o' u' q=>?_,fun b ps q=>?_⟩,I.loc,I.cell,?_,fun x c q=>?_,fun p hp=>?_,?_,I.len⟩
 ·have:=I.base.free b v a1 a2 a3
  rw[Zc (hne b this)];exact this
 ·have:=I.base.tups b xs q
  rw[Zc (fun z=>by rw[z,e]at this;cases this)];exact this
 ·have:=I.base.frzs b o' u' q
  rw[Zc (fun z=>by rw[z]at q;exact n o' u' q)];exact this
 ·obtain⟨more,this⟩:=I.base.tbls b ps q
  refine⟨more,?_⟩
  rw[Zc (fun z=>by rw[z,e]at this;cases this)];exact this
 ·rw[Zc (hne _ I.free)];exact I.free
 ·rw[Zc (hne _ (I.freeC x c q))];exact I.freeC x c q
 ·obtain⟨a1,a2,a3⟩:=I.pin p hp
  exact⟨a1,by rw[Zc (hne _ a2)];exact a2,a3⟩
 ·intro b v q
  have own:∀c a,H c=some (.own a)→(upd H d u) c=some (.own a):=fun c a q=>by rw[Zc (fun z=>by rw[z,e]at q;cases q)];exact q
  have tup:∀c xs,H c=some (.tup xs)→(upd H d u) c=some (.tup xs):=fun c xs q=>by rw[Zc (fun z=>by rw[z,e]at q;cases q)];exact q
  by_cases hb:b=d
  ·subst hb
   rw[Zb]at q
   cases q
   obtain⟨_,h2⟩:=(show Z9 X.prog X.w H s.heap b (.frz o u) from I.hok b _ e)
   exact h2.stay (fun c v _ q=>q) (fun c q=>own c b q) tup
  ·rw[Zc hb]at q
   exact(I.hok b v q).stay (fun c v _ q=>q) (fun c q=>own c b q) tup
end
def ZrR(t:TE):TE:=fun σ H Q=>∃d u,H d=some u∧Mut (some u)∧t σ H fun v H'=>∃o,H' d=some (.frz o u)∧Q v (upd H' d u)
theorem ZiQ{X:Cx}{e:Expr}{t:TE}(h:PE X e t):PE X e (ZrR t):=by
 intro pins s σ H Q I q
 obtain⟨d,u,e1,mu,q⟩:=q
 have n:=I.nofrz e1 mu
 refine thn (h pins s σ H _ I q) ?_
 rintro v s1 ⟨x,H1,I1,r1,o,e2,q1⟩
 exact⟨x,_,I1.thaw e2 mu n,r1,q1⟩
theorem Zgn{P:Program}{w:World}{k:Key}{v:Value}(h:(ZN P w).is k v=true):ZI (kV k) v:=by
 rw[Zko]at h
 rcases Zay h with⟨i,t,rfl,rfl⟩|⟨x,t,rfl,rfl⟩
 ·exact⟨t,rfl⟩
 ·exact⟨t,rfl⟩
def Zm5:List V→Hp→VK→Prop:=fun xs H Q=>∃d kvs,xs=[.ref d]∧H d=some (.dK kvs)∧∀l,H l=none→Q (.ref l) (upd H l (.lst (kvs.map fun kv=>kV kv.1)))
theorem Zik{P:Program}{w:World}:∀ (kvs:List (Key×V)) (vs:List (Key×Value)) (us:List Value),KV kvs vs→us.length=vs.length→(∀ (j:Nat) (v:Value),us[j]? = some v→∃k x,vs[j]? = some (k,x)∧(ZN P w).is k v=true)→ZG (kvs.map fun kv=>kV kv.1) us:=by
 intro kvs vs us r
 unfold KV at r
 induction r generalizing us with
 | nil =>
  intro hl _
  cases us with
  | nil=>exact .nil
  | cons a b=>simp at hl
 | @cons p q ps qs h t ih =>
  intro hl hp
  cases us with
  | nil=>simp at hl
  | cons a b =>
   obtain⟨k,x,e,hk⟩:=hp 0 a rfl
   have e':q=(k,x):=by simpa using e
   rw[Qh]
   refine .cons ?_ (ih b (by simpa using hl) fun j v hv=>?_)
   ·rw[h.1,e'];exact Zgn hk
   ·simpa using hp (j+1) v (by simpa using hv)
theorem Zkk{X:Cx}(hc:X.calm=true):ZaH X (.type "list") Zm5:=by
 intro pins s σ H xs us Q I r h
 obtain⟨d,kvs,rfl,hd,q⟩:=h
 obtain⟨u,rfl,ru⟩:=Zdd r
 cases ru
 obtain⟨z,lo,vs,rel,dd⟩:=(show Z9 X.prog X.w H s.heap d (.dK kvs) from I.hok d _ hd)
 obtain⟨ep,da⟩:=dd.dictAt
 have hl:kvs.length=vs.length:=rel.length
 refine PySem.W.kdl_call (PySem.W.kdl_dict lo) (I.ok.hd hc) da (by omega) fun h' tk acc c hk hD hacc=>?_
 have hv:ZG (kvs.map fun kv=>kV kv.1) acc.toList:=Zik (P:=X.prog) (w:=X.w) kvs vs acc.toList rel (by rw[QaH];exact hacc.1) fun j v e=>hacc.2 j v (by rw[← Array.getElem?_toList];exact e)
 refine⟨.ref s.heap.objs.size,_,I.laid (a:=s.heap.objs.size) (o:=.lst (kvs.map fun kv=>kV kv.1)) (t':=tk) hk (Qg _) ?_,rfl,q _ (I.hok.fresh (Qg _))⟩
 exact⟨by rw[Qa];exact z,acc.toList,c,hv,by simpa using hD⟩
theorem Inv.dictF{X:Cx}{pins:List (Addr×Obj)}{σ:St}{H:Hp}{s:Shared}{d:Addr}{o:Obj}{kvs:List (Key×V)}{es:Array DictEntry}{ep:Nat}(I:Inv X pins σ H s)(e:H d=some (.frz o (.dK kvs)))(hd:o.data=.dict es ep) :
  ∃vs,KV kvs vs∧s.heap.DictAt (ZN X.prog X.w) d vs ep:=by
 obtain⟨ho,_,_,vs,rel,o',es',ep',h1,h2,h3,h4⟩:=(show Z9 X.prog X.w H s.heap d (.frz o (.dK kvs)) from I.hok d _ e)
 rw[ho]at h1
 cases h1
 rw[hd]at h3
 cases h3
 exact⟨vs,rel,o,es,ho,h2,hd,h4⟩
theorem ZiT{kvs:List (Key×V)}{vs:List (Key×Value)}(r:KV kvs vs):∀ (i:Nat) (k:Key) (x:V),kvs[i]? = some (k,x)→∃u,vs[i]? = some (k,u)∧ZI x u:=by
 unfold KV at r
 induction r with
 | nil=>intro i k x h;simp at h
 | @cons p q ps qs h t ih =>
  intro i k x hx
  cases i with
  | zero =>
   have e:p=(k,x):=by simpa using hx
   refine⟨q.2,?_,?_⟩
   ·have:q=(k,q.2):=by rw[show k=q.1 by rw[← h.1,e]]
    simpa using this
   ·have:=h.2;rw[e]at this;exact this
  | succ i=>simpa using ih i k x (by simpa using hx)
def Itv(d:Addr)(o:Obj)(kvs:List (Key×V)):It :=
 ⟨fun i H=>H d=some (.frz o (.dK kvs))∧i<kvs.length,fun i H v H'=>H'=H∧∃k,kvs[i]? = some (k,v),fun i H=>H d=some (.frz o (.dK kvs))∧kvs.length≤i⟩
def Itk(d:Addr)(o:Obj)(kvs:List (Key×V)):It :=
 ⟨fun i H=>H d=some (.frz o (.dK kvs))∧i<kvs.length,fun i H v H'=>H'=H∧∃k x,kvs[i]? = some (k,x)∧v=kV k,fun i H=>H d=some (.frz o (.dK kvs))∧kvs.length≤i⟩
theorem ZlC{P:Program}{w:World}{K:PySem.W.Frag}{tg:Expr}{d it:Addr}{o:Obj}{kvs:List (Key×V)}{es:Array DictEntry}{ep:Nat}(hd:o.data=.dict es ep):Zjo P w K tg (Itv d o kvs) [it] it (fun i h=>h.IsValIter it d i kvs.length ep) where
 mem:=by simp
 obj:=fun i h st b hb=>by
  have e:b=it:=by simpa using hb
  subst e
  obtain⟨o,e,c,d⟩:=st
  exact⟨o,e,fun v z=>by rw[d]at z;cases z⟩
 keep:=fun i h h' st k=>by
  obtain⟨o,e,r⟩:=st
  exact⟨o,k it (by simp) o e,r⟩
 item:=by
  intro X hP hw hK hc i pins s σ H E I hf st hg
  subst hP hw hK
  obtain⟨f0,f1,f2,f3,f4,f5⟩:=hf it (by simp)
  obtain⟨hfz,hi⟩:=hg
  obtain⟨vs,rel,da⟩:=I.dictF hfz hd
  have hl:kvs.length=vs.length:=rel.length
  obtain⟨u,hu,ru⟩:=ZiT rel i kvs[i].1 kvs[i].2 (Qb hi)
  refine wpAny_pyNext_values_item (by rw[← hl];exact st) da hu fun h' st' sb=>?_
  rw[← hl]at st'
  have I1:Inv X pins σ H { s with heap:=h' }:=I.turned (t':=s.toks) (fun b o hb e=>(sb.2 b hb).trans e) f0 f1 f3 f4 f5
  obtain⟨o1,e1,c1,d1⟩:=id st'
  exact⟨_,rfl,Zk8 (s:={ s with heap:=h' }) e1 c1 d1 (by decide) ⟨kvs[i].2,H,I1,ru,⟨rfl,kvs[i].1,Qb hi⟩,st',fun b hb=>(hf b hb).1⟩⟩
 done:=by
  intro X hP hw hK hc i pins s σ H E I hf st hg
  subst hP hw hK
  obtain⟨f0,f1,f2,f3,f4,f5⟩:=hf it (by simp)
  obtain⟨hfz,hi⟩:=hg
  obtain⟨vs,rel,da⟩:=I.dictF hfz hd
  have hl:kvs.length=vs.length:=rel.length
  exact wpAny_pyNext_values_end (I.ok.hd hc) (by rw[← hl];exact st) da (QN (by omega)) fun h' eb=>⟨rfl,I.turned (t':=s.toks) (fun b o hb e=>eb b o hb e) f0 f1 f3 f4 f5⟩
 self:=fun _ _ _ _ _ st h=>wpAny_pyIter_valiter st h
theorem Zl6{P:Program}{w:World}{K:PySem.W.Frag}{tg:Expr}{d it:Addr}{o:Obj}{kvs:List (Key×V)}{es:Array DictEntry}{ep:Nat}(hd:o.data=.dict es ep):Zjo P w K tg (Itk d o kvs) [it] it (fun i h=>h.IsKeyIter it d i kvs.length ep) where
 mem:=by simp
 obj:=fun i h st b hb=>by
  have e:b=it:=by simpa using hb
  subst e
  obtain⟨o,e,c,d⟩:=st
  exact⟨o,e,fun v z=>by rw[d]at z;cases z⟩
 keep:=fun i h h' st k=>by
  obtain⟨o,e,r⟩:=st
  exact⟨o,k it (by simp) o e,r⟩
 item:=by
  intro X hP hw hK hc i pins s σ H E I hf st hg
  subst hP hw hK
  obtain⟨f0,f1,f2,f3,f4,f5⟩:=hf it (by simp)
  obtain⟨hfz,hi⟩:=hg
  obtain⟨vs,rel,da⟩:=I.dictF hfz hd
  have hl:kvs.length=vs.length:=rel.length
  obtain⟨u,hu,ru⟩:=ZiT rel i kvs[i].1 kvs[i].2 (Qb hi)
  refine wpAny_pyNext_dict_item (by rw[← hl];exact st) da hu fun key h' hkey st' sb=>?_
  rw[← hl]at st'
  have I1:Inv X pins σ H { s with heap:=h' }:=I.turned (t':=s.toks) (fun b o hb e=>(sb.2 b hb).trans e) f0 f1 f3 f4 f5
  obtain⟨o1,e1,c1,d1⟩:=id st'
  exact⟨_,rfl,Zk8 (s:={ s with heap:=h' }) e1 c1 d1 (by decide) ⟨kV kvs[i].1,H,I1,Zgn hkey,⟨rfl,kvs[i].1,kvs[i].2,Qb hi,rfl⟩,st',fun b hb=>(hf b hb).1⟩⟩
 done:=by
  intro X hP hw hK hc i pins s σ H E I hf st hg
  subst hP hw hK
  obtain⟨f0,f1,f2,f3,f4,f5⟩:=hf it (by simp)
  obtain⟨hfz,hi⟩:=hg
  obtain⟨vs,rel,da⟩:=I.dictF hfz hd
  have hl:kvs.length=vs.length:=rel.length
  exact wpAny_pyNext_dict_end (I.ok.hd hc) (by rw[← hl];exact st) da (QN (by omega)) fun h' eb=>⟨rfl,I.turned (t':=s.toks) (fun b o hb e=>eb b o hb e) f0 f1 f3 f4 f5⟩
 self:=fun _ _ _ _ _ st h=>wpAny_pyIter_keyiter st h
def Zrp(tl:TE):TI:=fun σ H R=>tl σ H fun x H1=>∃d kvs,x=.ref d∧H1 d=some (.dK kvs)∧∀o,R (Itk d o kvs) (upd H1 d (.frz o (.dK kvs)))
theorem Zk9{X:Cx}{tg l:Expr}{tl:TE}(hl:PE X l tl):PI X tg l (Zrp tl):=by
 intro pins s σ H R I h
 refine thn (hl pins s σ H _ I h) ?_
 rintro v s1 ⟨x,H1,I1,r1,q1⟩
 obtain⟨d,kvs,e,hd,q⟩:=q1
 subst e
 cases r1
 obtain⟨z,lo,vs,rel,o,es,ep,h1,h2,h3,h4⟩:=(show Z9 X.prog X.w H1 s1.heap d (.dK kvs) from I1.hok d _ hd)
 have hlen:kvs.length=vs.length:=rel.length
 have I2:=I1.freeze hd True.intro h1
 refine wpAny_pyIter_dict (knd:=ZN X.prog X.w) (kvs:=vs) (ep:=ep) lo ⟨o,es,h1,h2,h3,h4⟩ ?_
 rw[← hlen]
 refine⟨s1.heap.objs.size,[s1.heap.objs.size],_,Itk d o kvs,upd H1 d (.frz o (.dK kvs)),rfl,I2.kept (t':=s1.toks) fun b o e=>Qc _ e,Zl6 h3,⟨_,Qq _ rfl,rfl,rfl⟩,fun b hb=>?_,q o⟩
 have e:b=s1.heap.objs.size:=by simpa using hb
 subst e
 exact I2.fpOk (Qg _) (I2.hok.fresh (Qg _))
def Zj7:List V→Hp→VK→Prop:=fun xs H Q=>∃d kvs ns,xs=[.ref d]∧H d=some (.dK kvs)∧kvs.map (·.1)=ns.map Sum.inl∧ns.length<64 ∧
 ∀ (l:Addr) (ns':List Int),H l=none→ns'.Perm ns→ns'.Pairwise (·≤·)→Q (.ref l) (upd H l (.lst (ns'.map V.int)))
theorem ZiM{X:Cx}(hc:X.calm=true):ZaH X (.builtin "sorted") Zj7:=by
 intro pins s σ H xs us Q I r h
 obtain⟨d,kvs,ns,rfl,hd,hks,h64,q⟩:=h
 obtain⟨u,rfl,ru⟩:=Zdd r
 cases ru
 obtain⟨z,lo,vs,rel,dd⟩:=(show Z9 X.prog X.w H s.heap d (.dK kvs) from I.hok d _ hd)
 obtain⟨ep,da⟩:=dd.dictAt
 have hl:kvs.length=vs.length:=rel.length
 have hln:kvs.length=ns.length:=by have:=congrArg List.length hks;simpa using this
 refine Calls.call_function_entry kind_sorted plain_sorted entry_sorted (args_sorted1 _) ?_
 unfold Builtin.«sorted»
 refine wpAny_bind (m:=checkCount "sorted" 1 1 _) (wpAny_pure ?_)
 refine wpAny_bind (PySem.W.kdu_collect (PySem.W.kdl_dict (knd:=ZN X.prog X.w) lo) (I.ok.hd hc) da (by omega) fun h' tk acc hk hacc=>?_)
 have hv:ZG (kvs.map fun kv=>kV kv.1) acc.toList:=Zik (P:=X.prog) (w:=X.w) kvs vs acc.toList rel (by rw[QaH];exact hacc.1) fun j v e=>hacc.2 j v (by rw[← Array.getElem?_toList];exact e)
 have ek:(kvs.map fun kv=>kV kv.1)=ns.map V.int:=by
  have:(kvs.map fun kv=>kV kv.1)=(kvs.map (·.1)).map kV:=by rw[Qj];rfl
  rw[this,hks,Qj];rfl
 rw[ek]at hv
 have hal:acc.toList.length=ns.length:=by rw[← hv.length,Qa]
 refine wpAny_bind (wpAny_newList ?_ (by rw[hal];exact Qam (QB h64 (by rw[sizeLine_eq];decide))))
 have hoL:(h'.push (seqObj "list" acc.toList.toArray 0)).get? h'.objs.size=some (seqObj "list" acc.toList.toArray 0):=Qq _ rfl
 show wpAny _ _ _ _ _ { s with heap:=h'.push (seqObj "list" acc.toList.toArray 0),toks:=tk }
 refine wpAny_bind (wpAny_holding (wpAny_call_entry slot_list_sort ⟨_,hoL,rfl⟩ entry_list_sort (list_sort_tree hoL (ZgP hv) (by omega) fun out ns' a1 a2 a3=>⟨_,rfl,?_⟩) (args_list_sort _)))
 refine wpAny_pure ⟨_,rfl,?_⟩
 obtain⟨e,he⟩:=sortedHeap_at (out:=out) hoL
 have I1:Inv X pins σ H { s with heap:=h',toks:=tk }:=I.kept (t':=tk) hk
 have old:∀b o,h'.get? b=some o→(sortedHeap (h'.push (seqObj "list" acc.toList.toArray 0)) h'.objs.size acc.toList out).get? b=some o:=fun b o h1=>by
  have h2:=Qr h1
  rw[sortedHeap_old (QC h2) (by rw[size_push'];exact Nat.lt_succ_of_lt h2)]
  exact Qc _ h1
 refine⟨.ref h'.objs.size,_,I1.laid (a:=h'.objs.size) (o:=.lst (ns'.map V.int)) (t':=tk) old (Qg _) ?_,rfl,q _ ns' (I1.hok.fresh (Qg _)) a2 a3⟩
 have hp:=a2.length_eq
 exact⟨by rw[Qa,hp];exact Qam (QB h64 (by rw[sizeLine_eq];decide)),out.toList,e,Zfy a1,by simpa using he⟩
def rSumL(K:PySem.W.Frag):List V→Hp→VK→Prop:=fun vs H Q=>∃ (p:Addr) (ns:List Int),vs=[.ref p]∧SqL K H p (ns.map V.int)∧ns.length≤1000∧(∀n∈ns,0≤n∧n≤1000000)∧Q (.int ns.sum) H
def Zrh(tl:TE):TI:=fun σ H R=>tl σ H fun x H1=>∃d kvs,x=.ref d∧H1 d=some (.dK kvs)∧∀o,R (Itv d o kvs) (upd H1 d (.frz o (.dK kvs)))
theorem ZoV{X:Cx}{tg o:Expr}{to:TE}{apos cpos:Pos}(ho:PE X o to)(hbase:attributeBase o "values" X.env (eval o X.env)=eval o X.env:=by rfl)(hline:(apos.endLine == cpos.line)=true:=by rfl) :
  PI X tg (.Call (.Attribute o "values" apos) [] [] cpos) (Zrh to):=by
 intro pins s σ H R I h
 refine wpAny_Call_method0_late hbase hline (thn (ho pins s σ H _ I h) ?_)
 rintro v s1 ⟨x,H1,I1,r1,q1⟩
 obtain⟨d,kvs,e,hd,q⟩:=q1
 subst e
 cases r1
 obtain⟨z,lo,vs,rel,ob,es,ep,h1,h2,h3,h4⟩:=(show Z9 X.prog X.w H1 s1.heap d (.dK kvs) from I1.hok d _ hd)
 have hlen:kvs.length=vs.length:=rel.length
 have I2:=I1.freeze hd True.intro h1
 have dd:s1.heap.DictOf (ZN X.prog X.w) d vs:=⟨ob,es,ep,h1,h2,h3,h4⟩
 refine⟨"dict", "dict.values",QX,PySem.F.slot_dict_values,PySem.F.type_dict_values,dd.typeIs,fun a e=>?_,?_⟩
 ·cases e;exact⟨ob,h1,h2.2.1⟩
 refine Calls.callWith_builtin rfl (QaF ?_)
 refine call_meetsIn PySem.F.slot_dict_values dd.typeIs PySem.F.entry_dict_values (PySem.F.args_dict_values_1 _) (meets_dict_values (ZN X.prog X.w) d lo) ⟨⟨vs,dd⟩,?_⟩
 have hv:(s1.heap.push { cls:=.type "dict_values",data:=.fields #[.ref d] }).IsValuesView s1.heap.objs.size d:=⟨_,Qq _ rfl,rfl,rfl⟩
 have da:(s1.heap.push { cls:=.type "dict_values",data:=.fields #[.ref d] }).DictAt (ZN X.prog X.w) d vs ep:=⟨ob,es,Qc _ h1,h2,h3,h4⟩
 refine wpAny_pyIter_values (s:={ s1 with heap:=s1.heap.push { cls:=.type "dict_values",data:=.fields #[.ref d] } }) hv da ?_
 rw[← hlen]
 have I3:Inv X pins σ (upd H1 d (.frz ob (.dK kvs))) { s1 with heap:=s1.heap.push { cls:=.type "dict_values",data:=.fields #[.ref d] } }:=I2.kept (t':=s1.toks) fun b o e=>Qc _ e
 refine⟨_,[_],_,Itv d ob kvs,upd H1 d (.frz ob (.dK kvs)),rfl,I3.kept (t':=s1.toks) fun b o e=>Qc _ e,ZlC h3,⟨_,Qq _ rfl,rfl,rfl⟩,fun b hb=>?_,q ob⟩
 have e:=Qp.mp hb
 rw[e]
 exact I3.fpOk (Qg _) (I3.hok.fresh (Qg _))
def Iti(d:Addr)(o:Obj)(kvs:List (Key×V)):It :=
 ⟨fun i H=>H d=some (.frz o (.dK kvs))∧i<kvs.length,
  fun i H v H'=>∃p k x,H p=none∧v=.ref p∧kvs[i]? = some (k,x)∧H'=upd H p (.tup [kV k,x]),
  fun i H=>H d=some (.frz o (.dK kvs))∧kvs.length≤i⟩
theorem Zkf{P:Program}{w:World}{K:PySem.W.Frag}{elts:List Expr}{x1:Nat}{tpos:Pos}{d it:Addr}{o:Obj}{kvs:List (Key×V)}{es:Array DictEntry}{ep:Nat}(hd:o.data=.dict es ep) :
  Zjo P w K (.Tuple elts x1 tpos) (Iti d o kvs) [it] it (fun i h=>∃ok ov,IsItemIter h it d i kvs.length ep ok ov) where
 mem:=by simp
 obj:=fun i h st b hb=>by
  have e:b=it:=by simpa using hb
  subst e
  obtain⟨ok,ov,he⟩:=st
  exact⟨_,he,fun v z=>by cases z⟩
 keep:=fun i h h' st k=>by
  obtain⟨ok,ov,he⟩:=st
  exact⟨ok,ov,k it (by simp) _ he⟩
 item:=by
  intro X hP hw hK hc i pins s σ H E I hf st hg
  subst hP hw hK
  obtain⟨ok,ov,he⟩:=st
  obtain⟨hfz,hi⟩:=hg
  obtain⟨vs,rel,da⟩:=I.dictF hfz hd
  have hl:kvs.length=vs.length:=rel.length
  obtain⟨u,hu,ru⟩:=ZiT rel i kvs[i].1 kvs[i].2 (Qb hi)
  refine wpAny_pyNext_items_item (by rw[← hl];exact he) da hu fun key h' hkey a1 a2 a3 a4=>?_
  rw[← hl]at a1
  have lt:∀ {b:Addr} {o:Obj},s.heap.get? b=some o→s.heap.objs.size≠b:=fun q=>Q6 (Qr q)
  have hes:s.heap.objs.size≠it:=lt he
  refine⟨_,rfl,wpAny_letOwnedTupleGo_items a1 fun h'' he'' hs''=>?_⟩
  have hs':Heap.SameBut it h' h'':=hs''
  have I2:Inv X pins σ (upd H s.heap.objs.size (.tup [kV kvs[i].1,kvs[i].2])) { s with heap:=h'',toks:=s.toks }:=by
   refine I.zipped (fp:=[it]) (u:=key) (v:=u) hf (Zgn hkey) ru (hs'.extBut _ _ hes a2) (fun b hb=>?_) fun c o hc q=>?_
   ·have e:=Qp.mp hb
    subst e
    exact⟨_,he''⟩
   ·have hc':c≠it:=fun z=>hc (by rw[z];simp)
    exact hs'.extBut _ _ hc' (a4 c o hc' q)
  refine⟨.ref s.heap.objs.size,_,I2,rfl,⟨s.heap.objs.size,kvs[i].1,kvs[i].2,I.fresh,rfl,Qb hi,rfl⟩,⟨_,_,he''⟩,fun b hb=>?_⟩
  have e:=Qp.mp hb
  subst e
  rw[Zc hes.symm]
  exact(hf _ hb).1
 done:=by
  intro X hP hw hK hc i pins s σ H E I hf st hg
  subst hP hw hK
  obtain⟨ok,ov,he⟩:=st
  obtain⟨f0,f1,f2,f3,f4,f5⟩:=hf it (by simp)
  obtain⟨hfz,hi⟩:=hg
  obtain⟨vs,rel,da⟩:=I.dictF hfz hd
  have hl:kvs.length=vs.length:=rel.length
  exact wpAny_pyNext_items_end (I.ok.hd hc) (by rw[← hl];exact he) da (QN (by omega)) fun h' eb=>⟨rfl,I.turned (t':=s.toks) (fun b o hb e=>eb b o hb e) f0 f1 f3 f4 f5⟩
 self:=fun _ _ _ _ _ st h=>by obtain⟨ok,ov,he⟩:=st;exact PySem.W.kcp_self he h
def Zrb(tl:TE):TI:=fun σ H R=>tl σ H fun x H1=>∃d kvs,x=.ref d∧H1 d=some (.dK kvs)∧∀o,R (Iti d o kvs) (upd H1 d (.frz o (.dK kvs)))
theorem Zn3{X:Cx}{elts:List Expr}{x1:Nat}{tpos:Pos}{o:Expr}{to:TE}{apos cpos:Pos}(ho:PE X o to)(hbase:attributeBase o "items" X.env (eval o X.env)=eval o X.env:=by rfl)(hline:(apos.endLine == cpos.line)=true:=by rfl) :
  PI X (.Tuple elts x1 tpos) (.Call (.Attribute o "items" apos) [] [] cpos) (Zrb to):=by
 intro pins s σ H R I h
 refine wpAny_Call_method0_late hbase hline (thn (ho pins s σ H _ I h) ?_)
 rintro v s1 ⟨x,H1,I1,r1,q1⟩
 obtain⟨d,kvs,e,hd,q⟩:=q1
 subst e
 cases r1
 obtain⟨z,lo,vs,rel,ob,es,ep,h1,h2,h3,h4⟩:=(show Z9 X.prog X.w H1 s1.heap d (.dK kvs) from I1.hok d _ hd)
 have hlen:kvs.length=vs.length:=rel.length
 have I2:=I1.freeze hd True.intro h1
 have dd:s1.heap.DictOf (ZN X.prog X.w) d vs:=⟨ob,es,ep,h1,h2,h3,h4⟩
 refine⟨"dict", "dict.items",QX,Qaq,PySem.F.type_dict_items,dd.typeIs,fun a e=>?_,?_⟩
 ·cases e;exact⟨ob,h1,h2.2.1⟩
 refine Calls.callWith_builtin rfl (QaF ?_)
 refine call_meetsIn Qaq dd.typeIs PySem.F.entry_dict_items (PySem.F.args_dict_items_1 _) (meets_dict_items (ZN X.prog X.w) d lo) ⟨⟨vs,dd⟩,?_⟩
 have hv:(s1.heap.push { cls:=.type "dict_items",data:=.fields #[.ref d] }).IsItemsView s1.heap.objs.size d:=⟨_,Qq _ rfl,rfl,rfl⟩
 have da:(s1.heap.push { cls:=.type "dict_items",data:=.fields #[.ref d] }).DictAt (ZN X.prog X.w) d vs ep:=⟨ob,es,Qc _ h1,h2,h3,h4⟩
 refine wpAny_pyIter_items (s:={ s1 with heap:=s1.heap.push { cls:=.type "dict_items",data:=.fields #[.ref d] } }) hv da ?_
 rw[← hlen]
 have I3:Inv X pins σ (upd H1 d (.frz ob (.dK kvs))) { s1 with heap:=s1.heap.push { cls:=.type "dict_items",data:=.fields #[.ref d] } }:=I2.kept (t':=s1.toks) fun b o e=>Qc _ e
 refine⟨_,[_],_,Iti d ob kvs,upd H1 d (.frz ob (.dK kvs)),rfl,I3.kept (t':=s1.toks) fun b o e=>Qc _ e,Zkf h3,⟨_,_,Qq _ rfl⟩,fun b hb=>?_,q ob⟩
 have e:=Qp.mp hb
 rw[e]
 exact I3.fpOk (Qg _) (I3.hok.fresh (Qg _))
def Zpu(J:It)(D:Addr)(k:Nat)(σ:St)(H1:Hp)(g:TG)(tc:TT)(tk te:TE)(Q:VK):Prop :=
 ∃W:Nat→Nat→List (Key×V)→St→Hp→Prop,(∃m,W 0 m [] (σ++List.replicate k none) (upd H1 D (.dK []))) ∧
  ∀i m ys σ2 H2,W i m ys σ2 H2→(J.stop i H2∧Q (.ref D) H2) ∨
   (J.go i H2∧∃N:List (Key×V)→St→Hp→Prop,(∀ys' σ' H',N ys' σ' H'→∃m',m'<m∧W (i+1) m' ys' σ' H')∧∀x H3,J.yld i H2 x H3→g x σ2 H3 fun σ4 H4=>tc σ4 H4 fun b H5 =>
    if b=true then tk σ4 H5 fun kv H6=>te σ4 H6 fun y H7=>∃k:Key,kv=kV k∧H7 D=some (.dK ys)∧ys.length<sizeLine∧N (Zbn ys k y) σ4 (upd H7 D (.dK (Zbn ys k y))) else N ys σ4 H5)
def tKComp(n:Nat)(wi:TI)(g:TG)(tc:TT)(tk te:TE):TE:=fun σ H Q=>wi σ H fun J H1=>∀D,H1 D=none→Zpu J D n σ H1 g tc tk te Q
section
variable {X:Cx} {N N':List Str} {o c:Scope}
end
section
variable {X:Cx}
def rIxK:R2:=fun x y H Q=>∃d kvs k v,x=.ref d∧y=kV k∧H d=some (.dK kvs)∧Z1 kvs k=some v∧Q v H
end
section
variable {prog:Program} {w:World} {A:Around} {R:Result→Shared→Prop} {I:Addr} {fp wr:List Addr} {G:Array GenState→Array GenState→Prop} {n:Nat} {P:Nat→Value→Prop} {St:Nat→Shared→Prop} {K:Type} [DecidableEq K] {knd:KeyKind prog w K}
end
section
variable {prog:Program} {w:World} {A:Around} {E:Value→Shared→Prop} {s:Shared} {K:Type} [DecidableEq K] {knd:KeyKind prog w K}
end
def rDictP(K:PySem.W.Frag):List V→Hp→VK→Prop:=fun xs H Q=>∃ (a:Addr) (ts:List (Addr×Key×V)),xs=[.ref a]∧SqL K H a (ts.map fun t=>V.ref t.1)∧(∀t∈ts,H t.1=some (.tup [kV t.2.1,t.2.2]))∧ts.length≤1000 ∧
 ∀D,H D=none→Q (.ref D) (upd H D (.dK (ZcQ [] (ts.map (·.2)))))
def rInG:R2:=fun y x H Q=>∃a o,x=.ref a∧ZL H a y o∧Q (.bl o.isSome) H
def ZoI:R2:=fun y x H Q=>∃a o,x=.ref a∧ZL H a y o∧Q (.bl (!o.isSome)) H
def Zqj:R2:=fun x y H Q=>∃a v,x=.ref a∧ZL H a y (some v)∧Q v H
section
variable {X:Cx} {k:Nat}
theorem ZqG(hr:ZaV k X.A):OpR X (compareOp .NotIn) ZoI:=by
 intro pins s σ H x y v u Q I rx ry h
 obtain⟨a,o,rfl,g,q⟩:=h
 cases ry
 exact Zpv (Zll hr) I g rx fun s3 I3=>⟨.bl (!o.isSome),H,I3,rfl,q⟩
def ZrL:ZlI:=fun o i v H Q=>∃a H',o=.ref a∧Zb6 H a i v H'∧Q H'
theorem ZdP(hr:ZaV k X.A):ZqU X ZrL:=by
 intro pins s σ H o i v ov iv u Q I ro ri rv h
 obtain⟨a,H',rfl,g,q⟩:=h
 cases ro
 exact Zmo (Zll hr) I g ri rv fun s4 I4=>⟨H',I4,q⟩
theorem ZkB{prog:Program}{w:World}{A:Around}{E:Value→Shared→Prop}{s:Shared}{value slice:Expr}{o i:Value}{T id:String}{Q:Value→Shared→Prop}(hT:s.TypeIs o T)
  (hl:typeLookup (.type T) "__getitem__" = pure (some (.builtin id))) (hs:subscripted slice false o i=operate [o,i] (getItem o i)) (h:wpAny (model prog w) A (getItem o i) Q E s) :
  wpAny (model prog w) A (subscriptTail value slice o i) Q E s:=by
 unfold subscriptTail
 refine wpAny_bind ?_
 rw[getitemInPython_of_ne hT.not_modules]
 refine wpAny_bind (wpAny_specialOf hT hl ?_)
 have fin:wpAny (model prog w) A (subscripted slice false o i) (fun r s₃=>wpAny (model prog w) A (letTemporaryGo value o r >>= fun _=>pure r) Q E s₃) E s:=by
  rw[hs]
  exact wpAny_operating (wpAny_mono h (fun r s₃ h₃=>wpAny_bind (wpAny_letTemporaryGo (wpAny_pure h₃))) fun _ _ x=>x)
 first
  | exact wpAny_pure (wpAny_bind fin)
  | exact wpAny_bind (wpAny_pure (wpAny_bind fin))
  | exact wpAny_bind fin
theorem ixG(hr:ZaV k X.A):IxR X Zqj:=by
 intro value slice pins s σ H x y v u Q I rx ry h hs
 obtain⟨a,z,rfl,g,q⟩:=h
 cases rx
 exact ZkB (Zj6 I g) PySem.F.slot_dict_getitem.lookup hs (Zl0 (Zll hr) I g ry fun w' s' I' rw'=>⟨z,H,I',rw',q⟩)
def rEqE(neg:Bool):R2:=fun x y H Q=>∃a b kvs,x=.ref a∧y=.ref b∧H a=some (.dK kvs)∧H b=some (.dK [])∧Q (.bl (if neg then !kvs.isEmpty else kvs.isEmpty)) H
theorem ZrA:ZaH X (.builtin "len") (fun xs H Q=>∃a kvs,xs=[V.ref a]∧H a=some (.dK kvs)∧Q (.int kvs.length) H):=Zmd
theorem ZpF(hc:X.calm=true:=by rfl):ZaH X (.builtin "sorted") Zj7:=ZiM hc
theorem Zrk(hc:X.calm=true:=by rfl):ZaH X (.type "list") Zm5:=Zkk hc
end
mutual
inductive DH (H:Hp):V→PyData→Prop where
 | non:DH H .non .none
 | bl (b:Bool):DH H (.bl b) (.bool b)
 | int (i:Int):DH H (.int i) (.int i)
 | str (s:Str):DH H (.str s) (.str s)
 | lst {a:Addr} {xs:List V} {ds:List PyData}:H a=some (.lst xs)→DHs H xs ds→DH H (.ref a) (.list ds)
 | tup {a:Addr} {xs:List V} {ds:List PyData}:H a=some (.tup xs)→DHs H xs ds→DH H (.ref a) (.tuple ds)
inductive DHs (H:Hp):List V→List PyData→Prop where
 | nil:DHs H [] []
 | cons {x:V} {d:PyData} {xs:List V} {ds:List PyData}:DH H x d→DHs H xs ds→DHs H (x::xs) (d::ds)
end
mutual
theorem DH.mono{H H':Hp}(s:ZH H H'):∀ {x:V} {d:PyData},DH H x d→DH H' x d
 | _,_,.non=>.non
 | _,_,.bl b=>.bl b
 | _,_,.int i=>.int i
 | _,_,.str z=>.str z
 | _,_,.lst h hs=>.lst (s _ _ h) (DHs.mono s hs)
 | _,_,.tup h hs=>.tup (s _ _ h) (DHs.mono s hs)
theorem DHs.mono{H H':Hp}(s:ZH H H'):∀ {xs:List V} {ds:List PyData},DHs H xs ds→DHs H' xs ds
 | _,_,.nil=>.nil
 | _,_,.cons h hs=>.cons (DH.mono s h) (DHs.mono s hs)
end
mutual
theorem DH.dv{K:PySem.W.Frag}{H:Hp}:∀ {x:V} {d:PyData},DH H x d→DV K H x d
 | _,_,.non=>.non
 | _,_,.bl b=>.bl b
 | _,_,.int i=>.int i
 | _,_,.str z=>.str z
 | _,_,.lst h hs=>.lst (SqL.of h) (DHs.dv hs)
 | _,_,.tup h hs=>.tup (SqT.of h) (DHs.dv hs)
theorem DHs.dv{K:PySem.W.Frag}{H:Hp}:∀ {xs:List V} {ds:List PyData},DHs H xs ds→DVs K H xs ds
 | _,_,.nil=>.nil
 | _,_,.cons h hs=>.cons (DH.dv h) (DHs.dv hs)
end
def tyD:PyData→String
 | .none => "NoneType"
 | .bool _ => "bool"
 | .int _ => "int"
 | .str _ => "str"
 | .tuple _ => "tuple"
 | _ => "list"
def isIntD:PyData→Bool
 | .int _=>true
 | _=>false
def isBoolD:PyData→Bool
 | .bool _=>true
 | _=>false
def isLstD:PyData→Bool
 | .list _=>true
 | _=>false
def isTupD:PyData→Bool
 | .tuple _=>true
 | _=>false
def isStrD:PyData→Bool
 | .str _=>true
 | _=>false
section
open PySem.W
end
theorem Zil:∀ (more acc:List (Key×V)),((acc++more).map (·.1)).Nodup→ZcQ acc more=acc++more
 | [],acc,_=>by show acc=_;rw[QaL]
 | x::r,acc,h=>by
  have hx:Z1 acc x.1=none:=by
   cases hv:Z1 acc x.1 with
   | none=>rfl
   | some v =>
    have:=ZpP hv
    rw[Qe,Qh]at h
    have:=(List.nodup_append.mp h).2.2 x.1 this x.1 (by simp)
    exact absurd rfl this
  show ZcQ (Zbn acc x.1 x.2) r=_
  rw[Zb4 _ hx,Zil r (acc++[x]) (by rw[QaA];exact h),QaA];rfl
theorem ZcA{kvs:List (Key×V)}{k:Key}{v:V}(h:Z1 kvs k=some v):(k,v)∈kvs:=by
 unfold Z1 at h
 obtain⟨p,hp,rfl⟩:=QaQ.mp h
 have h1:=List.find?_some hp
 have h2:=Qak hp
 have:p.1=k:=by simpa using h1
 rw[← this];exact h2
theorem ZcE{kvs:List (Key×V)}(hn:(kvs.map (·.1)).Nodup){k:Key}{v:V}(h:(k,v)∈kvs):Z1 kvs k=some v:=by
 induction kvs with
 | nil=>cases h
 | cons p r ih =>
  obtain⟨n1,n2⟩:=QV.mp (by simpa using hn:(p.1::r.map (·.1)).Nodup)
  rcases QI.mp h with rfl|h
  ·exact Zde rfl
  ·rw[Zdh fun e=>n1 (e ▸ Qd (f:=(·.1)) h)]
   exact ih n2 h
def tOrK(K:PySem.W.Frag)(ta tb:TE):TE:=fun σ H Q=>ta σ H fun x H1=>∃k,ZsA K x H1 k∧if k=true then Q x H1 else tb σ H1 Q
theorem ZL.fz{H:Hp}{a:Addr}{o:Obj}{kvs:List (Key×V)}{k:Key}{r:Option V}(e:H a=some (.frz o (.dK kvs)))(h:Z1 kvs k=r):ZL H a (kV k) r:=.inl ⟨kvs,k,.inr ⟨o,e⟩,rfl,h.symm⟩
theorem ZkQ{d:Addr}{o:Obj}{kvs:List (Key×V)}{k:Nat}{D:Addr}{σ:L2.St}{H1:Hp}{g:TG}{tc:TT}{te:TE}{Q:VK}(Pv:Nat→List V→L2.St→Hp→Prop)(h0:Pv 0 [] (σ++List.replicate k none) (upd H1 D (.lst [])))
  (hl:∀i ys σ H,Pv i ys σ H→H d=some (.frz o (.dK kvs)))
  (hs:∀i k x ys σ H,kvs[i]? = some (k,x)→Pv i ys σ H→g (kV k) σ H fun σ4 H4=>tc σ4 H4 fun b H5=>if b=true then te σ4 H5 fun y H6=>H6 D=some (.lst ys)∧ys.length<sizeLine∧Pv (i+1) (ys++[y]) σ4 (upd H6 D (.lst (ys++[y]))) else Pv (i+1) ys σ4 H5)
  (hd:∀ys σ H,Pv kvs.length ys σ H→Q (.ref D) H):Zek (Itk d o kvs) D k σ H1 g tc te Q:=by
 refine⟨fun i m ys σ H=>m=kvs.length-i∧i≤kvs.length∧Pv i ys σ H,⟨kvs.length,by simp,Qv _,h0⟩,?_⟩
 rintro i m ys σ H ⟨rfl,hi,p⟩
 have q1:=hl i ys σ H p
 by_cases hlt:i<kvs.length
 ·refine .inr ⟨⟨q1,hlt⟩,Pv (i+1),fun ys' σ' H' p'=>⟨kvs.length-(i+1),by omega,rfl,hlt,p'⟩,fun x H' y=>?_⟩
  obtain⟨rfl,k',x',e,rfl⟩:=y
  exact hs i k' x' ys σ _ e p
 ·have e:i=kvs.length:=by omega
  exact .inl ⟨⟨q1,by omega⟩,hd ys σ H (e ▸ p)⟩
theorem ZoB{d:Addr}{o:Obj}{kvs:List (Key×V)}{k:Nat}{D:Addr}{σ:L2.St}{H1:Hp}{g:TG}{tc:TT}{te:TE}{Q:VK}(Pv:Nat→List V→L2.St→Hp→Prop)(h0:Pv 0 [] (σ++List.replicate k none) (upd H1 D (.lst [])))
  (hl:∀i ys σ H,Pv i ys σ H→H d=some (.frz o (.dK kvs)))
  (hs:∀i k x ys σ H,kvs[i]? = some (k,x)→Pv i ys σ H→g x σ H fun σ4 H4=>tc σ4 H4 fun b H5=>if b=true then te σ4 H5 fun y H6=>H6 D=some (.lst ys)∧ys.length<sizeLine∧Pv (i+1) (ys++[y]) σ4 (upd H6 D (.lst (ys++[y]))) else Pv (i+1) ys σ4 H5)
  (hd:∀ys σ H,Pv kvs.length ys σ H→Q (.ref D) H):Zek (Itv d o kvs) D k σ H1 g tc te Q:=by
 refine⟨fun i m ys σ H=>m=kvs.length-i∧i≤kvs.length∧Pv i ys σ H,⟨kvs.length,by simp,Qv _,h0⟩,?_⟩
 rintro i m ys σ H ⟨rfl,hi,p⟩
 have q1:=hl i ys σ H p
 by_cases hlt:i<kvs.length
 ·refine .inr ⟨⟨q1,hlt⟩,Pv (i+1),fun ys' σ' H' p'=>⟨kvs.length-(i+1),by omega,rfl,hlt,p'⟩,fun x H' y=>?_⟩
  obtain⟨rfl,k',e⟩:=y
  exact hs i k' x ys σ _ e p
 ·have e:i=kvs.length:=by omega
  exact .inl ⟨⟨q1,by omega⟩,hd ys σ H (e ▸ p)⟩
theorem ZoM{d:Addr}{o:Obj}{kvs:List (Key×V)}{k:Nat}{D:Addr}{σ:L2.St}{H1:Hp}{g:TG}{tc:TT}{te:TE}{Q:VK}(Pv:Nat→List V→L2.St→Hp→Prop)(h0:Pv 0 [] (σ++List.replicate k none) (upd H1 D (.lst [])))
  (hl:∀i ys σ H,Pv i ys σ H→H d=some (.frz o (.dK kvs)))
  (hs:∀i k x ys σ H p,kvs[i]? = some (k,x)→Pv i ys σ H→H p=none→g (.ref p) σ (upd H p (.tup [kV k,x])) fun σ4 H4=>tc σ4 H4 fun b H5=>if b=true then te σ4 H5 fun y H6=>H6 D=some (.lst ys)∧ys.length<sizeLine∧Pv (i+1) (ys++[y]) σ4 (upd H6 D (.lst (ys++[y]))) else Pv (i+1) ys σ4 H5)
  (hd:∀ys σ H,Pv kvs.length ys σ H→Q (.ref D) H):Zek (Iti d o kvs) D k σ H1 g tc te Q:=by
 refine⟨fun i m ys σ H=>m=kvs.length-i∧i≤kvs.length∧Pv i ys σ H,⟨kvs.length,by simp,Qv _,h0⟩,?_⟩
 rintro i m ys σ H ⟨rfl,hi,p⟩
 have q1:=hl i ys σ H p
 by_cases hlt:i<kvs.length
 ·refine .inr ⟨⟨q1,hlt⟩,Pv (i+1),fun ys' σ' H' p'=>⟨kvs.length-(i+1),by omega,rfl,hlt,p'⟩,fun x H' y=>?_⟩
  obtain⟨r,k',x',hr,rfl,e,rfl⟩:=y
  exact hs i k' x' ys σ H r e p hr
 ·have e:i=kvs.length:=by omega
  exact .inl ⟨⟨q1,by omega⟩,hd ys σ H (e ▸ p)⟩
def off(p:Addr)(H:Hp):Hp:=fun b=>if b=p then none else H b
section
variable {prog:Program} {w:World} {A:Around} {R:Result→Shared→Prop} {I:Addr} {fp wr:List Addr} {G:Array GenState→Array GenState→Prop} {n:Nat} {P:Nat→Value→Prop} {St:Nat→Shared→Prop} {K:Type} [DecidableEq K] {knd:KeyKind prog w K}
end
def Zr7:V→List V→Hp→VK→Prop:=fun x vs H Q=>∃a kvs k v,x=.ref a∧vs=[kV k]∧H a=some (.dK kvs)∧Z1 kvs k=some v∧Q v (upd H a (.dK (ZcH kvs k)))
theorem ZiF{X:Cx}:MtM X "dict.pop" Zr7:=by
 intro pins s σ H x vs v us Q I rx rv h
 obtain⟨a,kvs,k,y,rfl,rfl,hH,hv,q⟩:=h
 cases rx
 obtain⟨u,rfl,ru⟩:=rv.one
 exact Zso I hH ru hv (.inl rfl) fun w' s' I' r'=>⟨y,_,I',r',q⟩
def rDUpd(K:PySem.W.Frag):V→List V→Hp→VK→Prop:=fun x vs H Q=>∃ (D a:Addr) (kvs:List (Key×V)) (ts:List (Addr×Key×V)),x=.ref D∧vs=[.ref a]∧H D=some (.dK kvs)∧H a=some (.lst (ts.map fun t=>V.ref t.1))∧(∀t∈ts,H t.1=some (.tup [kV t.2.1,t.2.2]))∧ts.length≤1000∧kvs.length≤100000 ∧
 Q .non (upd H D (.dK (ZcQ kvs (ts.map (·.2)))))
theorem ZiE{X:Cx}{s:Stmt}:PS X s (fun _ _ _=>False):=fun pins s' σ H D I h=>h.elim
theorem Inv.laidMany{X:Cx}{pins:List (Addr×Obj)}{σ:St}{H H':Hp}{s:Shared}{h':Heap}{t':Nat}(I:Inv X pins σ H s)(k:∀b u,s.heap.get? b=some u→h'.get? b=some u)
  (same:∀b o,H b=some o→H' b=some o) (low:∀b,b<s.heap.objs.size→H' b=H b) (new:∀b o,H b=none→H' b=some o→Z9 X.prog X.w H' h' b o):Inv X pins σ H' { s with heap:=h',toks:=t' }:=by
 refine I.un (t':=t') ⟨fun b u q _ _ _=>k b u q,fun b u q _ _ _=>⟨u.slots,k b u q⟩,fun b u q n _=>by rw[low b (Qr q)];exact n,fun b u q _=>⟨u,k b u q⟩,fun b xs q=>same b _ q,fun b u xs q=>same b _ q,fun b ps q=>⟨#[],by rw[same b _ q];simp⟩⟩ fun b u e=>?_
 cases hb:H b with
 | none=>exact new b u hb e
 | some v =>
  have:=same b v hb
  rw[this]at e
  cases e
  exact(I.hok b _ hb).stay (fun c x _ q=>k c x q) (fun c q=>same c _ q) fun c xs q=>same c _ q
def ZdB(ts:List (Addr×Key×V))(l:Addr)(H:Hp):Hp:=fun b=>if b=l then some (.lst (ts.map fun t=>V.ref t.1)) else
 match ts.find? fun t=>decide (t.1=b) with
 | some t=>some (.tup [kV t.2.1,t.2.2])
 | none=>H b
theorem Zii(ts:List (Addr×Key×V))(l:Addr)(H:Hp):ZdB ts l H l=some (.lst (ts.map fun t=>V.ref t.1)):=by unfold ZdB;rw[if_pos rfl]
theorem ZpD{ts:List (Addr×Key×V)}(nd:(ts.map (·.1)).Nodup){t:Addr×Key×V}(h:t∈ts):(ts.find? fun x=>decide (x.1=t.1))=some t:=by
 induction ts with
 | nil=>cases h
 | cons x r ih =>
  rw[Qh,QV]at nd
  rw[Q8]
  rcases QI.mp h with rfl|h
  ·rw[decide_eq_true rfl]
  ·rw[decide_eq_false (fun z:x.1=t.1=>nd.1 (by rw[z];exact Qd (f:=fun x:Addr×Key×V=>x.1) h))]
   exact ih nd.2 h
theorem ZhA{ts:List (Addr×Key×V)}{l:Addr}{H:Hp}(nd:(ts.map (·.1)).Nodup)(hl:l ∉ ts.map (·.1)){t:Addr×Key×V}(h:t∈ts):ZdB ts l H t.1=some (.tup [kV t.2.1,t.2.2]):=by
 unfold ZdB
 rw[if_neg (fun z:t.1=l=>hl (by rw[← z];exact Qd (f:=fun x:Addr×Key×V=>x.1) h)),ZpD nd h]
theorem Zez{ts:List (Addr×Key×V)}{l:Addr}{H:Hp}{b:Addr}(hl:b≠l)(h:b ∉ ts.map (·.1)):ZdB ts l H b=H b:=by
 unfold ZdB
 rw[if_neg hl]
 cases e:ts.find? fun t=>decide (t.1=b) with
 | none=>rfl
 | some t =>
  have h1:=List.find?_some e
  have h2:=Qak e
  have h3:t.1=b:=of_decide_eq_true h1
  exact absurd (by rw[← h3];exact Qd (f:=fun x:Addr×Key×V=>x.1) h2) h
def Zmi(to:TE):TE:=fun σ H Q=>to σ H fun x H1=>∃d kvs,x=.ref d∧H1 d=some (.dK kvs) ∧
 ∀ (l:Addr) (ts:List (Addr×Key×V)) (H2:Hp),H1 l=none→ts.map (·.2)=kvs→(∀t∈ts,H1 t.1=none∧H2 t.1=some (.tup [kV t.2.1,t.2.2]))→(∀b o,H1 b=some o→H2 b=some o)→H2 l=some (.lst (ts.map fun t=>V.ref t.1))→Q (.ref l) H2
theorem Zi5{X:Cx}{o:Expr}{to:TE}{apos cpos pos p:Pos}(hc:X.calm=true)(hg:Gl X "list")(hm:X.mg "list" = none)(ho:PE X o to)(hbase:attributeBase o "items" X.env (eval o X.env)=eval o X.env:=by rfl)(hline:(apos.endLine == cpos.line)=true:=by rfl)
  (he:starEach [.Call (.Attribute o "items" apos) [] [] cpos] X.env=[(false,eval (.Call (.Attribute o "items" apos) [] [] cpos) X.env)]:=by rfl) :
  PE X (.Call (.Name "list" p) [.Call (.Attribute o "items" apos) [] [] cpos] [] pos) (Zmi to):=by
 intro pins s σ H Q I h
 refine wpAny_Call_Name_kw (Zd1 I hg hm boot_list ?_ (by decide) (by decide))
 refine QW (e:=.Call (.Attribute o "items" apos) [] [] cpos) (rest:=[]) ?_ he rfl
 rw[he]
 refine Calls.spliced_cons ?_
 refine wpAny_Call_method0_late hbase hline (thn (ho pins s σ H _ I h) ?_)
 rintro v s1 ⟨x,H1,I1,r1,q1⟩
 obtain⟨d,kvs,e,hd,q⟩:=q1
 subst e
 cases r1
 obtain⟨z,lo,vs,rel,ob,es,ep,h1,h2,h3,h4⟩:=(show Z9 X.prog X.w H1 s1.heap d (.dK kvs) from I1.hok d _ hd)
 have hlen:kvs.length=vs.length:=rel.length
 have dd:s1.heap.DictOf (ZN X.prog X.w) d vs:=⟨ob,es,ep,h1,h2,h3,h4⟩
 refine⟨"dict", "dict.items",QX,Qaq,PySem.F.type_dict_items,dd.typeIs,fun a e=>?_,?_⟩
 ·cases e;exact⟨ob,h1,h2.2.1⟩
 refine Calls.callWith_builtin rfl (QaF ?_)
 refine call_meetsIn Qaq dd.typeIs PySem.F.entry_dict_items (PySem.F.args_dict_items_1 _) (meets_dict_items (ZN X.prog X.w) d lo) ⟨⟨vs,dd⟩,?_⟩
 have hv:(s1.heap.push { cls:=.type "dict_items",data:=.fields #[.ref d] }).IsItemsView s1.heap.objs.size d:=⟨_,Qq _ rfl,rfl,rfl⟩
 have da:(s1.heap.push { cls:=.type "dict_items",data:=.fields #[.ref d] }).DictAt (ZN X.prog X.w) d vs ep:=⟨ob,es,Qc _ h1,h2,h3,h4⟩
 refine Calls.spliced_nil ?_
 refine PySem.W.kdx_call (s:={ s1 with heap:=s1.heap.push { cls:=.type "dict_items",data:=.fields #[.ref d] } }) (I1.ok.hd hc) hv da (by omega) fun h' tk acc c as k hL hla hG hacc=>?_
 have hps:(s1.heap.push { cls:=.type "dict_items",data:=.fields #[.ref d] }).objs.size=s1.heap.objs.size+1:=Q7 _ _
 have hlk:as.length=kvs.length:=by omega
 obtain⟨ts,e1,e2⟩:∃ts:List (Addr×Key×V),ts.map (·.1)=as∧ts.map (·.2)=kvs:=⟨as.zip kvs,by rw[List.map_fst_zip (by omega)],by rw[List.map_snd_zip (by omega)]⟩
 have hlo:∀a∈as,s1.heap.objs.size+1<a:=fun a ha=>by have:=hG.above a ha;rw[hps]at this;exact this
 have nda:(ts.map (·.1)).Nodup:=by rw[e1];exact hG.rise.imp fun h=>QC h
 have hnl:(s1.heap.push { cls:=.type "dict_items",data:=.fields #[.ref d] }).objs.size ∉ ts.map (·.1):=by rw[e1];intro z;have:=hlo _ z;omega
 have fr:∀b,s1.heap.objs.size≤b→H1 b=none:=fun b hb=>I1.hok.fresh hb
 have tup:∀t∈ts,∃key u,ZI (kV t.2.1) key∧ZI t.2.2 u∧h'.get? t.1=some { cls:=.type "tuple",data:=.seq #[key,u] }:=fun t ht=>by
  obtain⟨j,hj⟩:=Qax.mp ht
  have ja:as[j]? = some t.1:=by rw[← e1,Qn,hj];rfl
  have jk:kvs[j]? = some (t.2.1,t.2.2):=by rw[← e2,Qn,hj];rfl
  obtain⟨key,k',x,hv',hk',hg⟩:=hG.pairs j t.1 ja
  obtain⟨u,hu,ru⟩:=ZiT rel j t.2.1 t.2.2 jk
  rw[hv']at hu
  cases hu
  exact⟨key,_,Zgn hk',ru,hg⟩
 refine⟨.ref (s1.heap.push { cls:=.type "dict_items",data:=.fields #[.ref d] }).objs.size,ZdB ts (s1.heap.push { cls:=.type "dict_items",data:=.fields #[.ref d] }).objs.size H1,?_,rfl,q _ ts _ (fr _ (by omega)) e2 (fun t ht=>⟨fr _ ?_,ZhA nda hnl ht⟩) (fun b o hb=>?_) (Zii _ _ _)⟩
 ·refine I1.laidMany (h':=h') (t':=tk) (fun b u e=>k b u (Qc _ e)) (fun b o hb=>?_) (fun b hb=>?_) (fun b o hn hb=>?_)
  ·rw[Zez (fun z=>by rw[z,fr _ (by omega)]at hb;cases hb) (fun z=>by rw[e1]at z;rw[fr b (by have:=hlo b z;omega)]at hb;cases hb)]
   exact hb
  ·exact Zez (by rw[hps];exact QC (Nat.lt_succ_of_lt hb)) (fun z=>by rw[e1]at z;have:=hlo b z;omega)
  ·by_cases h5:b=(s1.heap.push { cls:=.type "dict_items",data:=.fields #[.ref d] }).objs.size
   ·subst h5
    rw[Zii]at hb
    cases hb
    refine⟨by have:=congrArg List.length e2;rw[Qa]at this ⊢;omega,acc.toList,c,?_,by simpa using hL⟩
    rw[hacc,← e1,Qj]
    clear e1 e2 nda hnl tup
    induction ts with
    | nil=>exact .nil
    | cons t r ih=>exact .cons rfl ih
   ·by_cases h6:b∈ts.map (·.1)
    ·obtain⟨t,ht,rfl⟩:=Qo.mp h6
     rw[ZhA nda hnl ht]at hb
     cases hb
     obtain⟨key,u,rk,ru,hg⟩:=tup t ht
     exact⟨by show 2≤sizeLine;decide,[key,u],.cons rk (.cons ru .nil),_,hg,rfl,_,rfl⟩
    ·rw[Zez h5 h6,hn]at hb
     cases hb
 ·have:=hlo t.1 (by rw[← e1];exact Qd (f:=fun x:Addr×Key×V=>x.1) ht)
  omega
 ·rw[Zez (fun z=>by rw[z,fr _ (by omega)]at hb;cases hb) (fun z=>by rw[e1]at z;rw[fr b (by have:=hlo b z;omega)]at hb;cases hb)]
  exact hb
theorem ZqS{X:Cx}{k:Nat}{o e:Expr}{td ty:TE}{apos cpos:Pos}(hr:ZaV k X.A)(ho:PE X o td)(he:PE X e ty)(hb:attributeBase o "get" X.env (eval o X.env)=eval o X.env:=by rfl)
  (hl:(apos.endLine == cpos.line)=true:=by rfl) (ht:backTo cpos (starEach [e] X.env)=[(false,eval e X.env)]:=by rfl):PE X (.Call (.Attribute o "get" apos) [e] [] cpos) (Zoe td ty):=by
 refine Zm3 (Zll hr) ho he ⟨hb,?_,hl,ht⟩
 rw[ht];rfl
section
variable {prog:Program} {w:World} {A:Around} {E:Value→Shared→Prop} {s:Shared} {l:Addr} {xs:Array (Int×Tok)}
end
def rMinQ(K:PySem.W.Frag):List V→Hp→VK→Prop:=fun vs H Q=>∃ (p:Addr) (ns:List Int),vs=[.ref p]∧SqT K H p (ns.map V.int)∧0<ns.length∧∀M,M∈ns→(∀a∈ns,M≤a)→Q (.int M) H
section
variable {X:Cx}
theorem Zoz{x:Str}{n:Int}{pos:Pos}(hm:∃tk,X.mg x=some (.int n tk))(hg:Gl X x:=by rfl)(hd:(x == ("__debug__" : Str))=false:=by decide):PE X (.Name x pos) (tC (.int n)):=by
 obtain⟨tk,h⟩:=hm
 exact ZoT hg h ⟨tk,rfl⟩ hd
end
section
variable {X:Cx}
theorem ZlS:OpR X (compareOp .GtE) (fun x y H Q=>∃i j,x=.str i∧y=.str j∧Q (.bl (!decide (i.cps.toList<j.cps.toList))) H):=by
 intro pins s σ H x y v u Q I rx ry h
 obtain⟨i,j,rfl,rfl,q⟩:=h
 obtain⟨t,rfl⟩:=rx
 obtain⟨t',rfl⟩:=ry
 exact PySem.P.ge_str (ZV I q rfl)
end
def ZqC(t:TS):TS:=fun D σ H=>∃d u,H d=some u∧Mut (some u)∧t ⟨fun σ' H'=>∃o,H' d=some (.frz o u)∧D.nx σ' (upd H' d u),fun _ _=>False,fun _ _=>False,fun _ _=>False⟩ σ H
theorem ZoH{X:Cx}{e:Stmt}{t:TS}(h:PS X e t):PS X e (ZqC t):=by
 intro pins s σ H D I q
 obtain⟨d,u,e1,mu,q⟩:=q
 have n:=I.nofrz e1 mu
 refine thn (h pins s σ H _ I q) fun f s1 z=>?_
 cases f with
 | next =>
  obtain⟨σ',H',I1,o,e2,q1⟩:=z
  exact⟨σ',_,I1.thaw e2 mu n,q1⟩
 | brk=>obtain⟨σ',H',_,q1⟩:=z;exact q1.elim
 | cont=>obtain⟨σ',H',_,q1⟩:=z;exact q1.elim
 | ret v=>obtain⟨v',σ',H',_,_,q1⟩:=z;exact q1.elim
def ZsI(t u:TS):TS:=fun D σ H=>∃M:St→Hp→Prop,t { D with nx:=M } σ H∧∀σ' H',M σ' H'→u D σ' H'
theorem ZdG{X:Cx}{st:Stmt}{rest:List Stmt}{t u:TS}(h1:PS X st t)(h2:PSs X rest u):PSs X (st::rest) (ZsI t u):=by
 intro pins s σ H D I h
 obtain⟨M,h,hm⟩:=h
 refine wpAny_execs_cons (thn (h1 pins s σ H { D with nx:=M } I h) fun f s1 q=>?_)
 cases f with
 | next =>
  obtain⟨σ',H',I',q⟩:=q
  exact h2 pins s1 σ' H' D I' (hm σ' H' q)
 | ret v=>exact q
 | brk=>exact q
 | cont=>exact q
end L2
set_option maxHeartbeats 9000000
namespace My
open PySem L2 PyProof.Rows
abbrev Ztl:=@List.tail Stmt
abbrev Zt2(x:List Stmt):=Ztl (Ztl x)
abbrev Zt4(x:List Stmt):=Zt2 (Zt2 x)
abbrev Zt8(x:List Stmt):=Zt4 (Zt4 x)
abbrev Zt16(x:List Stmt):=Zt8 (Zt8 x)
abbrev Zt32(x:List Stmt):=Zt16 (Zt16 x)
local macro_rules|`(‹$i:num›)=>`(@pv _ $i _ _ (by rfl) (Or.inl rfl) (by decide) (by decide))
local macro_rules|`(tactic|trivial)=>`(tactic|first|exact .inl rfl|exact .inr rfl|decide|exact Nat.le_refl _|omega)
local macro_rules
|`(#[Xns,$a,$b,$c])=>`(PySem.W.nsIn $a mainGlobals $b=some (some (.ref $c)))
|`(#[Xfi,$a,$b,$c,$d])=>`(PySem.W.findIn $a (.ref $b) $c=some (some (.ref $d)))
|`(#[Xlk,$z,$a,$b,$c,$d,$e,$f,$g,$h,$i,$j,$k,$l,$m])=>`(($z).lookup $a=some ⟨$b,$c,.func (PySem.W.fnOf $d $e (Zp $f) (Zn $f) (Zg $f) .none $g $h $i $j $k $l),$m⟩)
|`(#[Xci,$a,$b,$c])=>`(PySem.W.codeIn $a $b $c=true)
|`(#[Xki,$a,$b])=>`(PySem.W.keepIn $a (.ref $b)=true)
|`(#[Xif,$a,$b])=>`(PySem.W.isFn $a (.ref $b)=true)
|`(#[Zf,$a,$b])=>`(@Zf _ _ _ _ _ $a $b)
|`(#[Zy,$a,$b,$c,$d])=>`(@Zy _ _ $a _ _ _ _ $b rfl $c $d (by rfl) (by trivial))
|`(#[ZE,$a,$b,$c])=>`(@ZE _ _ _ _ _ _ _ _ $a $b $c)
|`(#[Zi])=>`(@Zi _ _ _ _)
|`(#[Zj,$a])=>`(@Zj _ _ _ $a)
|`(#[Zr,$a])=>`(@Zr _ _ _ _ $a)
|`(#[Zbu,$a,$b,$c])=>`(@Zbu _ _ _ _ _ _ _ _ $a $b $c)
|`(#[Zo,$a,$b,$c,$d])=>`(@Zo _ _ _ _ _ _ _ _ $a $b $c $d)
|`(#[Zk,$a,$b,$c,$d,$e])=>`(@Zk _ _ _ _ _ _ _ _ _ $a $b $c $d $e (by decide) (by decide) (by rfl) (by rfl))
|`(#[Za,$a,$b])=>`(@Za _ _ _ _ _ $a $b (by rfl))
|`(#[Ze])=>`(@Ze _)
|`(#[Zm,$a,$b,$c])=>`(@Zm _ _ _ _ _ _ _ $a $b $c (fun _ _=>rfl))
|`(#[Zab,$a])=>`(@Zab _ _ _ _ $a)
|`(#[ZaT,$a,$b,$c,$d])=>`(@ZaT _ _ _ _ _ _ _ _ _ $a (by rfl) $b $c $d (by decide) (by decide) (by rfl) (by rfl))
|`(#[Za5,$a,$b,$c,$d])=>`(@Za5 _ _ _ _ _ _ _ _ $a $b $c $d)
|`(#[Z4,$a,$b])=>`(@Z4 _ _ _ _ _ _ $a $b (by rfl) (by rfl) (by rfl))
|`(#[ZaS,$a,$b,$c])=>`(@ZaS _ _ _ _ _ _ _ $a $b $c (by intro _;rfl))
|`(#[Z3,$a,$b,$c])=>`(@Z3 _ _ _ _ _ _ _ _ $a $b $c)
|`(#[ZF])=>`(@ZF _)
|`(#[Zv,$a,$b,$c,$d])=>`(@Zv _ _ _ _ _ _ _ _ _ _ _ $a $b $c (by trivial) $d (by decide) (by rfl) (by rfl))
|`(#[Zz])=>`(@Zz _ _ _ _)
|`(#[Zdw,$a,$b,$c,$d,$e])=>`(@Zdw _ _ _ _ _ _ _ _ _ _ _ _ _ _ $a rfl rfl rfl $b $c $d $e (by intro _;rfl))
|`(#[Zbi,$a,$b])=>`(@Zbi _ _ _ _ _ _ rfl $a $b (by rfl))
|`(#[pv,$a,$b])=>`(@pv _ $a _ _ (by rfl) $b (by decide) (by decide))
|`(#[cg,$a,$b])=>`(@cg _ _ _ _ _ _ _ _ _ _ _ $a $b rfl (by ac_rfl) (by rfl))
|`(#[cv,$a,$b])=>`(@cv _ _ _ _ _ _ _ _ _ _ _ $a $b rfl (by ac_rfl) (by rfl) (by decide) (by decide))
|`(#[ZdJ,$a,$b,$c,$d,$e,$f])=>`(@ZdJ _ _ _ _ _ _ _ _ _ _ _ _ $a $b $c $d $e $f (by rfl) (by rfl) (by rfl) (by rfl) (by rfl))
|`(#[ZbQ,$a,$b])=>`(@ZbQ _ _ _ _ _ _ _ $a $b)
|`(#[ZbH,$a])=>`(@ZbH _ _ _ _ $a)
|`(#[ZbP,$a])=>`(@ZbP _ _ _ $a (by intro _;rfl))
|`(#[ZaC,$a])=>`(@ZaC _ _ _ _ _ $a)
|`(#[Zdo,$a,$b])=>`(@Zdo _ _ _ _ $a $b (by rfl) (by decide) (by decide))
|`(#[Zig,$a,$b])=>`(@Zig _ _ _ _ _ _ _ $a $b)
|`(#[Zf1])=>`(@Zf1 _ _ _ _)
|`(#[ZdS,$a,$b])=>`(@ZdS _ _ _ _ _ _ _ $a $b)
|`(#[ZeT,$a])=>`(@ZeT _ _ _ _ _ $a)
|`(#[gT,$a,$b,$c])=>`(@gT _ $a _ _ _ $b _ $c (by rfl) (by rfl) (by rfl) (by rfl))
|`(#[ZC,$a,$b])=>`(@ZC _ _ _ _ _ $a $b (by rfl))
|`(#[cw,$a,$b])=>`(@cw _ _ _ _ _ _ _ _ _ _ _ $a $b rfl (by ac_rfl) (by rfl) (by decide) (by decide))
|`(#[ZW])=>`(@ZW _ _ _)
|`(#[ZbK,$a,$b,$c,$d])=>`(@ZbK _ _ _ _ _ _ _ _ $a rfl $b $c $d (by intro _;rfl))
|`(#[ZD,$a,$b,$c])=>`(@ZD _ _ $a _ $b rfl $c (by trivial))
|`(#[neD,$a,$b])=>`(@neD _ $a _ $b (by rfl))
|`(#[Z8,$a])=>`(@Z8 _ _ _ _ $a (by rfl))
|`(#[iE,$a,$b,$c])=>`(@iE _ $a _ _ _ _ _ _ _ $b $c (by rfl) (by rfl) (by rfl))
|`(#[Zg1,$a,$b])=>`(@Zg1 _ _ _ _ _ _ $a $b)
|`(#[ZdX,$a,$b,$c,$d])=>`(@ZdX _ _ _ _ _ _ _ _ _ _ $a $b $c $d)
|`(#[ZO,$a])=>`(@ZO _ _ _ _ _ $a (by rfl))
|`(#[Zav,$a,$b,$c,$d])=>`(@Zav _ _ _ _ _ _ _ _ _ _ _ _ $a $b $c $d (by trivial) (by rfl))
|`(#[ZbC,$a,$b])=>`(@ZbC _ _ _ _ _ _ _ _ $a $b (by rfl))
|`(#[ZdC,$a,$b,$c,$d,$e,$f,$g])=>`(@ZdC _ _ _ _ _ $a _ _ _ _ _ _ _ _ _ _ _ _ $b rfl (Or.inl rfl) $c rfl rfl rfl $d $e $f $g (by rfl) (by intro _;rfl) (by trivial))
|`(#[iL,$a,$b])=>`(@iL _ $a _ _ _ $b (by rfl))
|`(#[ZfI,$a,$b,$c,$d])=>`(@ZfI _ _ $a $b _ _ _ _ _ _ _ _ _ _ _ rfl $c rfl rfl (by decide) rfl rfl $d rfl (by rfl))
|`(#[ZdW,$a,$b,$c])=>`(@ZdW _ _ _ _ _ _ _ _ _ $a $b $c)
|`(#[Zc1,$a,$b,$c])=>`(@Zc1 _ _ _ _ _ _ _ _ _ _ $a $b $c)
|`(#[ZcG,$a,$b,$c,$d,$e])=>`(@ZcG _ _ _ _ _ _ _ _ _ _ _ _ _ _ _ $a $b $c $d $e (by trivial) (by rfl) (by rfl) (by rfl))
|`(#[Zn2,$a,$b,$c])=>`(@Zn2 _ _ _ _ _ _ _ _ _ _ _ _ $a $b $c (by trivial) (by rfl) (by decide) (by rfl) (by rfl))
|`(#[Zd4,$a])=>`(@Zd4 _ _ _ _ $a)
theorem xw4{α0:Type _}{α1:Type _}{α2:Type _}{α3:Type _}{p:α0→α1→α2→α3→Prop}(a0:α0)(a1:α1)(a2:α2)(a3:α3)(h:p a0 a1 a2 a3):∃a0 a1 a2 a3,p a0 a1 a2 a3:=⟨a0,a1,a2,a3,h⟩
theorem xw5{α0:Type _}{α1:Type _}{α2:Type _}{α3:Type _}{α4:Type _}{p:α0→α1→α2→α3→α4→Prop}(a0:α0)(a1:α1)(a2:α2)(a3:α3)(a4:α4)(h:p a0 a1 a2 a3 a4):∃a0 a1 a2 a3 a4,p a0 a1 a2 a3 a4:=⟨a0,a1,a2,a3,a4,h⟩
theorem xw7{α0:Type _}{α1:Type _}{α2:Type _}{α3:Type _}{α4:Type _}{α5:Type _}{α6:Type _}{p:α0→α1→α2→α3→α4→α5→α6→Prop}(a0:α0)(a1:α1)(a2:α2)(a3:α3)(a4:α4)(a5:α5)(a6:α6)(h:p a0 a1 a2 a3 a4 a5 a6):∃a0 a1 a2 a3 a4 a5 a6,p a0 a1 a2 a3 a4 a5 a6:=⟨a0,a1,a2,a3,a4,a5,a6,h⟩
theorem xw8{α0:Type _}{α1:Type _}{α2:Type _}{α3:Type _}{α4:Type _}{α5:Type _}{α6:Type _}{α7:Type _}{p:α0→α1→α2→α3→α4→α5→α6→α7→Prop}(a0:α0)(a1:α1)(a2:α2)(a3:α3)(a4:α4)(a5:α5)(a6:α6)(a7:α7)(h:p a0 a1 a2 a3 a4 a5 a6 a7):∃a0 a1 a2 a3 a4 a5 a6 a7,p a0 a1 a2 a3 a4 a5 a6 a7:=⟨a0,a1,a2,a3,a4,a5,a6,a7,h⟩
theorem xw9{α0:Type _}{α1:Type _}{α2:Type _}{α3:Type _}{α4:Type _}{α5:Type _}{α6:Type _}{α7:Type _}{α8:Type _}{p:α0→α1→α2→α3→α4→α5→α6→α7→α8→Prop}(a0:α0)(a1:α1)(a2:α2)(a3:α3)(a4:α4)(a5:α5)(a6:α6)(a7:α7)(a8:α8)(h:p a0 a1 a2 a3 a4 a5 a6 a7 a8):∃a0 a1 a2 a3 a4 a5 a6 a7 a8,p a0 a1 a2 a3 a4 a5 a6 a7 a8:=⟨a0,a1,a2,a3,a4,a5,a6,a7,a8,h⟩
theorem Zl7{α0:Type _}{α1:Type _}{α2:Type _}{α3:Type _}{α4:Type _}{α5:Type _}{α6:Type _}{α7:Type _}{α8:Type _}{α9:Type _}{p:α0→α1→α2→α3→α4→α5→α6→α7→α8→α9→Prop}(a0:α0)(a1:α1)(a2:α2)(a3:α3)(a4:α4)(a5:α5)(a6:α6)(a7:α7)(a8:α8)(a9:α9)(h:p a0 a1 a2 a3 a4 a5 a6 a7 a8 a9):∃a0 a1 a2 a3 a4 a5 a6 a7 a8 a9,p a0 a1 a2 a3 a4 a5 a6 a7 a8 a9:=⟨a0,a1,a2,a3,a4,a5,a6,a7,a8,a9,h⟩
theorem Zsg{α0:Type _}{α1:Type _}{α2:Type _}{α3:Type _}{α4:Type _}{α5:Type _}{α6:Type _}{α7:Type _}{α8:Type _}{α9:Type _}{α10:Type _}{p:α0→α1→α2→α3→α4→α5→α6→α7→α8→α9→α10→Prop}(a0:α0)(a1:α1)(a2:α2)(a3:α3)(a4:α4)(a5:α5)(a6:α6)(a7:α7)(a8:α8)(a9:α9)(a10:α10)(h:p a0 a1 a2 a3 a4 a5 a6 a7 a8 a9 a10):∃a0 a1 a2 a3 a4 a5 a6 a7 a8 a9 a10,p a0 a1 a2 a3 a4 a5 a6 a7 a8 a9 a10:=⟨a0,a1,a2,a3,a4,a5,a6,a7,a8,a9,a10,h⟩
theorem ZrQ{α0:Type _}{α1:Type _}{α2:Type _}{α3:Type _}{α4:Type _}{α5:Type _}{α6:Type _}{α7:Type _}{α8:Type _}{α9:Type _}{α10:Type _}{α11:Type _}{α12:Type _}{p:α0→α1→α2→α3→α4→α5→α6→α7→α8→α9→α10→α11→α12→Prop}(a0:α0)(a1:α1)(a2:α2)(a3:α3)(a4:α4)(a5:α5)(a6:α6)(a7:α7)(a8:α8)(a9:α9)(a10:α10)(a11:α11)(a12:α12)(h:p a0 a1 a2 a3 a4 a5 a6 a7 a8 a9 a10 a11 a12):∃a0 a1 a2 a3 a4 a5 a6 a7 a8 a9 a10 a11 a12,p a0 a1 a2 a3 a4 a5 a6 a7 a8 a9 a10 a11 a12:=⟨a0,a1,a2,a3,a4,a5,a6,a7,a8,a9,a10,a11,a12,h⟩
theorem Zp9{α0:Type _}{α1:Type _}{α2:Type _}{α3:Type _}{α4:Type _}{α5:Type _}{α6:Type _}{α7:Type _}{α8:Type _}{α9:Type _}{α10:Type _}{α11:Type _}{α12:Type _}{α13:Type _}{p:α0→α1→α2→α3→α4→α5→α6→α7→α8→α9→α10→α11→α12→α13→Prop}(a0:α0)(a1:α1)(a2:α2)(a3:α3)(a4:α4)(a5:α5)(a6:α6)(a7:α7)(a8:α8)(a9:α9)(a10:α10)(a11:α11)(a12:α12)(a13:α13)(h:p a0 a1 a2 a3 a4 a5 a6 a7 a8 a9 a10 a11 a12 a13):∃a0 a1 a2 a3 a4 a5 a6 a7 a8 a9 a10 a11 a12 a13,p a0 a1 a2 a3 a4 a5 a6 a7 a8 a9 a10 a11 a12 a13:=⟨a0,a1,a2,a3,a4,a5,a6,a7,a8,a9,a10,a11,a12,a13,h⟩
def hdS:List Stmt→Stmt
 | a::_=>a
 | []=>.Pass ⟨0,0,0,0⟩
abbrev Z2:List Stmt:=PySem.Challenge.pw_mergetree_k20_rows_that_grow.main.body
abbrev Zoo:Stmt:=hdS (Zt2 Z2)
abbrev Zsq:Stmt:=hdS (Zt2 (Ztl Z2))
abbrev Zr2:Stmt:=hdS (Zt4 Z2)
abbrev Zhn:Stmt:=hdS (Zt4 (Ztl Z2))
abbrev Zgq:Stmt:=hdS (Zt16 (Zt4 Z2))
abbrev Zaj:Stmt:=hdS (Zt16 (Zt4 (Ztl Z2)))
abbrev Zrm:Stmt:=hdS Z2
abbrev Zc8:Stmt:=hdS (Zt4 (Zt2 (Ztl Z2)))
abbrev Zc9:Stmt:=hdS (Zt8 Z2)
abbrev Zd5:Stmt:=hdS (Zt8 (Zt2 Z2))
abbrev Zen:Stmt:=hdS (Zt8 (Zt2 (Ztl Z2)))
abbrev Zbp:Stmt:=hdS (Zt8 (Zt4 Z2))
abbrev Zbq:Stmt:=hdS (Zt8 (Zt4 (Ztl Z2)))
abbrev ZbW:Stmt:=hdS (Zt8 (Zt4 (Zt2 Z2)))
abbrev Zbd:Stmt:=hdS (Zt16 Z2)
abbrev Zda:Stmt:=hdS (Zt16 (Ztl Z2))
abbrev Za1:Stmt:=hdS (Zt16 (Zt4 (Zt2 Z2)))
abbrev Zbs:Stmt:=hdS (Zt16 (Zt4 (Zt2 (Ztl Z2))))
abbrev Zec:Stmt:=hdS (Zt16 (Zt8 (Ztl Z2)))
abbrev Zdi:Stmt:=hdS (Zt16 (Zt8 (Zt2 Z2)))
abbrev Zdc:Stmt:=hdS (Zt16 (Zt8 (Zt2 (Ztl Z2))))
abbrev ZbN:Stmt:=hdS (Zt16 (Zt8 (Zt4 Z2)))
abbrev Zc2:Stmt:=hdS (Zt16 (Zt8 (Zt4 (Ztl Z2))))
abbrev Zdj:Stmt:=hdS (Zt16 (Zt8 (Zt4 (Zt2 Z2))))
abbrev Zd9:Stmt:=hdS (Zt16 (Zt8 (Zt4 (Zt2 (Ztl Z2)))))
abbrev Zc6:Stmt:=hdS (Zt32 Z2)
abbrev Zcj:Stmt:=hdS (Zt32 (Ztl Z2))
abbrev Zcs:Stmt:=hdS (Zt32 (Zt2 Z2))
abbrev ZbX:Stmt:=hdS (Zt32 (Zt2 (Ztl Z2)))
abbrev ZbM:Stmt:=hdS (Zt32 (Zt4 Z2))
abbrev Zck:Stmt:=hdS (Zt32 (Zt4 (Ztl Z2)))
abbrev Zct:Stmt:=hdS (Zt32 (Zt4 (Zt2 Z2)))
abbrev Zcr:Stmt:=hdS (Zt32 (Zt4 (Zt2 (Ztl Z2))))
abbrev Za2:Stmt:=hdS (Zt32 (Zt8 Z2))
abbrev Zc3:Stmt:=hdS (Zt32 (Zt8 (Ztl Z2)))
abbrev ZdU:Stmt:=hdS (Zt32 (Zt8 (Zt2 Z2)))
abbrev Zb5:Stmt:=hdS (Zt32 (Zt8 (Zt2 (Ztl Z2))))
abbrev Zcz:Stmt:=hdS (Zt32 (Zt8 (Zt4 Z2)))
abbrev Zbh:Stmt:=hdS (Zt32 (Zt8 (Zt4 (Ztl Z2))))
abbrev Zb3:Stmt:=hdS (Zt32 (Zt8 (Zt4 (Zt2 Z2))))
abbrev ZcW:Stmt:=hdS (Zt32 (Zt8 (Zt4 (Zt2 (Ztl Z2)))))
abbrev Zca:Stmt:=hdS (Zt32 (Zt16 Z2))
abbrev ZkM:Stmt:=Z7 Zhn 0
abbrev Zbe:Stmt:=Z7 Zgq 0
abbrev Zop:Stmt:=Z7 Zgq 1
abbrev ZaW:Stmt:=Z7 Zgq 2
abbrev Zbf:Stmt:=Z7 Zgq 3
abbrev Zas:Stmt:=Z7 Zgq 4
abbrev ZaK:Stmt:=Z7 Zaj 0
abbrev Zar:Stmt:=Z7 Zaj 1
abbrev ZaP:Stmt:=Z7 Zaj 2
abbrev Zaa:Stmt:=Z7 Zaj 3
abbrev Zax:Stmt:=Z7 Zaj 4
abbrev Zao:Stmt:=Z7 Zaj 5
abbrev Z5:Stmt:=Z7 Zaj 6
abbrev ZaA:Stmt:=Z7 Zaj 7
abbrev Zoq:Stmt:=Z7 Zaj 8
abbrev Zal:Stmt:=Z7 Zaj 9
abbrev Zad:Stmt:=Z7 Zaj 10
abbrev ZaM:Stmt:=Z7 Zaj 11
abbrev Zap:Stmt:=Z7 Zaj 12
abbrev Zae:Stmt:=Z7 Zaj 13
abbrev ZaL:Stmt:=Z7 Zaj 14
abbrev Zac:Stmt:=Z7 Zaj 15
abbrev ZZ:Stmt:=Z7 Zaj 16
abbrev ZaJ:Stmt:=Z7 Zaj 17
theorem ZjC:Zq ["_law_cell", "_law_k", "_law_m"] ["_law_cell", "_law_k"] (Zg Zec):=⟨rfl,rfl,rfl,by ac_rfl,rfl,by ac_rfl,by ac_rfl⟩
theorem Zio:Zq ["_law_script", "_law_k", "_law_cell"] ["_law_script", "_law_k"] (Zg Zdi):=⟨rfl,rfl,rfl,by ac_rfl,rfl,by ac_rfl,by ac_rfl⟩
theorem ZhQ:Zq ["_law_left_here", "_law_many_here", "_law_digit"] ["_law_left_here", "_law_many_here"] (Zg Zdc):=⟨rfl,rfl,rfl,by ac_rfl,rfl,by ac_rfl,by ac_rfl⟩
theorem ZgT:Zq ["_law_left_here", "_law_some"] ["_law_left_here"] (Zg ZbN):=⟨rfl,rfl,rfl,by ac_rfl,rfl,by ac_rfl,by ac_rfl⟩
theorem ZjX:Zq ["_law_left_here", "_law_stems_here", "_law_tail"] ["_law_left_here", "_law_stems_here"] (Zg Zc2):=⟨rfl,rfl,rfl,by ac_rfl,rfl,by ac_rfl,by ac_rfl⟩
theorem ZcO:Zq ["one", "other", "far", "at"] ["one", "other", "far"] (Zg Zbq):=⟨rfl,rfl,rfl,by ac_rfl,rfl,by ac_rfl,by ac_rfl⟩
theorem Zoc:Zq ["one", "other"] ["one", "other"] (Zg Zd5):=⟨rfl,rfl,rfl,by ac_rfl,rfl,by ac_rfl,by ac_rfl⟩
theorem ZeY:Zq ["_law_one", "_law_other", "_law_far"] ["_law_one", "_law_other"] (Zg Zcs):=⟨rfl,rfl,rfl,by ac_rfl,rfl,by ac_rfl,by ac_rfl⟩
theorem Zh2:Zq ["_law_found", "_law_due"] ["_law_found", "_law_due"] (Zg Zck):=⟨rfl,rfl,rfl,by ac_rfl,rfl,by ac_rfl,by ac_rfl⟩
theorem Zdm:Zq ["_law_left_here", "_law_stems_here", "_law_most", "_law_found", "_law_k", "_law_key_here"] ["_law_left_here", "_law_stems_here", "_law_most"] (Zg Zdj):=⟨rfl,rfl,rfl,by ac_rfl,rfl,by ac_rfl,by ac_rfl⟩
theorem Zet:Zq ["row", "told", "place", "key"] ["row"] (Zg Zda):=⟨rfl,rfl,rfl,by ac_rfl,rfl,by ac_rfl,by ac_rfl⟩
theorem Zjz:Zq ["one", "other", "at"] ["one", "other", "at"] (Zg ZbW):=⟨rfl,rfl,rfl,by ac_rfl,rfl,by ac_rfl,by ac_rfl⟩
theorem ZnQ:Zq ["one", "other"] ["one", "other"] (Zg Zen):=⟨rfl,rfl,rfl,by ac_rfl,rfl,by ac_rfl,by ac_rfl⟩
theorem ZeH:Zq ["one", "other", "far", "at"] ["one", "other", "far"] (Zg Zbp):=⟨rfl,rfl,rfl,by ac_rfl,rfl,by ac_rfl,by ac_rfl⟩
theorem Zel:Zq ["keys", "place"] ["keys"] (Zg Zbd):=⟨rfl,rfl,rfl,by ac_rfl,rfl,by ac_rfl,by ac_rfl⟩
theorem ZhU:Zq ["numbers", "middle"] ["numbers"] (Zg Zc8):=⟨rfl,rfl,rfl,by ac_rfl,rfl,by ac_rfl,by ac_rfl⟩
theorem Zf0:Zq ["_law_numbers", "_law_cut"] ["_law_numbers"] (Zg ZbX):=⟨rfl,rfl,rfl,by ac_rfl,rfl,by ac_rfl,by ac_rfl⟩
theorem ZhR:Zq ["_law_left_here", "_law_way_here"] ["_law_left_here"] (Zg Zc6):=⟨rfl,rfl,rfl,by ac_rfl,rfl,by ac_rfl,by ac_rfl⟩
theorem ZiL:Zq ["self"] ["self"] (Zg ZaW):=⟨rfl,rfl,rfl,by ac_rfl,rfl,by ac_rfl,by ac_rfl⟩
theorem ZjP:Zq ["self"] ["self"] (Zg Zbf):=⟨rfl,rfl,rfl,by ac_rfl,rfl,by ac_rfl,by ac_rfl⟩
theorem Zjg:Zq ["self", "keys"] ["self", "keys"] (Zg Zbe):=⟨rfl,rfl,rfl,by ac_rfl,rfl,by ac_rfl,by ac_rfl⟩
theorem ZcU:Zq ["self", "rows", "number", "keys"] ["self", "rows"] (Zg ZaK):=⟨rfl,rfl,rfl,by ac_rfl,rfl,by ac_rfl,by ac_rfl⟩
theorem ZdL:Zq ["self", "row"] ["self"] (Zg Zar):=⟨rfl,rfl,rfl,by ac_rfl,rfl,by ac_rfl,by ac_rfl⟩
theorem Zhp:Zq ["self"] ["self"] (Zg Zax):=⟨rfl,rfl,rfl,by ac_rfl,rfl,by ac_rfl,by ac_rfl⟩
theorem ZgR:Zq ["self"] ["self"] (Zg Zao):=⟨rfl,rfl,rfl,by ac_rfl,rfl,by ac_rfl,by ac_rfl⟩
theorem ZeN:Zq ["self"] ["self"] (Zg Z5):=⟨rfl,rfl,rfl,by ac_rfl,rfl,by ac_rfl,by ac_rfl⟩
theorem ZgG:Zq ["self"] ["self"] (Zg ZaA):=⟨rfl,rfl,rfl,by ac_rfl,rfl,by ac_rfl,by ac_rfl⟩
theorem Ze6:Zq ["self"] ["self"] (Zg Zae):=⟨rfl,rfl,rfl,by ac_rfl,rfl,by ac_rfl,by ac_rfl⟩
theorem Zan:Zq ["self", "numbers", "first_side", "other_side", "one", "other", "winner", "loser", "far"] ["self", "numbers"] (Zg ZaL):=⟨rfl,rfl,rfl,by ac_rfl,rfl,by ac_rfl,by ac_rfl⟩
theorem ZbT:Zq ["self", "one", "other", "far", "order", "alike_far", "seen"] ["self", "one", "other", "far"] (Zg ZaJ):=⟨rfl,rfl,rfl,by ac_rfl,rfl,by ac_rfl,by ac_rfl⟩
theorem ZdO:Zq ["number", "keys", "place"] ["number", "keys"] (Zg Za1):=⟨rfl,rfl,rfl,by ac_rfl,rfl,by ac_rfl,by ac_rfl⟩
theorem Zm1:Zq ["_law_left_here", "_law_stems_here", "_law_most"] ["_law_left_here", "_law_stems_here", "_law_most"] (Zg Zd9):=⟨rfl,rfl,rfl,by ac_rfl,rfl,by ac_rfl,by ac_rfl⟩
theorem ZfA:Zq ["_law_left_here", "_law_stems_here", "_law_most"] ["_law_left_here"] (Zg Zcj):=⟨rfl,rfl,rfl,by ac_rfl,rfl,by ac_rfl,by ac_rfl⟩
theorem ZgY:Zq ["_law_heads_here", "_law_numbers", "_law_some"] ["_law_heads_here", "_law_numbers"] (Zg ZbM):=⟨rfl,rfl,rfl,by ac_rfl,rfl,by ac_rfl,by ac_rfl⟩
theorem ZdE:Zq ["_law_rows_here", "_law_own", "_law_n", "_law_row_here"] ["_law_rows_here"] (Zg Zct):=⟨rfl,rfl,rfl,by ac_rfl,rfl,by ac_rfl,by ac_rfl⟩
theorem ZeS:Zq ["_law_own", "_law_heads_here", "_law_n"] ["_law_own"] (Zg Zcr):=⟨rfl,rfl,rfl,by ac_rfl,rfl,by ac_rfl,by ac_rfl⟩
theorem ZaD:Zq ["_law_heads_here", "_law_numbers", "_law_one", "_law_other", "_law_here", "_law_there", "_law_a", "_law_b"] ["_law_heads_here", "_law_numbers"] (Zg Za2):=⟨rfl,rfl,rfl,by ac_rfl,rfl,by ac_rfl,by ac_rfl⟩
theorem Zep:Zq ["_law_own", "_law_heads_here", "_law_likenings", "_law_looks"] ["_law_own"] (Zg Zc3):=⟨rfl,rfl,rfl,by ac_rfl,rfl,by ac_rfl,by ac_rfl⟩
theorem Zei:Zq ["_law_own", "_law_heads_here", "_law_n"] ["_law_own"] (Zg Zb5):=⟨rfl,rfl,rfl,by ac_rfl,rfl,by ac_rfl,by ac_rfl⟩
theorem ZiW:Zq ["_law_own"] ["_law_own"] (Zg Zbh):=⟨rfl,rfl,rfl,by ac_rfl,rfl,by ac_rfl,by ac_rfl⟩
theorem ZcM:Zq ["_law_merge", "_law_own", "_law_heads_here", "_law_so_far", "_law_told"] ["_law_merge", "_law_own"] (Zg Zb3):=⟨rfl,rfl,rfl,by ac_rfl,rfl,by ac_rfl,by ac_rfl⟩
theorem ZeG:Zq ["self", "thing"] ["self"] (Zg ZaP):=⟨rfl,rfl,rfl,by ac_rfl,rfl,by ac_rfl,by ac_rfl⟩
theorem ZcJ:Zq ["self", "many", "things"] ["self", "many"] (Zg Zaa):=⟨rfl,rfl,rfl,by ac_rfl,rfl,by ac_rfl,by ac_rfl⟩
theorem ZaE:Zq ["self", "number", "row", "comer", "meeting"] ["self", "number"] (Zg Zac):=⟨rfl,rfl,rfl,by ac_rfl,rfl,by ac_rfl,by ac_rfl⟩
theorem Zau:Zq ["self", "meeting", "comer", "stayer", "winner", "loser", "far"] ["self", "meeting", "comer"] (Zg ZZ):=⟨rfl,rfl,rfl,by ac_rfl,rfl,by ac_rfl,by ac_rfl⟩
theorem ZaO:Zq ["numbers", "n", "matches", "least", "greatest", "others"] ["numbers", "n"] (Zg Zbs):=⟨rfl,rfl,rfl,by ac_rfl,rfl,by ac_rfl,by ac_rfl⟩
theorem ZbL:Zq ["numbers", "n", "others", "side", "first", "rest"] ["numbers", "n"] (Zg Zc9):=⟨rfl,rfl,rfl,by ac_rfl,rfl,by ac_rfl,by ac_rfl⟩
theorem Zc4:Zq ["_law_numbers", "_law_n", "_law_some", "_law_way_here", "_law_one", "_law_other"] ["_law_numbers", "_law_n"] (Zg ZdU):=⟨rfl,rfl,rfl,by ac_rfl,rfl,by ac_rfl,by ac_rfl⟩
theorem ZaN:Zq ["_law_own", "_law_thing", "_law_n", "_law_place", "_law_key_here", "_law_heads_here", "_law_here", "_law_there", "_law_a", "_law_b", "_law_far"] ["_law_own"] (Zg Zcz):=⟨rfl,rfl,rfl,by ac_rfl,rfl,by ac_rfl,by ac_rfl⟩
theorem Zdk:Zq ["self", "row", "number"] ["self", "row"] (Zg Zal):=⟨rfl,rfl,rfl,by ac_rfl,rfl,by ac_rfl,by ac_rfl⟩
theorem Zf5:Zq ["self", "keys"] ["self", "keys"] (Zg Zas):=⟨rfl,rfl,rfl,by ac_rfl,rfl,by ac_rfl,by ac_rfl⟩
theorem Zf9:Zq ["self", "n"] ["self", "n"] (Zg Zap):=⟨rfl,rfl,rfl,by ac_rfl,rfl,by ac_rfl,by ac_rfl⟩
theorem ZcK:Zq ["self", "n", "many"] ["self", "n"] (Zg Zad):=⟨rfl,rfl,rfl,by ac_rfl,rfl,by ac_rfl,by ac_rfl⟩
theorem ZcV:Zq ["self", "n", "keys", "row", "sent_nothing"] ["self", "n", "keys"] (Zg ZaM):=⟨rfl,rfl,rfl,by ac_rfl,rfl,by ac_rfl,by ac_rfl⟩
theorem ZbO:Zq ["_law_merge", "_law_own", "_law_deed", "_law_word", "_law_n", "_law_keys_here", "_law_kept", "_law_many_here", "_law_sent_none"] ["_law_merge", "_law_own", "_law_deed"] (Zg ZcW):=⟨rfl,rfl,rfl,by ac_rfl,rfl,by ac_rfl,by ac_rfl⟩
theorem ZaR:Zq ["_law_script", "_law_k", "_law_left_here", "_law_rows_here", "_law_stems_here", "_law_own", "_law_merge", "_law_turn", "_law_again", "_law_n", "_law_ended", "_law_least_here", "_law_keys_here", "_law_due"] ["_law_script"] (Zg Zca):=⟨rfl,rfl,rfl,by ac_rfl,rfl,by ac_rfl,by ac_rfl⟩
def ZpI:Scope:={ kind:=.function,names:=[(Str.ofString ".0",.«local»),(Str.ofString "_law_k",.«local»),(Str.ofString "_law_pick",.globalImplicit),(Str.ofString "_law_left_here",.free),(Str.ofString "_law_some",.free)],isGenerator:=false,isCoroutine:=false,more:=[] }
theorem ZmT:Zaq ["_law_left_here", "_law_some"] ["_law_left_here", "_law_some", "_law_k"] (Zg ZbN) ZpI:=⟨rfl,rfl,by ac_rfl,by ac_rfl,by ac_rfl,by decide,by ac_rfl,by ac_rfl⟩
def Zrs:Scope:={ kind:=.function,names:=[(Str.ofString ".0",.«local»),(Str.ofString "_law_k",.«local»),(Str.ofString "_law_pick",.globalImplicit),(Str.ofString "_law_left_here",.cell),(Str.ofString "_law_some",.cell)],isGenerator:=false,isCoroutine:=false,more:=[] }
def Zpl:Scope:={ kind:=.function,names:=[(Str.ofString ".0",.«local»),(Str.ofString "_law_k",.«local»),(Str.ofString "_law_pick",.globalImplicit),(Str.ofString "_law_left_here",.free)],isGenerator:=false,isCoroutine:=false,more:=[] }
theorem ZoJ:Zaq ["_law_left_here", "_law_stems_here", "_law_tail"] ["_law_left_here", "_law_stems_here", "_law_tail", "_law_k"] (Zg Zc2) Zpl:=⟨rfl,rfl,by ac_rfl,by ac_rfl,by ac_rfl,by decide,by ac_rfl,by ac_rfl⟩
def Zr9:Scope:={ kind:=.function,names:=[(Str.ofString ".0",.«local»),(Str.ofString "_law_k",.«local»),(Str.ofString "_law_pick",.globalImplicit),(Str.ofString "_law_left_here",.cell)],isGenerator:=false,isCoroutine:=false,more:=[] }
def Zow:Scope:={ kind:=.function,names:=[(Str.ofString ".0",.«local»),(Str.ofString "_law_one",.«local»),(Str.ofString "_law_other",.«local»),(Str.ofString "_law_same",.globalImplicit)],isGenerator:=false,isCoroutine:=false,more:=[] }
theorem ZlO:Zaq ["_law_found", "_law_due"] ["_law_found", "_law_due", "_law_one", "_law_other"] (Zg Zck) Zow:=⟨rfl,rfl,by ac_rfl,by ac_rfl,by ac_rfl,by decide,by ac_rfl,by ac_rfl⟩
def Zr4:Scope:={ kind:=.function,names:=[(Str.ofString ".0",.«local»),(Str.ofString "_law_one",.«local»),(Str.ofString "_law_other",.«local»),(Str.ofString "_law_same",.globalImplicit)],isGenerator:=false,isCoroutine:=false,more:=[] }
def Zpj:Scope:={ kind:=.function,names:=[(Str.ofString ".0",.«local»),(Str.ofString "row",.«local»)],isGenerator:=false,isCoroutine:=false,more:=[] }
theorem Zq8:Zaq ["self"] ["self", "row"] (Zg Zax) Zpj:=⟨rfl,rfl,by ac_rfl,by ac_rfl,by ac_rfl,by decide,by ac_rfl,by ac_rfl⟩
def Zr6:Scope:={ kind:=.function,names:=[(Str.ofString ".0",.«local»),(Str.ofString "row",.«local»)],isGenerator:=false,isCoroutine:=false,more:=[] }
def Zot:Scope:={ kind:=.function,names:=[(Str.ofString ".0",.«local»),(Str.ofString "number",.«local»),(Str.ofString "row",.«local»)],isGenerator:=false,isCoroutine:=false,more:=[] }
theorem ZmC:Zaq ["self"] ["self", "number", "row"] (Zg Zao) Zot:=⟨rfl,rfl,by ac_rfl,by ac_rfl,by ac_rfl,by decide,by ac_rfl,by ac_rfl⟩
def Zrj:Scope:={ kind:=.function,names:=[(Str.ofString ".0",.«local»),(Str.ofString "number",.«local»),(Str.ofString "row",.«local»)],isGenerator:=false,isCoroutine:=false,more:=[] }
def Zox:Scope:={ kind:=.function,names:=[(Str.ofString ".0",.«local»),(Str.ofString "_law_k",.«local»),(Str.ofString "_law_row",.globalImplicit),(Str.ofString "_law_left_here",.free),(Str.ofString "_law_most",.free),(Str.ofString "_law_stems_here",.free)],isGenerator:=false,isCoroutine:=false,more:=[] }
theorem Zl1:Zaq ["_law_left_here", "_law_stems_here", "_law_most"] ["_law_left_here", "_law_stems_here", "_law_most", "_law_k"] (Zg Zcj) Zox:=⟨rfl,rfl,by ac_rfl,by ac_rfl,by ac_rfl,by decide,by ac_rfl,by ac_rfl⟩
def Zsa:Scope:={ kind:=.function,names:=[(Str.ofString ".0",.«local»),(Str.ofString "_law_k",.«local»),(Str.ofString "_law_row",.globalImplicit),(Str.ofString "_law_left_here",.cell),(Str.ofString "_law_most",.cell),(Str.ofString "_law_stems_here",.cell)],isGenerator:=false,isCoroutine:=false,more:=[] }
def Zpy:Scope:={ kind:=.function,names:=[(Str.ofString ".0",.«local»),(Str.ofString "_law_n",.«local»),(Str.ofString "_law_heads_here",.free)],isGenerator:=false,isCoroutine:=false,more:=[] }
theorem Zkd:Zaq ["_law_heads_here", "_law_numbers", "_law_some"] ["_law_heads_here", "_law_numbers", "_law_some", "_law_n"] (Zg ZbM) Zpy:=⟨rfl,rfl,by ac_rfl,by ac_rfl,by ac_rfl,by decide,by ac_rfl,by ac_rfl⟩
def ZrN:Scope:={ kind:=.function,names:=[(Str.ofString ".0",.«local»),(Str.ofString "_law_n",.«local»),(Str.ofString "_law_heads_here",.cell)],isGenerator:=false,isCoroutine:=false,more:=[] }
def Zpo:Scope:={ kind:=.function,names:=[(Str.ofString ".0",.«local»),(Str.ofString "_law_n",.«local»),(Str.ofString "len",.globalImplicit),(Str.ofString "_law_own",.free)],isGenerator:=false,isCoroutine:=false,more:=[] }
theorem ZkF:Zaq ["_law_own"] ["_law_own", "_law_n"] (Zg Zbh) Zpo:=⟨rfl,rfl,by ac_rfl,by ac_rfl,by ac_rfl,by decide,by ac_rfl,by ac_rfl⟩
def Zrq:Scope:={ kind:=.function,names:=[(Str.ofString ".0",.«local»),(Str.ofString "_law_n",.«local»),(Str.ofString "len",.globalImplicit),(Str.ofString "_law_own",.cell)],isGenerator:=false,isCoroutine:=false,more:=[] }
def ZoU:Scope:={ kind:=.function,names:=[(Str.ofString ".0",.«local»),(Str.ofString "_law_m",.«local»),(Str.ofString "len",.globalImplicit),(Str.ofString "_law_own",.free)],isGenerator:=false,isCoroutine:=false,more:=[] }
theorem ZjK:Zaq ["_law_script", "_law_k", "_law_left_here", "_law_rows_here", "_law_stems_here", "_law_own", "_law_merge", "_law_turn", "_law_again", "_law_n", "_law_ended", "_law_least_here", "_law_keys_here", "_law_due"] ["_law_script", "_law_k", "_law_left_here", "_law_rows_here", "_law_stems_here", "_law_own", "_law_merge", "_law_turn", "_law_again", "_law_n", "_law_ended", "_law_least_here", "_law_keys_here", "_law_due", "_law_m"] (Zg Zca) ZoU:=⟨rfl,rfl,by ac_rfl,by ac_rfl,by ac_rfl,by decide,by ac_rfl,by ac_rfl⟩
def Zsh:Scope:={ kind:=.function,names:=[(Str.ofString ".0",.«local»),(Str.ofString "_law_m",.«local»),(Str.ofString "len",.globalImplicit),(Str.ofString "_law_own",.cell)],isGenerator:=false,isCoroutine:=false,more:=[] }
def Zpd:Scope:={ kind:=.function,names:=[(Str.ofString ".0",.«local»),(Str.ofString "_law_key_here",.«local»),(Str.ofString "_law_least_here",.free)],isGenerator:=false,isCoroutine:=false,more:=[] }
theorem ZnI:Zaq ["_law_script", "_law_k", "_law_left_here", "_law_rows_here", "_law_stems_here", "_law_own", "_law_merge", "_law_turn", "_law_again", "_law_n", "_law_ended", "_law_least_here", "_law_keys_here", "_law_due"] ["_law_script", "_law_k", "_law_left_here", "_law_rows_here", "_law_stems_here", "_law_own", "_law_merge", "_law_turn", "_law_again", "_law_n", "_law_ended", "_law_least_here", "_law_keys_here", "_law_due", "_law_key_here"] (Zg Zca) Zpd:=⟨rfl,rfl,by ac_rfl,by ac_rfl,by ac_rfl,by decide,by ac_rfl,by ac_rfl⟩
def Zsm:Scope:={ kind:=.function,names:=[(Str.ofString ".0",.«local»),(Str.ofString "_law_key_here",.«local»),(Str.ofString "_law_least_here",.cell)],isGenerator:=false,isCoroutine:=false,more:=[] }
def Zns:Scope:={ kind:=.function,names:=[(Str.ofString ".0",.«local»),(Str.ofString "_law_turn",.«local»),(Str.ofString "_law_taken",.globalImplicit),(Str.ofString "_law_own",.free)],isGenerator:=false,isCoroutine:=false,more:=[] }
theorem Zk2:Zaq ["_law_script", "_law_k", "_law_left_here", "_law_rows_here", "_law_stems_here", "_law_own", "_law_merge", "_law_turn", "_law_again", "_law_n", "_law_ended", "_law_least_here", "_law_keys_here", "_law_due"] ["_law_script", "_law_k", "_law_left_here", "_law_rows_here", "_law_stems_here", "_law_own", "_law_merge", "?_law_turn", "_law_again", "_law_n", "_law_ended", "_law_least_here", "_law_keys_here", "_law_due", "_law_turn"] (Zg Zca) Zns:=⟨rfl,rfl,by ac_rfl,by ac_rfl,by ac_rfl,by decide,by ac_rfl,by ac_rfl⟩
def Zrg:Scope:={ kind:=.function,names:=[(Str.ofString ".0",.«local»),(Str.ofString "_law_turn",.«local»),(Str.ofString "_law_taken",.globalImplicit),(Str.ofString "_law_own",.cell)],isGenerator:=false,isCoroutine:=false,more:=[] }
structure Bt (mg:Str→Option Value):Prop where
 n_abs:mg "abs" = none
 n_all:mg "all" = none
 n_bool:mg "bool" = none
 n_enumerate:mg "enumerate" = none
 n_int:mg "int" = none
 n_isinstance:mg "isinstance" = none
 n_len:mg "len" = none
 n_list:mg "list" = none
 n_max:mg "max" = none
 n_min:mg "min" = none
 n_range:mg "range" = none
 n_sorted:mg "sorted" = none
 n_str:mg "str" = none
 n_sum:mg "sum" = none
 n_tuple:mg "tuple" = none
 n_zip:mg "zip" = none
structure Zai (K:PySem.W.Frag) (mg:Str→Option Value) (cRow:Addr) (cMerge:Addr):Prop where
 b:Bt mg
 t_halves:Top K mg "halves" Zc8 ["numbers"]
 t_way_up:Top K mg "way_up" Zc9 ["numbers", "n"]
 t_alike:Top K mg "alike" Zd5 ["one", "other"]
 t_liken:Top K mg "liken" Zen ["one", "other"]
 t_liken_from:Top K mg "liken_from" Zbp ["one", "other", "far"]
 t_alike_from:Top K mg "alike_from" Zbq ["one", "other", "far"]
 t_order_at:Top K mg "order_at" ZbW ["one", "other", "at"]
 t_first_break:Top K mg "first_break" Zbd ["keys"]
 t_alikes:Top K mg "alikes" Zda ["row"]
 t_refuse_break:Top K mg "refuse_break" Za1 ["number", "keys"]
 t_matches_up:Top K mg "matches_up" Zbs ["numbers", "n"]
 t_l_mix:Top K mg "_law_mix" Zec ["_law_cell", "_law_k"]
 t_l_left:Top K mg "_law_left" Zdi ["_law_script", "_law_k"]
 t_l_pick:Top K mg "_law_pick" Zdc ["_law_left_here", "_law_many_here"]
 t_l_stems:Top K mg "_law_stems" ZbN ["_law_left_here"]
 t_l_key:Top K mg "_law_key" Zc2 ["_law_left_here", "_law_stems_here"]
 t_l_keys:Top K mg "_law_keys" Zdj ["_law_left_here", "_law_stems_here", "_law_most"]
 t_l_row:Top K mg "_law_row" Zd9 ["_law_left_here", "_law_stems_here", "_law_most"]
 t_l_many:Top K mg "_law_many" Zc6 ["_law_left_here"]
 t_l_rows:Top K mg "_law_rows" Zcj ["_law_left_here"]
 t_l_alike:Top K mg "_law_alike" Zcs ["_law_one", "_law_other"]
 t_l_halves:Top K mg "_law_halves" ZbX ["_law_numbers"]
 t_l_least:Top K mg "_law_least" ZbM ["_law_heads_here", "_law_numbers"]
 t_l_same:Top K mg "_law_same" Zck ["_law_found", "_law_due"]
 t_l_world:Top K mg "_law_world" Zct ["_law_rows_here"]
 t_l_heads:Top K mg "_law_heads" Zcr ["_law_own"]
 t_l_first_play:Top K mg "_law_first_play" Za2 ["_law_heads_here", "_law_numbers"]
 t_l_play:Top K mg "_law_play" Zc3 ["_law_own"]
 t_l_way:Top K mg "_law_way" ZdU ["_law_numbers", "_law_n"]
 t_l_coming:Top K mg "_law_coming" Zb5 ["_law_own"]
 t_l_taken:Top K mg "_law_taken" Zcz ["_law_own"]
 t_l_left_of:Top K mg "_law_left_of" Zbh ["_law_own"]
 t_l_stands:Top K mg "_law_stands" Zb3 ["_law_merge", "_law_own"]
 t_l_done:Top K mg "_law_done" ZcW ["_law_merge", "_law_own", "_law_deed"]
 t_Row_init:ZpH K mg cRow "Row" "Row.__init__" Zbe ["self", "keys"]
 t_Row_to_go:ZcP K cRow "to_go" "Row.to_go" ZaW ["self"]
 t_Row_head:ZcP K cRow "head" "Row.head" Zbf ["self"]
 t_Row_lengthen:ZcP K cRow "lengthen" "Row.lengthen" Zas ["self", "keys"]
 t_Merge_init:ZpH K mg cMerge "Merge" "Merge.__init__" ZaK ["self", "rows"]
 t_Merge_coming:ZcP K cMerge "coming" "Merge.coming" Zar ["self"]
 t_Merge_take:ZcP K cMerge "take" "Merge.take" ZaP ["self"]
 t_Merge_take_few:ZcP K cMerge "take_few" "Merge.take_few" Zaa ["self", "many"]
 t_Merge_left:ZcP K cMerge "left" "Merge.left" Zax ["self"]
 t_Merge_heads:ZcP K cMerge "heads" "Merge.heads" Zao ["self"]
 t_Merge_likenings:ZcP K cMerge "likenings" "Merge.likenings" Z5 ["self"]
 t_Merge_looks:ZcP K cMerge "looks" "Merge.looks" ZaA ["self"]
 t_Merge_add_row:ZcP K cMerge "add_row" "Merge.add_row" Zal ["self", "row"]
 t_Merge_drop_row:ZcP K cMerge "drop_row" "Merge.drop_row" Zad ["self", "n"]
 t_Merge_grow:ZcP K cMerge "grow" "Merge.grow" ZaM ["self", "n", "keys"]
 t_Merge_row_of:ZcP K cMerge "row_of" "Merge.row_of" Zap ["self", "n"]
 t_Merge_play_all:ZcP K cMerge "play_all" "Merge.play_all" Zae ["self"]
 t_Merge_play:ZcP K cMerge "play" "Merge.play" ZaL ["self", "numbers"]
 t_Merge_send_out:ZcP K cMerge "send_out" "Merge.send_out" Zac ["self", "number"]
 t_Merge_play_again:ZcP K cMerge "play_again" "Merge.play_again" ZZ ["self", "meeting", "comer"]
 t_Merge_meet:ZcP K cMerge "meet" "Merge.meet" ZaJ ["self", "one", "other", "far"]
 cl_Row:Cls K cRow
 na_Row_all_keys:Zbo K cRow "all_keys"
 na_Row_fars:Zbo K cRow "fars"
 na_Row_gone:Zbo K cRow "gone"
 cl_Merge:Cls K cMerge
 na_Merge_best:Zbo K cMerge "best"
 na_Merge_likened:Zbo K cMerge "likened"
 na_Merge_looked:Zbo K cMerge "looked"
 na_Merge_next_number:Zbo K cMerge "next_number"
 na_Merge_rows:Zbo K cMerge "rows"
 na_Merge_stays:Zbo K cMerge "stays"
 g_MOST_ROWS:∃tk,mg "MOST_ROWS" = some (.int 16 tk)
def Zaz(H:Hp)(p:Addr)(c:Int):Prop:=∃a b:Int,H p=some (.lst [.int a,.int b,.int c])∧0≤c
def But(p:Addr)(H H':Hp):Prop:=∀b o,H b=some o→b≠p→H' b=some o
theorem But.trans{p:Addr}{H H1 H2:Hp}(a:But p H H1)(b:But p H1 H2):But p H H2:=fun c o h n=>b c o (a c o h n) n
theorem But.same{p:Addr}{H H1:Hp}(a:ZH H H1):But p H H1:=fun c o h _=>a c o h
theorem Zh{H:Hp}{p:Addr}(h:H p=none)(o:HO):ZH H (upd H p o):=fun b u q=>by rw[Zc (Zd q h)];exact q
theorem Zbg{n:Nat}(h:n≤1000):n≤sizeLine:=Qam (ZB h)
def Zn4:Sp:=fun vs H Q _=>∃a k:Int,vs=[.int a,.int k] ∧ -(2 ^ 62)<k∧k<2 ^ 62∧∀r:Int,0≤r→r<2000000000→Q (.int r) H
def Znt(K:PySem.W.Frag):Sp:=fun vs H Q _=>∃ (a:Addr) (ns:List Int) (k:Int),vs=[.ref a,.int k]∧SqL K H a (ns.map V.int)∧ns.length≤63∧0≤k∧k<100 ∧
 ∀ (p:Addr) (H':Hp),H p=none→Zaz H' p 0→ZH H H'→Q (.ref p) H'
def Ze1:Sp:=fun vs H Q _=>∃ (p:Addr) (c m:Int),vs=[.ref p,.int m]∧Zaz H p c∧c<2 ^ 60∧0<m∧m<1000000 ∧
 ∀ (r:Int) (H':Hp),0≤r→r<m→Zaz H' p (c+1)→But p H H'→Q (.int r) H'
theorem ZqV{ns:List Int}{k:Int}(h0:0≤k)(h:k<(ns.length:Int)):∃v:Int,atI (ns.map V.int) k=some (.int v):=by
 have hk:k.toNat<ns.length:=by omega
 have ek:k=((k.toNat:Nat):Int):=by omega
 have q:atI (ns.map V.int) ((k.toNat:Nat):Int)=some (.int ns[k.toNat]):=Zam (by rw[Qn,Qb hk]<;>rfl)
 rw[← ek]at q
 exact⟨_,q⟩
theorem ZkP{ss:List Str}{k:Int}(h0:0≤k)(h:k<(ss.length:Int)):∃s∈ss,atI (ss.map V.str) k=some (.str s):=by
 have hk:k.toNat<ss.length:=by omega
 have ek:k=((k.toNat:Nat):Int):=by omega
 have q:atI (ss.map V.str) ((k.toNat:Nat):Int)=some (.str ss[k.toNat]):=Zam (by rw[Qn,Qb hk]<;>rfl)
 rw[← ek]at q
 exact⟨_,Q3 hk,q⟩
theorem Zp0(b:Bool):-(2 ^ 64)<(if b=true then (1:Int) else 0)∧(if b=true then (1:Int) else 0)<2 ^ 64:=by cases b<;>decide
theorem ZcN{z:Str}{k:Int}(h0:0≤k)(h:k<(z.length:Int)):∃c:Nat,z.cps.toList[k.toNat]? = some c∧atI z.cps.toList k=some c:=by
 have hl:z.cps.toList.length=z.length:=by simp[Str.length]
 have hk:k.toNat<z.cps.toList.length:=by omega
 have ek:k=((k.toNat:Nat):Int):=by omega
 have q:atI z.cps.toList ((k.toNat:Nat):Int)=some z.cps.toList[k.toNat]:=Zam (Qb hk)
 rw[← ek]at q
 exact⟨_,Qb hk,q⟩
theorem ZmM(sep:Str)(ys:List Str):(Txt.join sep ys).length≤(ys.map (·.length)).sum+ys.length*sep.length:=by
 have e:Txt.join sep ys=Str.join sep ys:=by simpa using join_plain_closes sep ys
 rw[e]
 exact StrLaws.join_length_le sep ys
theorem Zj3:∀ss:List Str,(∀s∈ss,s.length≤1)→(ss.map (·.length)).sum≤ss.length
 | [],_=>Qg _
 | s::r,h=>by
  have h1:=h s Qah
  have h2:=Zj3 r fun x hx=>h x (Qu _ hx)
  rw[Qh,Q5,QK]
  omega
def lcp:List Nat→List Nat→Nat
 | a::r,b::s=>if a=b then lcp r s+1 else 0
 | _,_=>0
theorem ZfK:∀ (x y:List Nat),lcp x y≤x.length∧lcp x y≤y.length
 | [],_=>⟨Qv _,Qv _⟩
 | _::_,[]=>⟨Qv _,Qv _⟩
 | a::r,b::s=>by
  have h:=ZfK r s
  unfold lcp
  split
  ·exact⟨Nat.succ_le_succ h.1,Nat.succ_le_succ h.2⟩
  ·exact⟨Qv _,Qv _⟩
theorem Zcu:∀ (x y:List Nat),lcp x y=lcp y x
 | [],[]=>rfl
 | [],_::_=>rfl
 | _::_,[]=>rfl
 | a::r,b::s=>by
  unfold lcp
  by_cases h:a=b
  ·rw[if_pos h,if_pos h.symm,Zcu r s]
  ·rw[if_neg h,if_neg fun e=>h e.symm]
theorem Zjj:∀x:List Nat,lcp x x=x.length
 | []=>rfl
 | a::r=>by unfold lcp;rw[if_pos rfl,Zjj r];rfl
theorem Zer(x:List Nat):lcp x []=0:=by cases x<;>rfl
theorem lcp_nil'(x:List Nat):lcp [] x=0:=by cases x<;>rfl
theorem Zkq:∀ (x y:List Nat) (k:Nat),k≤lcp x y→∀a,x[k]? = some a→y[k]? = some a→k+1≤lcp x y
 | [],_,k,_,a,h,_=>by simp at h
 | _::_,[],k,_,a,_,h=>by simp at h
 | a::r,b::s,0,_,c,h1,h2=>by
  simp at h1 h2
  unfold lcp
  rw[if_pos (by rw[h1,h2])]
  omega
 | a::r,b::s,k+1,h,c,h1,h2=>by
  unfold lcp at h ⊢
  by_cases e:a=b
  ·rw[if_pos e]at h ⊢
   have:=Zkq r s k (by omega) c (by simpa using h1) (by simpa using h2)
   omega
  ·rw[if_neg e]at h;omega
theorem ZnF:∀ (x y:List Nat) (k:Nat),k<lcp x y→x[k]? = y[k]?
 | [],_,k,h=>by unfold lcp at h;omega
 | _::_,[],k,h=>by unfold lcp at h;omega
 | a::r,b::s,0,h=>by
  unfold lcp at h
  by_cases e:a=b
  ·simp[e]
  ·rw[if_neg e]at h;omega
 | a::r,b::s,k+1,h=>by
  unfold lcp at h
  by_cases e:a=b
  ·rw[if_pos e]at h
   simpa using ZnF r s k (by omega)
  ·rw[if_neg e]at h;omega
theorem Zew(x y:List Nat)(k:Nat)(h:k≤lcp x y)(n:x.length≤k∨y.length≤k∨∃a b,x[k]? = some a∧y[k]? = some b∧a≠b):lcp x y=k:=by
 have l:=ZfK x y
 rcases n with n|n|⟨a,b,h1,h2,ne⟩
 ·omega
 ·omega
 ·by_cases q:k<lcp x y
  ·have:=ZnF x y k q
   rw[h1,h2]at this
   exact absurd (Ql this) ne
  ·omega
theorem ZfR:∀ (x y z:List Nat),(lcp x y≤lcp x z∧lcp y z=lcp x y)∨(lcp x y≤lcp y z∧lcp x z=lcp x y)∨(lcp x z≤lcp x y∧lcp y z=lcp x z)
 | [],y,z=>.inr (.inl ⟨by rw[lcp_nil'];exact Qv _,by rw[lcp_nil',lcp_nil']⟩)
 | x,[],z=>.inl ⟨by rw[Zer];exact Qv _,by rw[Zer,lcp_nil']⟩
 | x,y,[]=>.inr (.inr ⟨by rw[Zer];exact Qv _,by rw[Zer,Zer]⟩)
 | a::r,b::s,c::t=>by
  have ih:=ZfR r s t
  unfold lcp
  by_cases h1:a=b
  ·by_cases h2:b=c
   ·rw[if_pos h1,if_pos h2,if_pos (h1.trans h2)]
    omega
   ·rw[if_pos h1,if_neg h2,if_neg fun e=>h2 (h1.symm.trans e)]
    omega
  ·rw[if_neg h1]
   by_cases h2:b=c
   ·rw[if_pos h2,if_neg fun e=>h1 (e.trans h2.symm)]
    omega
   ·rw[if_neg h2]
    omega
abbrev cds(z:Str):List Nat:=z.cps.toList
def AZ(z:Str):Prop:=∀c∈cds z,97≤c∧c≤122
theorem Zlb(x y:Str):cds (x++y)=cds x++cds y:=by
 show (x++y).cps.toList=_
 rw[PySem.Str.cps_append]
 simp
theorem AZ.app{x y:Str}(a:AZ x)(b:AZ y):AZ (x++y):=fun c h=>by
 rw[Zlb]at h
 exact(Qk.mp h).elim (a c) (b c)
theorem AZ.nil:AZ "":=by unfold AZ cds;ac_rfl
theorem AZ.join:∀ys:List Str,(∀s∈ys,AZ s)→AZ (Str.join "" ys)
 | [],_=>fun c h=>by cases (show c∈([]:List Nat) from h)
 | [x],h=>h x (by simp)
 | x::y::r,h=>((h x (by simp)).app AZ.nil).app (AZ.join (y::r) fun s hs=>h s (Qu _ hs))
theorem AZ.joinT(ys:List Str)(h:∀s∈ys,AZ s):AZ (Txt.join "" ys):=by
 have e:Txt.join "" ys=Str.join "" ys:=by simpa using join_plain_closes "" ys
 rw[e]
 exact AZ.join ys h
theorem AZ.one{z:Str}(a:AZ z){k:Nat}{c:Nat}(h:z.cps.toList[k]? = some c):AZ ⟨#[c]⟩:=fun d hd=>by
 have e:d=c:=by simpa using hd
 rw[e]
 exact a c (Qw h)
theorem AZ.ok{z:Str}(a:AZ z):PyData.strOk z=true:=by
 unfold PyData.strOk
 rw[Array.all_eq_true]
 intro i hi
 have:=a z.cps[i] (by simp)
 exact decide_eq_true (by omega)
theorem Zql:AZ "ababcz":=by unfold AZ cds;ac_rfl
def ZcL:Sp:=fun vs H Q _=>∃x y:Str,vs=[.str x,.str y]∧x.length≤1000∧y.length≤1000∧Q (.int (lcp (cds x) (cds y))) H
def ZcC:Sp:=fun vs H Q _=>∃ (x y:Str) (far:Nat),vs=[.str x,.str y,.int far]∧x.length≤1000∧y.length≤1000∧far≤lcp (cds x) (cds y)∧Q (.int (lcp (cds x) (cds y))) H
def IsD(H:Hp):Nat→V→V→Prop
 | 0,_,_=>False
 | n+1,x,y=>(x=y∧(x=.non∨(∃b,x=.bl b)∨(∃i,x=.int i)∨∃s,x=.str s)) ∨
   (∃ (p q:Addr) (xs ys:List V),x=.ref p∧y=.ref q∧((H p=some (.lst xs)∧H q=some (.lst ys))∨(H p=some (.tup xs)∧H q=some (.tup ys)))∧xs.length=ys.length∧xs.length≤1000∧∀ (i:Nat) (x y:V),xs[i]? = some x→ys[i]? = some y→IsD H n x y)
theorem IsD.mono{H H':Hp}(s:ZH H H'):∀ {n:Nat} {x y:V},IsD H n x y→IsD H' n x y
 | 0,_,_,h=>h.elim
 | n+1,x,y,h=>by
  rcases h with h|⟨p,q,xs,ys,e1,e2,h,hl,hz,hi⟩
  ·exact .inl h
  ·refine .inr ⟨p,q,xs,ys,e1,e2,?_,hl,hz,fun i x y a b=>(hi i x y a b).mono s⟩
   rcases h with⟨a,b⟩|⟨a,b⟩
   ·exact .inl ⟨s _ _ a,s _ _ b⟩
   ·exact .inr ⟨s _ _ a,s _ _ b⟩
def Ziw(n:Nat):Sp:=fun vs H Q _=>∃x y:V,vs=[x,y]∧IsD H n x y∧∀H',ZH H H'→Q (.bl true) H'
section
variable (K:PySem.W.Frag)
open PySem.W
theorem ZlT:kitAny K (.type "int") (["list", "tuple"].map Value.type)=some false:=by unfold kitAny kitOne kitCls;rfl
theorem ZmA:kitAny K (.type "bool") (["list", "tuple"].map Value.type)=some false:=by unfold kitAny kitOne kitCls;rfl
theorem Zlw:kitAny K (.type "str") (["list", "tuple"].map Value.type)=some false:=by unfold kitAny kitOne kitCls;rfl
theorem Zmb:kitAny K (.type "NoneType") (["list", "tuple"].map Value.type)=some false:=by unfold kitAny kitOne kitCls;rfl
theorem ZlA:kitAny K (.type "list") (["list", "tuple"].map Value.type)=some true:=by unfold kitAny kitOne kitCls;rfl
theorem Zl4:kitAny K (.type "tuple") (["list", "tuple"].map Value.type)=some true:=by unfold kitAny kitOne kitCls;rfl
theorem Ziq:kitOne K (.type "list") (.type "list")=some true:=by unfold kitOne kitCls;rfl
theorem Zie:kitOne K (.type "list") (.type "tuple")=some false:=by unfold kitOne kitCls;rfl
theorem ZhT:kitOne K (.type "tuple") (.type "list")=some false:=by unfold kitOne kitCls;rfl
theorem Zhz:kitOne K (.type "tuple") (.type "tuple")=some true:=by unfold kitOne kitCls;rfl
theorem Zmk:kitOne K (.type "int") (.type "str")=some false:=by unfold kitOne kitCls;rfl
theorem Zjb:kitOne K (.type "int") (.type "bool")=some false:=by unfold kitOne kitCls;rfl
theorem Zl3:kitOne K (.type "int") (.type "int")=some true:=by unfold kitOne kitCls;rfl
theorem Zfp:kitOne K (.type "str") (.type "str")=some true:=by unfold kitOne kitCls;rfl
theorem Zih:kitOne K (.type "NoneType") (.type "str")=some false:=by unfold kitOne kitCls;rfl
theorem Znc:kitOne K (.type "bool") (.type "str")=some false:=by unfold kitOne kitCls;rfl
theorem Zk7:kitOne K (.type "bool") (.type "bool")=some true:=by unfold kitOne kitCls;rfl
end
section
variable {P:Program} {w:World} {K:PySem.W.Frag} {mg:Str→Option Value} {base:Heap} {cRow cMerge:Addr}
theorem Zq7(T:Zai K mg cRow cMerge):Df P w K mg base 1 "_law_mix" ["_law_cell", "_law_k"] Zn4:=by
 refine T.t_l_mix.df ZjC (fun vs H Q E h=>?_) (fun cdv f A outer s H vs Q E hr h=>?_)
 ·obtain⟨a,k,rfl,_⟩:=h
  rfl
 obtain⟨a,k,rfl,k1,k2,q⟩:=h
 refine⟨_,#[Zf,#[Zy,2,ZjC.nd,(Or.inl rfl),#[ZE,ZeQ,#[ZE,ZdT,#[ZE,Zah,#[ZE,Zah,#[ZE,ZeQ,‹0›,#[Zi]],#[ZE,ZdT,#[ZE,ZdT,‹1›,‹1›],#[Zi]]],#[Zi]],#[Zi]],#[Zi]]],#[Zj,#[Zr,#[ZE,ZeQ,#[ZE,ZdT,‹2›,‹2›],#[Zi]]]]],?_⟩
 refine⟨_,rfl,_,_,rfl,rfl,(by show (0:Int)<_;decide),_,rfl,_,rfl,_,_,rfl,rfl,.inl ⟨by omega,by omega⟩,_,_,rfl,rfl,.inr ⟨by decide,by decide⟩,_,_,rfl,rfl,_,_,rfl,rfl,_,_,rfl,rfl,.inr ⟨by decide,by decide⟩,_,_,rfl,rfl,(by show (0:Int)<_;decide),?_⟩
 have m0:=QaM ((a % 2147483629+k*k*7919+11)*48271) (show (2147483647:Int)≠0 by decide)
 have m1:=Qas ((a % 2147483629+k*k*7919+11)*48271) (show (0:Int)<2147483647 by decide)
 refine⟨_,rfl,_,rfl,_,_,rfl,rfl,.inl ⟨by omega,by omega⟩,_,_,rfl,rfl,(by show (0:Int)<_;decide),?_⟩
 exact q _ (QaM _ (by decide)) (Int.lt_trans (Qas _ (by decide)) (by decide))
theorem ZoZ(T:Zai K mg cRow cMerge):Df P w K mg base 1 "_law_left" ["_law_script", "_law_k"] (Znt K):=by
 refine T.t_l_left.df Zio (fun vs H Q E h=>?_) (fun cdv f A outer s H vs Q E hr h=>?_)
 ·obtain⟨a,ns,k,rfl,_⟩:=h
  rfl
 obtain⟨a,ns,k,rfl,hS,h63,k0,k1,q⟩:=h
 refine⟨_,#[Zf,#[Zy,2,Zio.nd,(Or.inl rfl),#[Zbu,#[Zo,ZeF,‹1›,#[Zk,(Zb1 K),(by rfl),T.b.n_len,Qs,#[Za,‹0›,#[Ze]]],(Zs _)],#[Zm,(ixL K),‹0›,‹1›],#[Zi]]],#[Zj,#[Zr,#[Zab,#[Za,#[ZE,ZdT,#[Zk,ZjF,(by rfl),T.b.n_abs,boot_abs,#[Za,‹2›,#[Ze]]],#[ZaT,Zft,T.b.n_int,boot_int,#[Za,#[Za5,ZpY,#[Zk,ZjF,(by rfl),T.b.n_abs,boot_abs,#[Za,‹2›,#[Ze]]],#[ZE,ZnV,#[Zi],#[Zi]],(Zs _)],#[Ze]]]],#[Za,#[ZE,Zah,‹2›,#[ZE,ZdT,#[Zi],‹1›]],#[Za,#[Zi],#[Ze]]]]]]]],?_⟩
 have hl:(ns.map V.int).length=ns.length:=Qa _
 have pw:Zrv 10 18:=⟨by decide,by decide,by decide⟩
 refine⟨_,rfl,_,rfl,a,_,rfl,.inl hS,_,_,rfl,rfl,_,rfl,?_⟩
 refine Zbc (fun c=>?_) (fun c=>?_)
 ·have c':k<(((ns.map V.int).length:Nat):Int):=of_decide_eq_true c
  rw[hl]at c'
  obtain⟨v,hv⟩:=ZqV (ns:=ns) k0 c'
  refine⟨_,rfl,_,rfl,xw4 a _ _ _ ⟨rfl,rfl,hS,hv,?_⟩⟩
  refine⟨_,rfl,_,rfl,_,rfl,_,rfl,_,_,rfl,rfl,pw,_,_,rfl,rfl,.inr ⟨_,rfl,_,_,rfl,rfl,.inr (Zp0 _),_,rfl,_,rfl,_,_,rfl,rfl,.inl ⟨by decide,by decide⟩,_,_,rfl,rfl,(by show 3≤sizeLine;decide),fun p hp=>?_⟩⟩
  exact q p _ hp ⟨_,_,Zb,Int.le_refl _⟩ (Zh hp _)
 ·refine⟨_,rfl,_,rfl,_,rfl,_,rfl,_,_,rfl,rfl,pw,_,_,rfl,rfl,.inr ⟨_,rfl,_,_,rfl,rfl,.inr (Zp0 _),_,rfl,_,rfl,_,_,rfl,rfl,.inl ⟨by decide,by decide⟩,_,_,rfl,rfl,(by show 3≤sizeLine;decide),fun p hp=>?_⟩⟩
  exact q p _ hp ⟨_,_,Zb,Int.le_refl _⟩ (Zh hp _)
theorem Zpp(T:Zai K mg cRow cMerge)(f_l_mix:Df P w K mg base 1 "_law_mix" ["_law_cell", "_law_k"] Zn4):Df P w K mg base 2 "_law_pick" ["_law_left_here", "_law_many_here"] Ze1:=by
 refine T.t_l_pick.df ZhQ (fun vs H Q E h=>?_) (fun cdv f A outer s H vs Q E hr h=>?_)
 ·obtain⟨p,c,m,rfl,_⟩:=h
  rfl
 obtain⟨p,c,m,rfl,⟨a,b,hp,c0⟩,c1,m0,m1,q⟩:=h
 refine⟨_,#[Zf,#[Z4,#[ZE,Zah,#[Zm,(ixL K),‹0›,#[Zi]],#[Zi]],#[ZaS,‹0›,#[Zi],Zi6]],#[Zf,#[Z3,#[Zo,ZfZ,#[Zm,(ixL K),‹0›,#[Zi]],#[Zi],(Zs _)],#[Zf,#[Zy,2,ZhQ.nd,(Or.inl rfl),#[ZE,ZeQ,#[Zm,(ixL K),‹0›,#[Zi]],‹1›]],#[Zf,#[Z4,#[ZE,Zgf,#[Zm,(ixL K),‹0›,#[Zi]],‹1›],#[ZaS,‹0›,#[Zi],Zi6]],#[Zj,#[Zr,‹2›]]]],#[ZF]],#[Zj,#[Zr,#[ZE,ZeQ,#[ZE,Zgf,#[Zv,f_l_mix,hr,#[Za,#[Zv,f_l_mix,hr,#[Za,#[Zm,(ixL K),‹0›,#[Zi]],#[Za,#[Zm,(ixL K),‹0›,#[Zi]],#[Ze]]],(by rfl)],#[Za,#[ZE,Zah,#[Zm,(ixL K),‹0›,#[Zi]],#[Zi]],#[Ze]]],(by rfl)],#[Zi]],‹1›]]]]],?_⟩
 have u1:(upd H p (.lst [.int a,.int b,.int (c+1)])) p=some (.lst [.int a,.int b,.int (c+1)]):=Zb
 refine⟨_,rfl,xw4 p _ _ _ ⟨rfl,rfl,SqL.of hp,rfl,_,_,rfl,rfl,_,rfl,p,_,_,2,rfl,rfl,hp,rfl,?_⟩⟩
 refine⟨_,rfl,xw4 p _ _ _ ⟨rfl,rfl,SqL.of u1,rfl,_,_,rfl,rfl,_,rfl,?_⟩⟩
 refine Zbc (fun d=>?_) (fun d=>?_)
 ·refine⟨_,rfl,xw4 p _ _ _ ⟨rfl,rfl,SqL.of u1,rfl,_,rfl,_,_,rfl,rfl,m0,?_⟩⟩
  refine⟨_,rfl,xw4 p _ _ _ ⟨rfl,rfl,SqL.of u1,rfl,_,rfl,_,_,rfl,rfl,⟨m0,by omega⟩,_,rfl,p,_,_,0,rfl,rfl,u1,rfl,?_⟩⟩
  refine⟨_,rfl,?_⟩
  refine q _ _ (QaM _ (by omega)) (Qas _ m0) ⟨a / m,b,Zb,by omega⟩ fun e o h n=>?_
  rw[Zc n,Zc n]
  exact h
 ·refine⟨_,rfl,xw4 p _ _ _ ⟨rfl,rfl,SqL.of u1,rfl,_,rfl,xw4 p _ _ _ ⟨rfl,rfl,SqL.of u1,rfl,_,_,rfl,by omega,by omega,fun r r0 r1=>?_⟩⟩⟩
  refine⟨_,rfl,xw4 p _ _ _ ⟨rfl,rfl,SqL.of u1,rfl,_,_,rfl,rfl,_,_,rfl,by omega,by omega,fun r' r0' r1'=>?_⟩⟩
  refine⟨_,_,rfl,rfl,⟨by decide,by decide⟩,_,rfl,_,_,rfl,rfl,m0,?_⟩
  refine q _ _ (QaM _ (by omega)) (Qas _ m0) ⟨a,b,Zb,by omega⟩ fun e o h n=>?_
  rw[Zc n]
  exact h
def ZbV:List Str:=["", "a", "ab", "aba", "abab", "b", "zebra", "aaaaaaaa", "knowswho", "z", "abababababab",Txt.mul "a" 24]
theorem ZjW:∀s∈ZbV,s.length≤24:=by ac_rfl
theorem Zky:∀s∈ZbV,AZ s:=by unfold AZ cds;ac_rfl
def Zi2:Sp:=fun vs H Q _=>∃ (p:Addr) (c:Int),vs=[.ref p]∧Zaz H p c∧c<2 ^ 50 ∧
 ∀ (l:Addr) (ss:List Str) (c':Int) (H':Hp),H l=none→H' l=some (.lst (ss.map V.str))→1≤ss.length→ss.length≤4→(∀s∈ss,s.length≤24∧AZ s)→Zaz H' p c'→c≤c'→c'≤c+5→But p H H'→Q (.ref l) H'
def Zn6:Sp:=fun vs H Q _=>∃ (p l:Addr) (c:Int) (ss:List Str),vs=[.ref p,.ref l]∧Zaz H p c∧c<2 ^ 50∧H l=some (.lst (ss.map V.str))∧1≤ss.length∧ss.length≤4∧(∀s∈ss,s.length≤24∧AZ s) ∧
 ∀ (z:Str) (c':Int) (H':Hp),z.length≤28→AZ z→Zaz H' p c'→c≤c'→c'≤c+6→But p H H'→Q (.str z) H'
theorem ZnX(T:Zai K mg cRow cMerge)(f_l_pick:Df P w K mg base 2 "_law_pick" ["_law_left_here", "_law_many_here"] Ze1):Df P w K mg base 3 "_law_stems" ["_law_left_here"] Zi2:=by
 refine T.t_l_stems.df ZgT (fun vs H Q E h=>?_) (fun cdv f A outer s H vs Q E hr h=>?_)
 ·obtain⟨p,c,rfl,_⟩:=h
  rfl
 obtain⟨p,c,rfl,hL,c1,q⟩:=h
 refine⟨_,#[Zf,#[Zy,1,ZgT.nd,(Or.inr rfl),#[Zab,#[Za,#[Zz],#[Za,#[Zz],#[Za,#[Zz],#[Za,#[Zz],#[Za,#[Zz],#[Za,#[Zz],#[Za,#[Zz],#[Za,#[Zz],#[Za,#[Zz],#[Za,#[Zz],#[Za,#[Zz],#[Za,#[ZE,Zpi,#[Zz],#[Zi]],#[Ze]]]]]]]]]]]]]]],#[Zj,#[Zr,#[Zdw,ZmT,#[Zbi,T.b.n_range,#[Za,#[ZE,Zah,#[Zi],#[Zv,f_l_pick,hr,#[Za,#[pv,0,(Or.inr (Or.inl rfl))],#[Za,#[Zi],#[Ze]]],(by rfl)]],#[Ze]]],(fun _ _ _ _=>#[cg,2,ZmT]),(fun _ _ _ _=>(@ZcD _)),(fun _ _ _ _=>#[Zm,(ixL K),#[cv,1,ZmT],#[Zv,f_l_pick,hr,#[Za,#[cv,0,ZmT],#[Za,#[Zi],#[Ze]]],(ZbJ ZmT rfl (by ac_rfl))]])]]]],?_⟩
 refine⟨_,_,rfl,rfl,by decide,by decide,by decide,(by show 12≤sizeLine;decide),fun l hl=>?_⟩
 have npl:p≠l:=by obtain⟨a,b,hp,_⟩:=hL;exact Zd hp hl
 have hL1:Zaz (upd H l (.lst (ZbV.map V.str))) p c:=by obtain⟨a,b,hp,c0⟩:=hL;exact⟨a,b,by rw[Zc npl];exact hp,c0⟩
 refine⟨_,rfl,p,c,_,rfl,hL1,by omega,by decide,by decide,fun r H1 r0 r1 L1 B1=>?_⟩
 refine⟨_,_,rfl,rfl,_,rfl,by omega,by omega,fun D hD=>?_⟩
 have c0:0≤c:=by obtain⟨a,b,hp,c0⟩:=hL;exact c0
 have h1l:H1 l=some (.lst (ZbV.map V.str)):=B1 l _ Zb npl.symm
 have npD:p≠D:=by obtain⟨a,b,hp,_⟩:=L1;exact Zd hp hD
 have nlD:l≠D:=Zd h1l hD
 refine ZdF (fun i ys σ H2=>∃ (ss:List Str) (v:Option V) (c2:Int),σ=[some (.ref p),some (.ref l),v]∧ys=ss.map V.str∧ss.length=i∧(∀s∈ss,s.length≤24∧AZ s)∧Zaz H2 p c2∧c+1≤c2∧c2≤c+1+i ∧
   H2 l=some (.lst (ZbV.map V.str))∧H2 D=some (.lst ys)∧But p H H2) ?_ ?_ ?_
 ·refine⟨[],none,c+1,rfl,rfl,rfl,(fun s hs=>by cases hs),?_,by omega,by omega,?_,Zb,?_⟩
  ·obtain⟨a,b,hp,q0⟩:=L1
   exact⟨a,b,by rw[Zc npD];exact hp,q0⟩
  ·rw[Zc nlD];exact h1l
  ·intro b o e n
   have e1:(upd H l (.lst (ZbV.map V.str))) b=some o:=by rw[Zc (Zd e hl)];exact e
   have e2:=B1 b o e1 n
   rw[Zc (Zd e2 hD)]
   exact e2
 ·rintro i ys σ H2 hi ⟨ss,v,c2,rfl,rfl,hn,hs,L2',b1,b2,hl2,hD2,B2⟩
  refine⟨_,rfl,_,rfl,p,c2,_,rfl,L2',by omega,by decide,by decide,fun r' H3 r0' r1' L3 B3=>?_⟩
  obtain⟨s,hs1,hs2⟩:=ZkP (ss:=ZbV) r0' r1'
  have hD3:H3 D=some (.lst (ss.map V.str)):=B3 D _ hD2 npD.symm
  have hl3:H3 l=some (.lst (ZbV.map V.str)):=B3 l _ hl2 npl.symm
  refine(xw4 l _ _ _ ⟨rfl,rfl,SqL.of hl3,hs2,hD3,(by rw[Qa,hn];exact ZB (by omega)),ss++[s],_,c2+1,rfl,?_,?_,?_,?_,by omega,by omega,?_,Zb,?_⟩)
  ·rw[Qe];rfl
  ·rw[Qf,hn];rfl
  ·intro x hx
   rcases Qk.mp hx with hx|hx
   ·exact hs x hx
   ·rw[Qp.mp hx];exact⟨ZjW s hs1,Zky s hs1⟩
  ·obtain⟨a,b,hp,q0⟩:=L3
   exact⟨a,b,by rw[Zc npD];exact hp,q0⟩
  ·rw[Zc nlD];exact hl3
  ·intro b o e n
   have e2:=B3 b o (B2 b o e n) n
   have e3:H D=none:=by
    cases w':H D with
    | none=>rfl
    | some u =>
     have nDp:D≠p:=npD.symm
     have z1:(upd H l (.lst (ZbV.map V.str))) D=some u:=by rw[Zc nlD.symm];exact w'
     rw[B1 D u z1 nDp]at hD
     cases hD
   rw[Zc (Zd e e3)]
   exact e2
 ·rintro ys σ H2 ⟨ss,v,c2,rfl,rfl,hn,hs,L2',b1,b2,hl2,hD2,B2⟩
  have e3:H D=none:=by
   cases w':H D with
   | none=>rfl
   | some u =>
    have z1:(upd H l (.lst (ZbV.map V.str))) D=some u:=by rw[Zc nlD.symm];exact w'
    rw[B1 D u z1 npD.symm]at hD
    cases hD
  exact q D ss c2 H2 e3 hD2 (by omega) (by omega) hs L2' (by omega) (by omega) B2
theorem ZqI(T:Zai K mg cRow cMerge)(f_l_pick:Df P w K mg base 2 "_law_pick" ["_law_left_here", "_law_many_here"] Ze1):Df P w K mg base 3 "_law_key" ["_law_left_here", "_law_stems_here"] Zn6:=by
 refine T.t_l_key.df ZjX (fun vs H Q E h=>?_) (fun cdv f A outer s H vs Q E hr h=>?_)
 ·obtain⟨p,l,c,ss,rfl,_⟩:=h
  rfl
 obtain⟨p,l,c,ss,rfl,hL,c1,hl,n1,n4,h24,q⟩:=h
 refine⟨_,#[Zf,#[Zy,2,ZjX.nd,(Or.inl rfl),#[ZdJ,PySem.F.plainAttrs_str,PySem.F.slot_str_join,PySem.F.type_str_join,(ZrJ K),#[Zz],#[Za,#[Zdw,ZoJ,#[Zbi,T.b.n_range,#[Za,#[Zv,f_l_pick,hr,#[Za,#[pv,0,(Or.inr (Or.inl rfl))],#[Za,#[Zi],#[Ze]]],(by rfl)],#[Ze]]],(fun _ _ _ _=>#[cg,3,ZoJ]),(fun _ _ _ _=>(@ZcD _)),(fun _ _ _ _=>#[Zm,Zem,#[Zz],#[Zv,f_l_pick,hr,#[Za,#[cv,0,ZoJ],#[Za,#[Zi],#[Ze]]],(ZbJ ZoJ rfl (by ac_rfl))]])],#[Ze]]]],#[Zj,#[Zr,#[ZE,Zg2,#[Zm,(ixL K),‹1›,#[Zv,f_l_pick,hr,#[Za,#[pv,0,(Or.inr (Or.inl rfl))],#[Za,#[Zk,(Zb1 K),(by rfl),T.b.n_len,Qs,#[Za,‹1›,#[Ze]]],#[Ze]]],(by rfl)]],‹2›]]]],?_⟩
 have c0:0≤c:=by obtain⟨a,b,hp,c0⟩:=hL;exact c0
 have npl:p≠l:=by
  obtain⟨a,b,hp,_⟩:=hL
  refine ZmS hp hl fun e=>?_
  have e1:=congrArg List.length (HO.lst.inj e)
  cases ss with
  | nil=>cases e1
  | cons x r=>exact absurd (HO.lst.inj e) (by intro z;cases z)
 refine⟨rfl,_,rfl,p,c,_,rfl,hL,by omega,by decide,by decide,fun r H1 r0 r1 L1 B1=>?_⟩
 refine⟨_,rfl,by omega,by omega,fun D hD=>?_⟩
 have npD:p≠D:=by obtain⟨a,b,hp,_⟩:=L1;exact Zd hp hD
 have h1l:=B1 l _ hl npl.symm
 have nlD:l≠D:=Zd h1l hD
 have hDn:H D=none:=by
  cases w':H D with
  | none=>rfl
  | some u=>rw[B1 D u w' npD.symm]at hD;cases hD
 refine ZdF (fun i ys σ H2=>∃ (ts:List Str) (v:Option V) (c2:Int),σ=[some (.ref p),some (.ref l),none,v]∧ys=ts.map V.str∧ts.length=i∧(∀s∈ts,s.length≤1∧AZ s)∧Zaz H2 p c2∧c+1≤c2∧c2≤c+1+i ∧
   H2 D=some (.lst ys)∧But p H H2) ?_ ?_ ?_
 ·refine⟨[],none,c+1,rfl,rfl,rfl,(fun s hs=>by cases hs),?_,by omega,by omega,Zb,?_⟩
  ·obtain⟨a,b,hp,q0⟩:=L1
   exact⟨a,b,by rw[Zc npD];exact hp,q0⟩
  ·intro b o e n
   rw[Zc (Zd e hDn)]
   exact B1 b o e n
 ·rintro i ys σ H2 hi ⟨ts,v,c2,rfl,rfl,hn,hs,L2',b1,b2,hD2,B2⟩
  refine⟨_,rfl,p,c2,_,rfl,L2',by omega,by decide,by decide,fun r' H3 r0' r1' L3 B3=>?_⟩
  obtain⟨ch,hcm,hch⟩:=ZcN (z := "ababcz") r0' r1'
  have hD3:H3 D=some (.lst (ts.map V.str)):=B3 D _ hD2 npD.symm
  refine⟨_,_,_,rfl,rfl,(by ac_rfl),hch,hD3,(by rw[Qa,hn];exact ZB (by omega)),ts++[⟨#[ch]⟩],_,c2+1,rfl,?_,?_,?_,?_,by omega,by omega,Zb,?_⟩
  ·rw[Qe];rfl
  ·rw[Qf,hn];rfl
  ·intro x hx
   rcases Qk.mp hx with hx|hx
   ·exact hs x hx
   ·rw[Qp.mp hx];exact⟨Qg 1,Zql.one hcm⟩
  ·obtain⟨a,b,hp,q0⟩:=L3
   exact⟨a,b,by rw[Zc npD];exact hp,q0⟩
  ·intro b o e n
   rw[Zc (Zd e hDn)]
   exact B3 b o (B2 b o e n) n
 ·rintro ys σ H2 ⟨ts,v,c2,rfl,rfl,hn,hs,L2',b1,b2,hD2,B2⟩
  have hsum:=Zj3 ts fun s h=>(hs s h).1
  have hjl:=ZmM "" ts
  have e0:("" : Str).length=0:=by ac_rfl
  rw[e0]at hjl
  have hl2:=B2 l _ hl npl.symm
  refine⟨_,D,ts,rfl,rfl,SqL.of hD2,(by rw[e0];omega),?_⟩
  have hlen:(((ss.map V.str).length:Nat):Int)=(ss.length:Int):=by rw[Qa]
  refine⟨_,rfl,_,rfl,_,rfl,l,_,rfl,.inl (SqL.of hl2),p,c2,_,rfl,L2',by omega,by omega,by omega,fun r' H3 r0' r1' L3 B3=>?_⟩
  obtain⟨st,hs1,hs2⟩:=ZkP (ss:=ss) r0' (by omega)
  have hst:=(h24 st hs1).1
  refine(xw4 l _ _ _ ⟨rfl,rfl,SqL.of (B3 l _ hl2 npl.symm),hs2,_,rfl,_,_,rfl,rfl,Zbg (by omega),?_⟩)
  refine q _ (c2+1) H3 ?_ ((h24 st hs1).2.app (AZ.joinT ts fun s h=>(hs s h).2)) L3 (by omega) (by omega) (B2.trans B3)
  rw[PySem.Str.length_append]
  omega
theorem Zhr(T:Zai K mg cRow cMerge):Df P w K mg base 1 "alike_from" ["one", "other", "far"] ZcC:=by
 refine T.t_alike_from.df ZcO (fun vs H Q E h=>?_) (fun cdv f A outer s H vs Q E hr h=>?_)
 ·obtain⟨x,y,far,rfl,_⟩:=h
  rfl
 obtain⟨x,y,far,rfl,hx,hy,hf,q⟩:=h
 refine⟨_,#[Zf,#[Zy,3,ZcO.nd,(Or.inl rfl),‹2›],#[Zf,(@Zd6 _ _ _ _ _ _ PassesOwn.never (@PW.pt _ _ _ #[ZbQ,#[Zo,ZeF,‹3›,#[Zk,ZaG,(by rfl),T.b.n_len,Qs,#[Za,‹0›,#[Ze]]],(Zs _)],#[ZbQ,#[Zo,ZeF,‹3›,#[Zk,ZaG,(by rfl),T.b.n_len,Qs,#[Za,‹1›,#[Ze]]],(Zs _)],#[ZbH,#[Zo,Za7,#[Zm,Zem,‹0›,‹3›],#[Zm,Zem,‹1›,‹3›],(Zs _)]]]]) #[Zj,(@ZqJ _ _ 3 _ _ _ _ _ _ ZcO.nd rfl (Or.inl rfl) #[Zi] ZqD (by trivial))]),#[Zj,#[Zr,‹3›]]]],?_⟩
 refine⟨_,rfl,?_⟩
 have lx:(cds x).length=x.length:=by simp[Str.length]
 have ly:(cds y).length=y.length:=by simp[Str.length]
 have ll:=ZfK (cds x) (cds y)
 refine⟨fun m σ H2=>∃k:Nat,σ=[some (.str x),some (.str y),some (.int far),some (.int k)]∧H2=H∧k≤lcp (cds x) (cds y)∧m=lcp (cds x) (cds y)-k,⟨_,far,rfl,rfl,hf,rfl⟩,?_⟩
 rintro m σ H2 ⟨k,rfl,rfl,hk,rfl⟩
 refine⟨_,rfl,_,rfl,x,rfl,Zbg hx,_,_,rfl,rfl,_,rfl,?_⟩
 refine Zbc (fun d1=>?_) (fun d1=>?_)
 ·have d1':(k:Int)<(x.length:Int):=of_decide_eq_true d1
  refine⟨_,rfl,_,rfl,y,rfl,Zbg hy,_,_,rfl,rfl,_,rfl,?_⟩
  refine Zbc (fun d2=>?_) (fun d2=>?_)
  ·have d2':(k:Int)<(y.length:Int):=of_decide_eq_true d2
   obtain⟨a,ha,ha'⟩:=ZcN (z:=x) (k:=k) (by omega) d1'
   obtain⟨b,hb,hb'⟩:=ZcN (z:=y) (k:=k) (by omega) d2'
   rw[Int.toNat_natCast]at ha hb
   refine⟨_,rfl,_,rfl,x,_,a,rfl,rfl,Zbg hx,ha',_,rfl,_,rfl,y,_,b,rfl,rfl,Zbg hy,hb',rfl,_,rfl,?_⟩
   refine Zbc (fun d3=>?_) (fun d3=>?_)
   ·have d3':a=b:=by
     have:=of_decide_eq_true d3
     injection this with e
     injection e with e
     simpa using e
    subst d3'
    have:=Zkq _ _ k hk a ha hb
    refine⟨fun σ' H'=>σ'=[some (.str x),some (.str y),some (.int far),some (.int ((k+1:Nat):Int))]∧H'=H2,fun σ' H' ⟨e1,e2⟩=>⟨_,?_,k+1,e1,e2,this,rfl⟩,?_⟩
    ·omega
    ·exact⟨_,rfl,_,_,rfl,rfl,rfl,rfl⟩
   ·refine⟨_,rfl,?_⟩
    have e:=Zew _ _ k hk (.inr (.inr ⟨a,b,ha,hb,fun e=>d3 (by subst e;exact decide_eq_true rfl)⟩))
    rw[e]at q
    exact q
  ·refine Zbr ⟨_,rfl,?_⟩
   have d2':¬ (k:Int)<(y.length:Int):=of_decide_eq_false (Qan.mpr d2)
   have e:=Zew _ _ k hk (.inr (.inl (by omega)))
   rw[e]at q
   exact q
 ·refine Zbr ⟨_,rfl,?_⟩
  have d1':¬ (k:Int)<(x.length:Int):=of_decide_eq_false (Qan.mpr d1)
  have e:=Zew _ _ k hk (.inl (by omega))
  rw[e]at q
  exact q
theorem Zmy(T:Zai K mg cRow cMerge)(f_alike_from:Df P w K mg base 1 "alike_from" ["one", "other", "far"] ZcC):Df P w K mg base 2 "alike" ["one", "other"] ZcL:=by
 refine T.t_alike.df Zoc (fun vs H Q E h=>?_) (fun cdv f A outer s H vs Q E hr h=>?_)
 ·obtain⟨x,y,rfl,_⟩:=h
  rfl
 obtain⟨x,y,rfl,hx,hy,q⟩:=h
 refine⟨_,#[Zj,#[Zr,#[Zv,f_alike_from,hr,#[Za,‹0›,#[Za,‹1›,#[Za,#[Zi],#[Ze]]]],(by rfl)]]],?_⟩
 exact⟨_,rfl,_,rfl,x,y,0,rfl,hx,hy,Qv _,q⟩
theorem Zkn(T:Zai K mg cRow cMerge):Df P w K mg base 1 "_law_alike" ["_law_one", "_law_other"] ZcL:=by
 refine T.t_l_alike.df ZeY (fun vs H Q E h=>?_) (fun cdv f A outer s H vs Q E hr h=>?_)
 ·obtain⟨x,y,rfl,_⟩:=h
  rfl
 obtain⟨x,y,rfl,hx,hy,q⟩:=h
 refine⟨_,#[Zf,#[Zy,2,ZeY.nd,(Or.inl rfl),#[Zi]],#[Zf,(@Zd6 _ _ _ _ _ _ PassesOwn.never (@PW.pt _ _ _ #[ZbQ,#[Zo,ZeF,‹2›,#[Zk,ZaG,(by rfl),T.b.n_len,Qs,#[Za,‹0›,#[Ze]]],(Zs _)],#[ZbQ,#[Zo,ZeF,‹2›,#[Zk,ZaG,(by rfl),T.b.n_len,Qs,#[Za,‹1›,#[Ze]]],(Zs _)],#[ZbH,#[Zo,Za7,#[Zm,Zem,‹0›,‹2›],#[Zm,Zem,‹1›,‹2›],(Zs _)]]]]) #[Zj,#[Zy,2,ZeY.nd,(Or.inl rfl),#[ZE,Zah,‹2›,#[Zi]]]]),#[Zj,#[Zr,‹2›]]]],?_⟩
 have lx:(cds x).length=x.length:=by simp[Str.length]
 have ly:(cds y).length=y.length:=by simp[Str.length]
 have ll:=ZfK (cds x) (cds y)
 refine⟨fun m σ H2=>∃k:Nat,σ=[some (.str x),some (.str y),some (.int k)]∧H2=H∧k≤lcp (cds x) (cds y)∧m=lcp (cds x) (cds y)-k,⟨_,0,rfl,rfl,Qv _,rfl⟩,?_⟩
 rintro m σ H2 ⟨k,rfl,rfl,hk,rfl⟩
 refine⟨_,rfl,_,rfl,x,rfl,Zbg hx,_,_,rfl,rfl,_,rfl,?_⟩
 refine Zbc (fun d1=>?_) (fun d1=>?_)
 ·have d1':(k:Int)<(x.length:Int):=of_decide_eq_true d1
  refine⟨_,rfl,_,rfl,y,rfl,Zbg hy,_,_,rfl,rfl,_,rfl,?_⟩
  refine Zbc (fun d2=>?_) (fun d2=>?_)
  ·have d2':(k:Int)<(y.length:Int):=of_decide_eq_true d2
   obtain⟨a,ha,ha'⟩:=ZcN (z:=x) (k:=k) (by omega) d1'
   obtain⟨b,hb,hb'⟩:=ZcN (z:=y) (k:=k) (by omega) d2'
   rw[Int.toNat_natCast]at ha hb
   refine⟨_,rfl,_,rfl,x,_,a,rfl,rfl,Zbg hx,ha',_,rfl,_,rfl,y,_,b,rfl,rfl,Zbg hy,hb',rfl,_,rfl,?_⟩
   refine Zbc (fun d3=>?_) (fun d3=>?_)
   ·have d3':a=b:=by
     have:=of_decide_eq_true d3
     injection this with e
     injection e with e
     simpa using e
    subst d3'
    have:=Zkq _ _ k hk a ha hb
    refine⟨fun σ' H'=>σ'=[some (.str x),some (.str y),some (.int ((k+1:Nat):Int))]∧H'=H2,fun σ' H' ⟨e1,e2⟩=>⟨_,?_,k+1,e1,e2,this,rfl⟩,?_⟩
    ·omega
    ·exact⟨_,rfl,_,_,rfl,rfl,rfl,rfl⟩
   ·refine⟨_,rfl,?_⟩
    have e:=Zew _ _ k hk (.inr (.inr ⟨a,b,ha,hb,fun e=>d3 (by subst e;exact decide_eq_true rfl)⟩))
    rw[e]at q
    exact q
  ·refine Zbr ⟨_,rfl,?_⟩
   have d2':¬ (k:Int)<(y.length:Int):=of_decide_eq_false (Qan.mpr d2)
   have e:=Zew _ _ k hk (.inr (.inl (by omega)))
   rw[e]at q
   exact q
 ·refine Zbr ⟨_,rfl,?_⟩
  have d1':¬ (k:Int)<(x.length:Int):=of_decide_eq_false (Qan.mpr d1)
  have e:=Zew _ _ k hk (.inl (by omega))
  rw[e]at q
  exact q
theorem Zcq{c A B:Prop}[Decidable c](hc:c)(h:A):if decide c=true then A else B:=by
 rw[if_pos (decide_eq_true hc)]
 exact h
theorem Zbv{c A B:Prop}[Decidable c](hc:¬ c)(h:B):if decide c=true then A else B:=by
 rw[if_neg (by rw[decide_eq_false hc];exact Qm)]
 exact h
theorem Zlm(T:Zai K mg cRow cMerge):∀n:Nat,Df P w K mg base (n+1) "_law_same" ["_law_found", "_law_due"] (Ziw n)
 | 0=>by
  refine T.t_l_same.df Zh2 (fun vs H Q E h=>?_) (fun cdv f A outer s H vs Q E hr h=>?_)
  ·obtain⟨x,y,rfl,_⟩:=h
   rfl
  obtain⟨x,y,rfl,h,_⟩:=h
  exact h.elim
 | n+1=>by
  have f_l_same:=Zlm T n
  refine T.t_l_same.df Zh2 (fun vs H Q E h=>?_) (fun cdv f A outer s H vs Q E hr h=>?_)
  ·obtain⟨x,y,rfl,_⟩:=h
   rfl
  obtain⟨x,y,rfl,hD,q⟩:=h
  refine⟨_,#[Zf,#[Z3,#[ZbP,#[Zk,(Zrr K),(by rfl),T.b.n_isinstance,boot_isinstance,#[Za,‹1›,#[Za,#[ZaC,#[Za,#[Zdo,T.b.n_list,boot_list],#[Za,#[Zdo,T.b.n_tuple,boot_tuple],#[Ze]]]],#[Ze]]]]],#[Zf,#[Z3,(@PW.pt _ _ _ #[Zig,#[Zo,Zp1,#[Zk,(Zg7 K),(by rfl),T.b.n_isinstance,boot_isinstance,#[Za,‹0›,#[Za,#[Zdo,T.b.n_list,boot_list],#[Ze]]]],#[Zk,(Zg7 K),(by rfl),T.b.n_isinstance,boot_isinstance,#[Za,‹1›,#[Za,#[Zdo,T.b.n_list,boot_list],#[Ze]]]],(Zs _)],(@ZfN _ _ _ _ #[Zo,Zp1,#[Zk,(Zg7 K),(by rfl),T.b.n_isinstance,boot_isinstance,#[Za,‹0›,#[Za,#[Zdo,T.b.n_tuple,boot_tuple],#[Ze]]]],#[Zk,(Zg7 K),(by rfl),T.b.n_isinstance,boot_isinstance,#[Za,‹1›,#[Za,#[Zdo,T.b.n_tuple,boot_tuple],#[Ze]]]],(Zs _)])]),#[Zj,#[Zr,#[Zf1]]],#[ZF]],#[Zj,#[Zr,#[ZdS,#[Za5,Za7,#[Zk,(Zb1 K),(by rfl),T.b.n_len,Qs,#[Za,‹0›,#[Ze]]],#[Zk,(Zb1 K),(by rfl),T.b.n_len,Qs,#[Za,‹1›,#[Ze]]],(Zs _)],#[ZeT,#[Zk,(ZsL K),(by rfl),T.b.n_all,boot_all,#[Za,#[Zdw,ZlO,(@iZ _ K _ _ _ _ _ _ _ _ T.b.n_zip #[Za,‹0›,#[Za,‹1›,#[Ze]]] (by rfl) (by rfl) (by rfl) (by rfl)),(fun _ _ _ _=>#[gT,K,2,#[ZC,#[cg,2,ZlO],#[ZC,#[cg,3,ZlO],(@ZaF _)]]]),(fun _ _ _ _=>(@ZcD _)),(fun _ _ _ _=>#[Zv,f_l_same,hr,#[Za,#[cw,2,ZlO],#[Za,#[cw,3,ZlO],#[Ze]]],(ZbJ ZlO rfl (by ac_rfl))])],#[Ze]]]]]]]],#[ZF]],#[Zf,#[Z3,(@PW.pt _ _ _ #[Zig,#[Zo,Zbw,‹1›,#[ZW],(Zs _)],(@ZfN _ _ _ _ #[ZbP,#[Zk,(Zg7 K),(by rfl),T.b.n_isinstance,boot_isinstance,#[Za,‹1›,#[Za,#[Zdo,T.b.n_str,boot_str],#[Ze]]]]])]),#[Zj,#[Zr,#[ZdS,#[Za5,Za7,‹0›,‹1›,(Zs _)],#[ZeT,#[Za5,Za7,#[Zk,(Zg7 K),(by rfl),T.b.n_isinstance,boot_isinstance,#[Za,‹0›,#[Za,#[Zdo,T.b.n_str,boot_str],#[Ze]]]],#[Zk,(Zg7 K),(by rfl),T.b.n_isinstance,boot_isinstance,#[Za,‹1›,#[Za,#[Zdo,T.b.n_str,boot_str],#[Ze]]]],(Zs _)]]]]],#[ZF]],#[Zf,#[Z3,#[ZbP,#[Zk,(Zg7 K),(by rfl),T.b.n_isinstance,boot_isinstance,#[Za,‹1›,#[Za,#[Zdo,T.b.n_bool,boot_bool],#[Ze]]]]],#[Zj,#[Zr,#[ZdS,#[Zk,(Zg7 K),(by rfl),T.b.n_isinstance,boot_isinstance,#[Za,‹0›,#[Za,#[Zdo,T.b.n_bool,boot_bool],#[Ze]]]],#[ZeT,#[Za5,Za7,‹0›,‹1›,(Zs _)]]]]],#[ZF]],#[Zj,#[Zr,#[ZdS,#[Zk,(Zg7 K),(by rfl),T.b.n_isinstance,boot_isinstance,#[Za,‹0›,#[Za,#[Zdo,T.b.n_int,boot_int],#[Ze]]]],#[ZdS,(@Zqz _ _ _ _ #[Zk,(Zg7 K),(by rfl),T.b.n_isinstance,boot_isinstance,#[Za,‹0›,#[Za,#[Zdo,T.b.n_bool,boot_bool],#[Ze]]]]),#[ZeT,#[Za5,Za7,‹0›,‹1›,(Zs _)]]]]]]]]],?_⟩
  refine⟨_,rfl,(by show 2≤sizeLine;decide),fun tp htp=>?_⟩
  have sT:ZH H (upd H tp (.tup (["list", "tuple"].map V.ty))):=Zh htp _
  rcases hD with⟨rfl,rfl|⟨b,rfl⟩|⟨i,rfl⟩|⟨z,rfl⟩⟩|⟨p,q2,xs,ys,rfl,rfl,⟨hp,hq⟩|⟨hp,hq⟩,hl,hz,hi⟩
  ·refine⟨_,tp,["list", "tuple"],_,_,rfl,Zb,.non,Zmb K,_,rfl,Zbr ?_⟩
   refine⟨_,rfl,rfl,_,rfl,Zcq rfl (ZfP ?_)⟩
   refine⟨_,rfl,_,rfl,rfl,_,rfl,Zcq rfl ?_⟩
   exact⟨_,rfl,_, "str",_,_,rfl,.non,Zih K,_,rfl,_, "str",_,_,rfl,.non,Zih K,rfl,q _ sT⟩
  ·refine⟨_,tp,["list", "tuple"],_,_,rfl,Zb,.bl b,ZmA K,_,rfl,Zbr ?_⟩
   refine⟨_,rfl,rfl,_,rfl,Zbv (by intro z;cases z) ?_⟩
   refine⟨_,rfl,_, "str",_,_,rfl,.bl b,Znc K,_,rfl,Zbr ?_⟩
   refine⟨_,rfl,_, "bool",_,_,rfl,.bl b,Zk7 K,_,rfl,ZfP ?_⟩
   refine⟨_,rfl,_, "bool",_,_,rfl,.bl b,Zk7 K,_,rfl,ZfP ?_⟩
   refine⟨_,rfl,_,rfl,rfl,?_⟩
   have e:decide (V.bl b=V.bl b)=true:=decide_eq_true rfl
   rw[e]
   exact q _ sT
  ·refine⟨_,tp,["list", "tuple"],_,_,rfl,Zb,.int i,ZlT K,_,rfl,Zbr ?_⟩
   refine⟨_,rfl,rfl,_,rfl,Zbv (by intro z;cases z) ?_⟩
   refine⟨_,rfl,_, "str",_,_,rfl,.int i,Zmk K,_,rfl,Zbr ?_⟩
   refine⟨_,rfl,_, "bool",_,_,rfl,.int i,Zjb K,_,rfl,Zbr ?_⟩
   refine⟨_,rfl,_, "int",_,_,rfl,.int i,Zl3 K,_,rfl,ZfP ?_⟩
   refine⟨_,rfl,_, "bool",_,_,rfl,.int i,Zjb K,_,rfl,_,rfl,ZfP ?_⟩
   refine⟨_,rfl,_,rfl,rfl,?_⟩
   have e:decide (V.int i=V.int i)=true:=decide_eq_true rfl
   rw[e]
   exact q _ sT
  ·refine⟨_,tp,["list", "tuple"],_,_,rfl,Zb,.str z,Zlw K,_,rfl,Zbr ?_⟩
   refine⟨_,rfl,rfl,_,rfl,Zbv (by intro z;cases z) ?_⟩
   refine⟨_,rfl,_, "str",_,_,rfl,.str z,Zfp K,_,rfl,ZfP ?_⟩
   refine⟨_,rfl,_,rfl,rfl,_,rfl,Zcq rfl ?_⟩
   exact⟨_,rfl,_, "str",_,_,rfl,.str z,Zfp K,_,rfl,_, "str",_,_,rfl,.str z,Zfp K,rfl,q _ sT⟩
  ·have hxT:(upd H tp (.tup (["list", "tuple"].map V.ty))) p=some (.lst xs):=by rw[Zc (Zd hp htp)];exact hp
   have hyT:(upd H tp (.tup (["list", "tuple"].map V.ty))) q2=some (.lst ys):=by rw[Zc (Zd hq htp)];exact hq
   refine⟨_,tp,["list", "tuple"],_,_,rfl,Zb,.lst hyT,ZlA K,_,rfl,ZfP ?_⟩
   refine⟨_,rfl,_, "list",_,_,rfl,.lst hxT,Ziq K,_,rfl,_, "list",_,_,rfl,.lst hyT,Ziq K,rfl,_,rfl,Zeh rfl ?_⟩
   refine⟨_,rfl,_, "tuple",_,_,rfl,.lst hxT,Zie K,_,rfl,_, "tuple",_,_,rfl,.lst hyT,Zie K,rfl,_,rfl,Zeh rfl ?_⟩
   refine⟨_,rfl,p,xs,rfl,.inl (SqL.of hxT),_,rfl,q2,ys,rfl,.inl (SqL.of hyT),rfl,_,rfl,Zcq (by rw[hl]) ?_⟩
   refine⟨_,rfl,_,rfl,.l p,.l q2,xs,ys,rfl,SqL.of hxT,SqL.of hyT,fun D hD=>?_⟩
   have sD:ZH H (upd H tp (.tup (["list", "tuple"].map V.ty))):=Zh htp _
   refine ZjE (K:=K) (xs:=xs) (ys:=ys) (fun i zs σ H2=>(∃v1 v2,σ=[some (.ref p),some (.ref q2),v1,v2])∧zs=List.replicate i (.bl true)∧ZH H H2∧H2 D=some (.lst zs)∧i≤xs.length) ?_ ?_ ?_ ?_
   ·exact⟨⟨none,none,rfl⟩,rfl,sD.trans (Zh hD _),Zb,Qv _⟩
   ·rintro i zs σ H2 ⟨_,_,s2,_⟩
    exact⟨SqL.of (s2 _ _ hp),SqL.of (s2 _ _ hq)⟩
   ·rintro i zs σ H2 x' y' r hx' hy' ⟨⟨v1,v2,rfl⟩,rfl,s2,hD2,hiz⟩ hr
    have hil:i<xs.length:=(Qi.mp hx').1
    have nDr:D≠r:=Zd hD2 hr
    have s3:ZH H (upd H2 r (.tup [x',y'])):=s2.trans (Zh hr _)
    refine⟨r,_,rfl,SqT.of Zb,rfl,_,_,rfl,_,_,rfl,rfl,?_⟩
    refine⟨_,rfl,_,rfl,x',y',rfl,(hi i x' y' hx' hy').mono s3,fun H' s'=>?_⟩
    have hD':H' D=some (.lst (List.replicate i (.bl true))):=s' _ _ (by rw[Zc nDr];exact hD2)
    refine⟨hD',(by rw[QM];exact ZB (by omega)),⟨_,_,rfl⟩,?_,?_,Zb,hil⟩
    ·rw[List.replicate_succ']
    ·intro b o e
     have e1:=s' b o (s3 b o e)
     rw[Zc (fun z=>by subst z;exact nomatch (sD b o e).symm.trans hD)]
     exact e1
   ·rintro zs σ H2 ⟨_,rfl,s2,hD2,_⟩
    refine⟨D,List.replicate (min xs.length ys.length) true,rfl,SqL.of (by rw[List.map_replicate];exact hD2),?_⟩
    have e:(List.replicate (min xs.length ys.length) true).all id=true:=by rw[Qa1];intro b hb;exact(QS hb)
    rw[e]
    exact q H2 s2
  ·have hxT:(upd H tp (.tup (["list", "tuple"].map V.ty))) p=some (.tup xs):=by rw[Zc (Zd hp htp)];exact hp
   have hyT:(upd H tp (.tup (["list", "tuple"].map V.ty))) q2=some (.tup ys):=by rw[Zc (Zd hq htp)];exact hq
   refine⟨_,tp,["list", "tuple"],_,_,rfl,Zb,.tup hyT,Zl4 K,_,rfl,ZfP ?_⟩
   refine⟨_,rfl,_, "list",_,_,rfl,.tup hxT,ZhT K,_,rfl,_, "list",_,_,rfl,.tup hyT,ZhT K,rfl,_,rfl,Zeh rfl ?_⟩
   refine⟨_,rfl,_, "tuple",_,_,rfl,.tup hxT,Zhz K,_,rfl,_, "tuple",_,_,rfl,.tup hyT,Zhz K,rfl,_,rfl,Zeh rfl ?_⟩
   refine⟨_,rfl,p,xs,rfl,.inr (SqT.of hxT),_,rfl,q2,ys,rfl,.inr (SqT.of hyT),rfl,_,rfl,Zcq (by rw[hl]) ?_⟩
   refine⟨_,rfl,_,rfl,.t p,.t q2,xs,ys,rfl,SqT.of hxT,SqT.of hyT,fun D hD=>?_⟩
   have sD:ZH H (upd H tp (.tup (["list", "tuple"].map V.ty))):=Zh htp _
   refine ZjE (K:=K) (xs:=xs) (ys:=ys) (fun i zs σ H2=>(∃v1 v2,σ=[some (.ref p),some (.ref q2),v1,v2])∧zs=List.replicate i (.bl true)∧ZH H H2∧H2 D=some (.lst zs)∧i≤xs.length) ?_ ?_ ?_ ?_
   ·exact⟨⟨none,none,rfl⟩,rfl,sD.trans (Zh hD _),Zb,Qv _⟩
   ·rintro i zs σ H2 ⟨_,_,s2,_⟩
    exact⟨SqT.of (s2 _ _ hp),SqT.of (s2 _ _ hq)⟩
   ·rintro i zs σ H2 x' y' r hx' hy' ⟨⟨v1,v2,rfl⟩,rfl,s2,hD2,hiz⟩ hr
    have hil:i<xs.length:=(Qi.mp hx').1
    have nDr:D≠r:=Zd hD2 hr
    have s3:ZH H (upd H2 r (.tup [x',y'])):=s2.trans (Zh hr _)
    refine⟨r,_,rfl,SqT.of Zb,rfl,_,_,rfl,_,_,rfl,rfl,?_⟩
    refine⟨_,rfl,_,rfl,x',y',rfl,(hi i x' y' hx' hy').mono s3,fun H' s'=>?_⟩
    have hD':H' D=some (.lst (List.replicate i (.bl true))):=s' _ _ (by rw[Zc nDr];exact hD2)
    refine⟨hD',(by rw[QM];exact ZB (by omega)),⟨_,_,rfl⟩,?_,?_,Zb,hil⟩
    ·rw[List.replicate_succ']
    ·intro b o e
     have e1:=s' b o (s3 b o e)
     rw[Zc (fun z=>by subst z;exact nomatch (sD b o e).symm.trans hD)]
     exact e1
   ·rintro zs σ H2 ⟨_,rfl,s2,hD2,_⟩
    refine⟨D,List.replicate (min xs.length ys.length) true,rfl,SqL.of (by rw[List.map_replicate];exact hD2),?_⟩
    have e:(List.replicate (min xs.length ys.length) true).all id=true:=by rw[Qa1];intro b hb;exact(QS hb)
    rw[e]
    exact q H2 s2
theorem Zaz.new{H:Hp}{p l:Addr}{c:Int}{o:HO}(h:Zaz H p c)(n:H l=none):Zaz (upd H l o) p c:=by
 obtain⟨a,b,hp,c0⟩:=h
 exact⟨a,b,by rw[Zc (Zd hp n)];exact hp,c0⟩
theorem Zaz.ge{H:Hp}{p:Addr}{c:Int}(h:Zaz H p c):0≤c:=by obtain⟨a,b,hp,c0⟩:=h;exact c0
theorem Zaz.here{H:Hp}{p:Addr}{c:Int}(h:Zaz H p c):∃o,H p=some o:=by obtain⟨a,b,hp,c0⟩:=h;exact⟨_,hp⟩
theorem Zaz.at{H:Hp}{p l:Addr}{c:Int}{o:HO}(h:Zaz H p c)(n:p≠l):Zaz (upd H l o) p c:=by
 obtain⟨a,b,hp,c0⟩:=h
 exact⟨a,b,by rw[Zc n];exact hp,c0⟩
theorem Zhb:∀ss:List Str,(∀s∈ss,AZ s)→PyData.canLayAll0 (ss.map PyData.str)=true
 | [],_=>rfl
 | x::r,h=>by simp[PyData.canLayAll0,PyData.canLay0,(h x (by simp)).ok,Zhb r fun s hs=>h s (List.mem_cons_of_mem _ hs)]
theorem ZeV:∀ss:List Str,PyData.depthAll (ss.map PyData.str)=0
 | []=>rfl
 | _::r=>by simp[PyData.depthAll,PyData.depth,ZeV r]
theorem Zby(ss:List Str)(h:∀s∈ss,AZ s):SeqAt.shaped (.list (ss.map PyData.str))=true:=by simp[SeqAt.shaped,PyData.canLay0,PyData.depth,Zhb ss h,ZeV]
theorem ZcI{K:PySem.W.Frag}{H:Hp}:∀ss:List Str,DVs K H (ss.map V.str) (ss.map PyData.str)
 | []=>.nil
 | s::r=>.cons (.str s) (ZcI r)
def Zkp:Sp:=fun vs H Q _=>∃ (p l:Addr) (c most:Int) (ss:List Str),vs=[.ref p,.ref l,.int most]∧Zaz H p c∧c<2 ^ 40∧0≤most∧most≤60∧H l=some (.lst (ss.map V.str))∧1≤ss.length∧ss.length≤4∧(∀s∈ss,s.length≤24∧AZ s) ∧
 ∀ (r:Addr) (ts:List Str) (c':Int) (H':Hp),H r=none→H' r=some (.lst (ts.map V.str))→(ts.length:Int)≤most→(∀s∈ts,s.length≤28∧AZ s)→Zaz H' p c'→c≤c'→c'≤c+600→But p H H'→Q (.ref r) H'
theorem ZoP(T:Zai K mg cRow cMerge)(f_l_pick:Df P w K mg base 2 "_law_pick" ["_law_left_here", "_law_many_here"] Ze1)(f_l_key:Df P w K mg base 3 "_law_key" ["_law_left_here", "_law_stems_here"] Zn6):Df P w K mg base 4 "_law_keys" ["_law_left_here", "_law_stems_here", "_law_most"] Zkp:=by
 refine T.t_l_keys.df Zdm (fun vs H Q E h=>?_) (fun cdv f A outer s H vs Q E hr h=>?_)
 ·obtain⟨p,l,c,most,ss,rfl,_⟩:=h
  rfl
 obtain⟨p,l,c,most,ss,rfl,hL,c1,m0,m1,hl,n1,n4,h24,q⟩:=h
 refine⟨_,#[Zf,#[Zy,3,Zdm.nd,(Or.inl rfl),#[Zab,#[Ze]]],#[Zf,#[ZbK,PassesOwn.never,#[Zbi,T.b.n_range,#[Za,#[Zv,f_l_pick,hr,#[Za,‹0›,#[Za,#[ZE,Zah,‹2›,#[Zi]],#[Ze]]],(by rfl)],#[Ze]]],#[ZD,4,Zdm.nd,(Or.inl rfl)],#[Zf,#[Zy,5,Zdm.nd,(Or.inl rfl),#[Zv,f_l_key,hr,#[Za,‹0›,#[Za,‹1›,#[Ze]]],(by rfl)]],#[Zf,#[Z3,(@PW.pt _ _ _ #[ZbQ,#[Zo,#[neD,K,hr],‹3›,#[Zab,#[Ze]],(Zs _)],#[ZbH,#[Zo,Za7,#[Zv,f_l_pick,hr,#[Za,‹0›,#[Za,#[Zi],#[Ze]]],(by rfl)],#[Zi],(Zs _)]]]),#[Zj,#[Zy,5,Zdm.nd,(Or.inl rfl),#[Zm,(ixL K),‹3›,#[Zv,f_l_pick,hr,#[Za,‹0›,#[Za,#[Zk,(Zb1 K),(by rfl),T.b.n_len,Qs,#[Za,‹3›,#[Ze]]],#[Ze]]],(by rfl)]]]],#[ZF]],#[Zj,#[Z8,#[ZdJ,QL,QT,QU,Zbk,‹3›,#[Za,‹5›,#[Ze]]]]]]]],#[Zj,#[Zr,‹3›]]]],?_⟩
 have c0:=hL.ge
 refine⟨(by show 0≤sizeLine;decide),fun r hr0=>?_⟩
 have npr:p≠r:=by obtain⟨o,ho⟩:=hL.here;exact Zd ho hr0
 have nlr:l≠r:=Zd hl hr0
 have npl:p≠l:=by
  obtain⟨a,b,hp,_⟩:=hL
  refine ZmS hp hl fun e=>?_
  cases ss with
  | nil=>exact absurd (congrArg List.length (HO.lst.inj e)) (by simp)
  | cons x r=>exact absurd (HO.lst.inj e) (by intro z;cases z)
 refine⟨_,rfl,_,rfl,_,_,rfl,rfl,p,c,_,rfl,hL.new hr0,by omega,by omega,by omega,fun n H1 w0 w1 L1 B1=>?_⟩
 refine⟨_,rfl,by omega,by omega,?_⟩
 have hr1:H1 r=some (.lst []):=B1 r _ Zb npr.symm
 have B01:But p H H1:=(But.same (Zh hr0 _)).trans B1
 refine ZbR (fun i σ H2=>∃ (ts:List Str) (v1 v2:Option V) (c2:Int),σ=[some (.ref p),some (.ref l),some (.int most),some (.ref r),v1,v2]∧H2 r=some (.lst (ts.map V.str))∧ts.length=i∧(∀s∈ts,s.length≤28∧AZ s)∧Zaz H2 p c2∧c+1≤c2∧c2≤c+1+8*i∧(∀b o,H b=some o→b≠p→H2 b=some o)) ⟨[],none,none,c+1,rfl,hr1,rfl,(fun s hs=>by cases hs),L1,by omega,by omega,B01⟩ ?_ ?_
 ·rintro i σ H2 hi ⟨ts,v1,v2,c2,rfl,hr2,hn,h28,L2,a1,a2,B2⟩
  have hi60:(i:Int)<61:=by omega
  have hl2:=B2 l _ hl npl.symm
  refine⟨_,rfl,_,rfl,p,l,c2,ss,rfl,L2,by omega,hl2,n1,n4,h24,fun key c3 H3 hkey hkaz L3 a3 a4 B3=>?_⟩
  have hr3:=B3 r _ hr2 npr.symm
  have fin:∀ (k2:Str) (c4:Int) (H4:Hp),k2.length≤28∧AZ k2→Zaz H4 p c4→c2≤c4→c4≤c2+8→H4 r=some (.lst (ts.map V.str))→(∀b o,H b=some o→b≠p→H4 b=some o) →
    ∃ (ts':List Str) (v1 v2:Option V) (c5:Int),[some (V.ref p),some (V.ref l),some (V.int most),some (V.ref r),some (V.int (0+(i:Int))),some (V.str k2)]=[some (.ref p),some (.ref l),some (.int most),some (.ref r),v1,v2] ∧
     (upd H4 r (.lst (ts.map V.str++[.str k2]))) r=some (.lst (ts'.map V.str))∧ts'.length=i+1∧(∀s∈ts',s.length≤28∧AZ s)∧Zaz (upd H4 r (.lst (ts.map V.str++[.str k2]))) p c5∧c+1≤c5∧c5≤c+1+8*((i+1:Nat):Int) ∧
     (∀b o,H b=some o→b≠p→(upd H4 r (.lst (ts.map V.str++[.str k2]))) b=some o):=fun k2 c4 H4 hk L4 b1 b2 hr4 B4=>by
   refine⟨ts++[k2],_,_,c4,rfl,?_,by rw[Qf,hn];rfl,?_,L4.at npr,by omega,by omega,fun b o e n=>?_⟩
   ·rw[Zb,Qe];rfl
   ·intro x hx
    rcases Qk.mp hx with hx|hx
    ·exact h28 x hx
    ·rw[Qp.mp hx];exact hk
   ·rw[Zc (Zd e hr0)]
    exact B4 b o e n
  have hlt:(ts.map V.str).length<sizeLine:=by rw[Qa,hn];exact ZB (by omega)
  refine⟨_,rfl,(by show 0≤sizeLine;decide),fun e he=>?_⟩
  have hr3':(upd H3 e (.lst [])) r=some (.lst (ts.map V.str)):=by rw[Zc (Zd hr3 he)];exact hr3
  refine⟨.list (ts.map PyData.str),.list [],.lst (SqL.of hr3') (ZcI ts),.lst (SqL.of Zb) .nil,Zby ts (fun s h=>(h28 s h).2),(by ac_rfl),_,rfl,?_⟩
  have B3':∀b o,H b=some o→b≠p→(upd H3 e (.lst [])) b=some o:=fun b o z n=>Zh he _ b o (B3 b o (B2 b o z n) n)
  cases ts with
  | nil =>
   have ev:(if true=true then !PyData.eqv (.list (([]:List Str).map PyData.str)) (.list []) else PyData.eqv (.list (([]:List Str).map PyData.str)) (.list []))=false:=by ac_rfl
   rw[ev]
   refine Zbr (Zbr ?_)
   refine⟨_,rfl,.inl ⟨rfl,_,SqL.of hr3'⟩,_,rfl,r,_,_,rfl,rfl,hr3',hlt,?_⟩
   exact fin key c3 _ ⟨hkey,hkaz⟩ (L3.new he) (by omega) (by omega) hr3' B3'
  | cons t0 tr =>
   have ev:(if true=true then !PyData.eqv (.list ((t0::tr).map PyData.str)) (.list []) else PyData.eqv (.list ((t0::tr).map PyData.str)) (.list []))=true:=by simp[PyData.eqv,PyData.eqvAll]
   rw[ev]
   refine ZfP ⟨_,rfl,p,c3,_,rfl,L3.new he,by omega,by decide,by decide,fun d H5 d0 d1 L5 B5=>?_⟩
   have hr5:=B5 r _ hr3' npr.symm
   refine⟨rfl,_,rfl,Zbc (fun _=>?_) (fun _=>?_)⟩
   ·have hlen:((((t0::tr).map V.str).length:Nat):Int)=((t0::tr).length:Int):=by rw[Qa]
    have hpos:(0:Int)<((t0::tr).length:Int):=by simp
    refine⟨_,rfl,_,rfl,_,rfl,r,_,rfl,.inl (SqL.of hr5),p,c3+1,_,rfl,L5,by omega,by omega,by omega,fun d' H6 d0' d1' L6 B6=>?_⟩
    obtain⟨st,hs1,hs2⟩:=ZkP (ss:=t0::tr) d0' (by omega)
    have hr6:=B6 r _ hr5 npr.symm
    refine(xw4 r _ _ _ ⟨rfl,rfl,SqL.of hr6,hs2,?_⟩)
    refine⟨_,rfl,.inl ⟨rfl,_,SqL.of hr6⟩,_,rfl,r,_,_,rfl,rfl,hr6,hlt,?_⟩
    exact fin st _ _ (h28 st hs1) L6 (by omega) (by omega) hr6 fun b o z n=>B6 b o (B5 b o (B3' b o z n) n) n
   ·refine⟨_,rfl,.inl ⟨rfl,_,SqL.of hr5⟩,_,rfl,r,_,_,rfl,rfl,hr5,hlt,?_⟩
    exact fin key _ _ ⟨hkey,hkaz⟩ L5 (by omega) (by omega) hr5 fun b o z n=>B5 b o (B3' b o z n) n
 ·rintro σ H2 ⟨ts,v1,v2,c2,rfl,hr2,hn,h28,L2,a1,a2,B2⟩
  exact⟨_,rfl,q r ts c2 H2 hr0 hr2 (by omega) h28 L2 (by omega) (by omega) B2⟩
def Zdb(ss:List Str)(i:Nat):Int:=if i=0 then 0 else (lcp (cds (ss.getD (i-1) "")) (cds (ss.getD i "")):Nat)
def Zfi(K:PySem.W.Frag):Sp:=fun vs H Q _=>∃ (a:Addr) (ss:List Str),vs=[.ref a]∧SqL K H a (ss.map V.str)∧ss.length≤200∧(∀s∈ss,s.length≤1000) ∧
 ∀ (r:Addr) (H':Hp),H r=none→H' r=some (.lst ((List.range ss.length).map fun j=>.int (Zdb ss j)))→ZH H H'→Q (.ref r) H'
theorem Zmr(T:Zai K mg cRow cMerge)(f_alike:Df P w K mg base 2 "alike" ["one", "other"] ZcL):Df P w K mg base 3 "alikes" ["row"] (Zfi K):=by
 refine T.t_alikes.df Zet (fun vs H Q E h=>?_) (fun cdv f A outer s H vs Q E hr h=>?_)
 ·obtain⟨a,ss,rfl,_⟩:=h
  rfl
 obtain⟨a,ss,rfl,hS,hn,hlen,q⟩:=h
 refine⟨_,#[Zf,#[Zy,1,Zet.nd,(Or.inl rfl),#[Zab,#[Ze]]],#[Zf,#[ZbK,PassesOwn.never,#[iE,K,T.b.n_enumerate,#[Za,‹0›,#[Ze]]],#[gT,K,2,#[ZC,#[ZD,2,Zet.nd,(Or.inl rfl)],#[ZC,#[ZD,3,Zet.nd,(Or.inl rfl)],(@ZaF _)]]],#[Zj,#[Z8,#[ZdJ,QL,QT,QU,Zbk,‹1›,#[Za,#[Zbu,#[Zo,Za7,‹2›,#[Zi],(Zs _)],#[Zi],#[Zv,f_alike,hr,#[Za,#[Zm,(ixL K),‹0›,#[ZE,ZeZ,‹2›,#[Zi]]],#[Za,‹3›,#[Ze]]],(by rfl)]],#[Ze]]]]]],#[Zj,#[Zr,‹1›]]]],?_⟩
 refine⟨(by show 0≤sizeLine;decide),fun r hr0=>?_⟩
 have s1:ZH H (upd H r (.lst [])):=Zh hr0 _
 refine⟨_,rfl,a,ss.map V.str,rfl,s1.seq hS,?_⟩
 refine Zhe (K:=K) (a:=a) (xs:=ss.map V.str) (fun i σ H2=>(∃v1 v2:Option V,σ=[some (.ref a),some (.ref r),v1,v2])∧H2 r=some (.lst ((List.range i).map fun j=>.int (Zdb ss j)))∧ZH H H2∧i≤ss.length) ⟨⟨none,none,rfl⟩,Zb,s1,Qv _⟩ (fun _ _ _ hq=>by obtain⟨_,_,s2,_⟩:=hq;exact s2.seq hS) ?_ ?_
 ·rintro i x σ H2 p hx ⟨⟨v1,v2,rfl⟩,hr2,s2,hi⟩ hp
  rw[Qn]at hx
  cases hy:ss[i]? with
  | none=>rw[hy]at hx;cases hx
  | some y =>
   rw[hy]at hx
   cases hx
   have hil:i<ss.length:=(Qi.mp hy).1
   have npr:r≠p:=Zd hr2 hp
   have s3:ZH H (upd H2 p (.tup [.int i,.str y])):=s2.trans (Zh hp _)
   have hr3:(upd H2 p (.tup [.int i,.str y])) r=some (.lst ((List.range i).map fun j=>.int (Zdb ss j))):=by rw[Zc npr];exact hr2
   have hlt:((List.range i).map fun j=>V.int (Zdb ss j)).length<sizeLine:=by rw[Qa,List.length_range];exact ZB (by omega)
   have fin:∀z:Int,z=Zdb ss i→(∃v1 v2:Option V,[some (V.ref a),some (V.ref r),some (V.int i),some (V.str y)]=[some (.ref a),some (.ref r),v1,v2]) ∧
     (upd (upd H2 p (.tup [.int i,.str y])) r (.lst (((List.range i).map fun j=>.int (Zdb ss j))++[.int z]))) r=some (.lst ((List.range (i+1)).map fun j=>.int (Zdb ss j))) ∧
     ZH H (upd (upd H2 p (.tup [.int i,.str y])) r (.lst (((List.range i).map fun j=>.int (Zdb ss j))++[.int z])))∧i+1≤ss.length:=fun z e=>by
    refine⟨⟨_,_,rfl⟩,?_,fun b o h=>?_,hil⟩
    ·rw[Zb,List.range_succ,Qe,e];rfl
    ·rw[Zc (Zd h hr0)];exact s3 b o h
   refine⟨p,_,rfl,SqT.of Zb,rfl,_,_,rfl,_,_,rfl,rfl,?_⟩
   refine⟨_,rfl,.inl ⟨rfl,_,SqL.of hr3⟩,_,rfl,rfl,_,rfl,?_⟩
   by_cases e0:i=0
   ·subst e0
    exact Zcq rfl ⟨r,_,_,rfl,rfl,hr3,hlt,fin 0 rfl⟩
   ·have hprev:i-1<ss.length:=by omega
    have ei:((i:Int)-1)=((i-1:Nat):Int):=by omega
    have hat:atI (ss.map V.str) ((i:Int)-1)=some (.str ss[i-1]):=by rw[ei];exact Zam (by rw[Qn,Qb hprev]<;>rfl)
    refine Zbv (fun z=>by injection z with z;omega) ⟨_,rfl,_,rfl,_,_,rfl,rfl,xw4 a _ _ _ ⟨rfl,rfl,s3.seq hS,hat,_,rfl,ss[i-1],y,rfl,hlen _ (Q3 hprev),hlen _ (Qw hy),r,_,_,rfl,rfl,hr3,hlt,fin _ ?_⟩⟩
    unfold Zdb
    rw[if_neg e0,QF,QF,Qb hprev,hy]
    rfl
 ·rintro σ H2 ⟨⟨v1,v2,rfl⟩,hr2,s2,hi⟩
  rw[Qa]at hr2
  exact⟨_,rfl,q r H2 hr0 hr2 s2⟩
def ZQ:List Nat→List Nat→Int
 | [],[]=>0
 | [],_::_ =>-1
 | _::_,[]=>1
 | a::r,b::s=>if a=b then ZQ r s else if a<b then -1 else 1
theorem ZhV:∀ (x y:List Nat),Spec.ltCps y x=false→ZQ x y≤0
 | [],[],_=>by unfold ZQ;omega
 | [],_::_,_=>by unfold ZQ;omega
 | _::_,[],h=>by unfold Spec.ltCps at h;cases h
 | a::r,b::s,h=>by
  have ih:=ZhV r s
  unfold Spec.ltCps at h
  unfold ZQ
  rw[Bool.or_eq_false_iff,Bool.and_eq_false_iff]at h
  obtain⟨h1,h2⟩:=h
  have h1':¬ b<a:=of_decide_eq_false h1
  by_cases e:a=b
  ·rw[if_pos e]
   rcases h2 with z|z
   ·rw[e]at z;simp at z
   ·exact ih z
  ·rw[if_neg e,if_pos (by omega)]
   omega
theorem Zdv:∀ (x y z:List Nat),ZQ x y≤0→ZQ y z≤0→ZQ x z≤0
 | [],_,[],_,_=>by unfold ZQ;omega
 | [],_,_::_,_,_=>by unfold ZQ;omega
 | _::_,[],_,h,_=>by unfold ZQ at h;omega
 | _::_,_::_,[],_,h=>by unfold ZQ at h;omega
 | a::r,b::s,c::t,h1,h2=>by
  unfold ZQ at h1 h2 ⊢
  have ih:=Zdv r s t
  by_cases e1:a=b
  ·rw[if_pos e1]at h1
   by_cases e2:b=c
   ·rw[if_pos e2]at h2
    rw[if_pos (e1.trans e2)]
    exact ih h1 h2
   ·rw[if_neg e2]at h2
    rw[if_neg (fun e=>e2 (e1.symm.trans e))]
    split at h2
    ·rw[if_pos (by omega)];omega
    ·omega
  ·rw[if_neg e1]at h1
   split at h1
   ·by_cases e2:b=c
    ·rw[if_neg (fun e=>e1 (e.trans e2.symm)),if_pos (by omega)];omega
    ·rw[if_neg e2]at h2
     split at h2
     ·rw[if_neg (by omega),if_pos (by omega)];omega
     ·omega
   ·omega
theorem ZhZ:∀ (ss:List Str) (p:Str),risingS p ss=true→∀ (k:Nat) (x y:Str),(p::ss)[k]? = some x→ss[k]? = some y→ZQ (cds x) (cds y)≤0
 | [],p,_,k,x,y,_,h=>by simp at h
 | z::r,p,h,0,x,y,h1,h2=>by
  unfold risingS at h
  rw[QaC]at h
  simp at h1 h2
  subst h1 h2
  exact ZhV _ _ (by simpa using h.1)
 | z::r,p,h,k+1,x,y,h1,h2=>by
  unfold risingS at h
  rw[QaC]at h
  exact ZhZ r z h.2 k x y (by simpa using h1) (by simpa using h2)
theorem ZhG{ss:List Str}(h:sortedS ss=true)(k:Nat)(x y:Str)(h1:ss[k]? = some x)(h2:ss[k+1]? = some y):ZQ (cds x) (cds y)≤0:=by
 cases ss with
 | nil=>simp at h1
 | cons p r=>exact ZhZ r p h k x y h1 (by simpa using h2)
theorem Zi7:∀ss:List Str,PyData.eqvAll (ss.map PyData.str) (ss.map PyData.str)=true
 | []=>by simp[PyData.eqvAll]
 | x::r=>by simp[PyData.eqvAll,PyData.eqv,Zi7 r]
theorem ZhP(ss:List Str):PyData.eqv (.list (ss.map PyData.str)) (.list (ss.map PyData.str))=true:=by simp[PyData.eqv,Zi7 ss]
theorem Zlo{ss:List Str}{k:Nat}(h:k<ss.length):atI (ss.map V.str) (k:Int)=some (.str ss[k]):=Zam (by rw[Qn,Qb h]<;>rfl)
def lawInv(H:Hp)(a p:Addr)(j:Nat)(σ:L2.St)(H4:Hp):Prop:=∃ (u1 u3 u4 u5 u6 u7 u8 u9:Option V) (c:Int),σ=[some (.ref a),u1,some (.ref p),u3,u4,u5,u6,u7,u8,u9]∧ZH H H4∧Zaz H4 p c∧c≤700*j
theorem Zaz.same{H H':Hp}{p:Addr}{c:Int}(h:Zaz H p c)(s:ZH H H'):Zaz H' p c:=by obtain⟨b1,b2,hb,c0⟩:=h;exact⟨b1,b2,s _ _ hb,c0⟩
def mid(ns:List Int):Nat:=(ns.length+1) / 2
def ZeC(ns:List Int):List Int:=ns.take (mid ns)
def Zhh(ns:List Int):List Int:=ns.drop (mid ns)
theorem ZkU(ns:List Int):((((ns.map V.int).length:Nat):Int)+1) / 2=((mid ns:Nat):Int):=by
 rw[Qa];unfold mid;omega
theorem ZiV{ns:List Int}{k:Int}(h0:0≤k)(h:k<(ns.length:Int)):∃v∈ns,atI (ns.map V.int) k=some (.int v):=by
 have hk:k.toNat<ns.length:=by omega
 have ek:k=((k.toNat:Nat):Int):=by omega
 have q:atI (ns.map V.int) ((k.toNat:Nat):Int)=some (.int ns[k.toNat]):=Zam (by rw[Qn,Qb hk]<;>rfl)
 rw[← ek]at q
 exact⟨_,Q3 hk,q⟩
theorem Znu(ns:List Int)(m:Nat)(h:m≤ns.length):Zhi (ns.map V.int) none (some (m:Int))=(ns.take m).map V.int:=by
 unfold Zhi
 have e:HT.sIx (ns.map V.int).length (ns.map V.int).length (some (m:Int))=m:=by
  unfold HT.sIx
  simp only[List.length_map]
  rw[if_neg (by omega)]
  omega
 have e0:HT.sIx (ns.map V.int).length 0 none=0:=rfl
 rw[e,e0,List.drop_zero,Nat.sub_zero,List.map_take]
theorem Zji(ns:List Int)(m:Nat)(h:m≤ns.length):Zhi (ns.map V.int) (some (m:Int)) none=(ns.drop m).map V.int:=by
 unfold Zhi
 have e:HT.sIx (ns.map V.int).length 0 (some (m:Int))=m:=by
  unfold HT.sIx
  simp only[List.length_map]
  rw[if_neg (by omega)]
  omega
 have e0:HT.sIx (ns.map V.int).length (ns.map V.int).length none=(ns.map V.int).length:=rfl
 rw[e,e0,List.map_drop,QD (by rw[Q0,Qa];omega)]
theorem Zla(z:Str):(cds z).length=z.length:=by simp[Str.length]
theorem Zlj:∀ (x y:List Nat),(lcp x y=x.length→lcp x y=y.length→ZQ x y=0)∧(lcp x y=x.length→lcp x y≠y.length→ZQ x y = -1)∧(lcp x y≠x.length→lcp x y=y.length→ZQ x y=1) ∧
  ∀a b,x[lcp x y]? = some a→y[lcp x y]? = some b→ZQ x y=if a<b then -1 else 1
 | [],[]=>⟨fun _ _=>rfl,fun _ h=>absurd rfl h,fun h _=>absurd rfl h,fun a b h _=>by simp at h⟩
 | [],_::_=>⟨fun _ h=>by unfold lcp at h;simp at h,fun _ _=>rfl,fun h _=>absurd rfl h,fun a b h _=>by simp at h⟩
 | _::_,[]=>⟨fun h _=>by unfold lcp at h;simp at h,fun h _=>by unfold lcp at h;simp at h,fun _ _=>rfl,fun a b _ h=>by simp at h⟩
 | a::r,b::s=>by
  obtain⟨h1,h2,h3,h4⟩:=Zlj r s
  unfold lcp ZQ
  by_cases e:a=b
  ·rw[if_pos e,if_pos e]
   simp only[List.length_cons,List.getElem?_cons_succ]
   exact⟨fun p q=>h1 (by omega) (by omega),fun p q=>h2 (by omega) (by omega),fun p q=>h3 (by omega) (by omega),h4⟩
  ·rw[if_neg e,if_neg e]
   simp only[List.length_cons,List.getElem?_cons_zero]
   refine⟨fun p=>by omega,fun p=>by omega,fun _ p=>by omega,fun c d p q=>?_⟩
   cases p;cases q
   rfl
theorem Zb2:∀ (x y:List Nat),ZQ y x =-ZQ x y
 | [],[]=>rfl
 | [],_::_=>rfl
 | _::_,[]=>rfl
 | a::r,b::s=>by
  have ih:=Zb2 r s
  unfold ZQ
  by_cases e:a=b
  ·rw[if_pos e,if_pos e.symm,ih]
  ·rw[if_neg e,if_neg fun z=>e z.symm]
   by_cases l:a<b
   ·rw[if_pos l,if_neg (by omega)];rfl
   ·rw[if_neg l,if_pos (by omega)]
theorem Zqk(a b:Nat):decide ((⟨#[a]⟩:Str).cps.toList<(⟨#[b]⟩:Str).cps.toList)=decide (a<b):=by
 have e:([a]:List Nat)<[b]↔a<b:=by
  constructor
  ·intro h
   cases h with
   | rel h=>exact h
   | cons h=>cases h
  ·exact fun h=>List.Lex.rel h
 exact decide_eq_decide.mpr e
theorem ZhC:∀x:List Nat,ZQ x x=0
 | []=>rfl
 | a::r=>by unfold ZQ;rw[if_pos rfl];exact ZhC r
theorem Zfq:∀ (x y:List Nat),ZQ x y=0→x=y
 | [],[],_=>rfl
 | [],_::_,h=>by unfold ZQ at h;omega
 | _::_,[],h=>by unfold ZQ at h;omega
 | a::r,b::s,h=>by
  unfold ZQ at h
  by_cases e:a=b
  ·rw[if_pos e]at h
   rw[e,Zfq r s h]
  ·rw[if_neg e]at h
   split at h<;>omega
def Zir:Sp:=fun vs H Q _=>∃x y:Str,vs=[.str x,.str y]∧x.length≤1000∧y.length≤1000∧Q (.int (ZQ (cds x) (cds y))) H
def Zgk:Sp:=fun vs H Q _=>∃x y:Str,vs=[.str x,.str y,.int (lcp (cds x) (cds y):Nat)]∧x.length≤1000∧y.length≤1000∧Q (.int (ZQ (cds x) (cds y))) H
theorem ZmX(T:Zai K mg cRow cMerge):Df P w K mg base 1 "order_at" ["one", "other", "at"] Zgk:=by
 refine T.t_order_at.df Zjz (fun vs H Q E h=>?_) (fun cdv f A outer s H vs Q E hr h=>?_)
 ·obtain⟨x,y,rfl,_⟩:=h
  rfl
 obtain⟨x,y,rfl,hx,hy,q⟩:=h
 refine⟨_,#[Zf,#[Z3,(@PW.pt _ _ _ #[ZbQ,#[Zo,Za7,‹2›,#[Zk,ZaG,(by rfl),T.b.n_len,Qs,#[Za,‹0›,#[Ze]]],(Zs _)],#[ZbH,#[Zo,Za7,‹2›,#[Zk,ZaG,(by rfl),T.b.n_len,Qs,#[Za,‹1›,#[Ze]]],(Zs _)]]]),#[Zj,#[Zr,#[Zi]]],#[ZF]],#[Zf,#[Z3,#[Zo,Za7,‹2›,#[Zk,ZaG,(by rfl),T.b.n_len,Qs,#[Za,‹0›,#[Ze]]],(Zs _)],#[Zj,#[Zr,#[Zg1,ZeU,#[Zi]]]],#[ZF]],#[Zf,#[Z3,#[Zo,Za7,‹2›,#[Zk,ZaG,(by rfl),T.b.n_len,Qs,#[Za,‹1›,#[Ze]]],(Zs _)],#[Zj,#[Zr,#[Zi]]],#[ZF]],#[Zj,#[Zr,#[Zbu,#[Zo,ZlF,#[Zm,Zem,‹0›,‹2›],#[Zm,Zem,‹1›,‹2›],(Zs _)],#[Zg1,ZeU,#[Zi]],#[Zi]]]]]]],?_⟩
 obtain⟨o1,o2,o3,o4⟩:=Zlj (cds x) (cds y)
 have ll:=ZfK (cds x) (cds y)
 have lx:=Zla x
 have ly:=Zla y
 have inj:∀ {m n:Nat},V.int (m:Int)=V.int (n:Int)→m=n:=fun {m n} e=>by injection e with e;omega
 refine⟨_,rfl,_,rfl,x,rfl,Zbg hx,rfl,_,rfl,Zbc (fun d=>?_) (fun d=>?_)⟩
 ·have d1:=inj (of_decide_eq_true d)
  refine⟨_,rfl,_,rfl,y,rfl,Zbg hy,rfl,_,rfl,Zbc (fun d2=>?_) (fun d2=>?_)⟩
  ·have d2':=inj (of_decide_eq_true d2)
   rw[o1 (by omega) (by omega)]at q
   exact q
  ·have d2':¬ lcp (cds x) (cds y)=y.length:=fun e=>d2 (by rw[e];exact decide_eq_true rfl)
   refine⟨_,rfl,_,rfl,x,rfl,Zbg hx,rfl,_,rfl,Zcq (by rw[d1]) ?_⟩
   rw[o2 (by omega) (by omega)]at q
   exact⟨_,rfl,q⟩
 ·have d1:¬ lcp (cds x) (cds y)=x.length:=fun e=>d (by rw[e];exact decide_eq_true rfl)
  refine Zbr ⟨_,rfl,_,rfl,x,rfl,Zbg hx,rfl,_,rfl,Zbv (fun e=>d1 (inj e)) ?_⟩
  refine⟨_,rfl,_,rfl,y,rfl,Zbg hy,rfl,_,rfl,Zbc (fun d2=>?_) (fun d2=>?_)⟩
  ·have d2':=inj (of_decide_eq_true d2)
   rw[o3 (by omega) (by omega)]at q
   exact q
  ·have d2':¬ lcp (cds x) (cds y)=y.length:=fun e=>d2 (by rw[e];exact decide_eq_true rfl)
   obtain⟨a,ha,ha'⟩:=ZcN (z:=x) (k:=(lcp (cds x) (cds y):Nat)) (by omega) (by omega)
   obtain⟨b,hb,hb'⟩:=ZcN (z:=y) (k:=(lcp (cds x) (cds y):Nat)) (by omega) (by omega)
   rw[Int.toNat_natCast]at ha hb
   refine⟨_,rfl,_,rfl,x,_,a,rfl,rfl,Zbg hx,ha',_,rfl,_,rfl,y,_,b,rfl,rfl,Zbg hy,hb',_,_,rfl,rfl,_,rfl,?_⟩
   rw[Zqk]
   rw[o4 a b ha hb]at q
   refine Zbc (fun e=>?_) (fun e=>?_)
   ·rw[if_pos (of_decide_eq_true e)]at q
    exact⟨_,rfl,q⟩
   ·rw[if_neg (fun z=>e (decide_eq_true z))]at q
    exact q
theorem Zm2(T:Zai K mg cRow cMerge)(f_alike:Df P w K mg base 2 "alike" ["one", "other"] ZcL)(f_order_at:Df P w K mg base 1 "order_at" ["one", "other", "at"] Zgk):Df P w K mg base 3 "liken" ["one", "other"] Zir:=by
 refine T.t_liken.df ZnQ (fun vs H Q E h=>?_) (fun cdv f A outer s H vs Q E hr h=>?_)
 ·obtain⟨x,y,rfl,_⟩:=h
  rfl
 obtain⟨x,y,rfl,hx,hy,q⟩:=h
 refine⟨_,#[Zj,#[Zr,#[Zv,f_order_at,hr,#[Za,‹0›,#[Za,‹1›,#[Za,#[Zv,f_alike,hr,#[Za,‹0›,#[Za,‹1›,#[Ze]]],(by rfl)],#[Ze]]]],(by rfl)]]],?_⟩
 exact⟨_,rfl,_,rfl,_,rfl,_,rfl,x,y,rfl,hx,hy,x,y,rfl,hx,hy,q⟩
theorem ZgH{c A B:Prop}[Decidable c](hc:¬ c)(h:A):if (!decide c)=true then A else B:=by
 rw[if_pos (by rw[decide_eq_false hc];rfl)]
 exact h
def Zee:Sp:=fun vs H Q _=>∃ (x y:Str) (far:Nat),vs=[.str x,.str y,.int far]∧x.length≤1000∧y.length≤1000∧far≤lcp (cds x) (cds y) ∧
 ∀t,H t=none→Q (.ref t) (upd H t (.tup [.int (ZQ (cds x) (cds y)),.int (lcp (cds x) (cds y):Nat),.int ((lcp (cds x) (cds y):Nat)-(far:Int)+1)]))
theorem Zhq(T:Zai K mg cRow cMerge)(f_alike_from:Df P w K mg base 1 "alike_from" ["one", "other", "far"] ZcC)(f_order_at:Df P w K mg base 1 "order_at" ["one", "other", "at"] Zgk):Df P w K mg base 2 "liken_from" ["one", "other", "far"] Zee:=by
 refine T.t_liken_from.df ZeH (fun vs H Q E h=>?_) (fun cdv f A outer s H vs Q E hr h=>?_)
 ·obtain⟨x,y,far,rfl,_⟩:=h
  rfl
 obtain⟨x,y,far,rfl,hx,hy,hf,q⟩:=h
 refine⟨_,#[Zf,#[Zy,3,ZeH.nd,(Or.inl rfl),#[Zv,f_alike_from,hr,#[Za,‹0›,#[Za,‹1›,#[Za,‹2›,#[Ze]]]],(by rfl)]],#[Zj,#[Zr,#[ZaC,#[Za,#[Zv,f_order_at,hr,#[Za,‹0›,#[Za,‹1›,#[Za,‹3›,#[Ze]]]],(by rfl)],#[Za,‹3›,#[Za,#[ZE,Zah,#[ZE,ZeZ,‹3›,‹2›],#[Zi]],#[Ze]]]]]]]],?_⟩
 refine⟨_,rfl,_,rfl,_,rfl,x,y,far,rfl,hx,hy,hf,?_⟩
 refine⟨_,rfl,_,rfl,_,rfl,x,y,rfl,hx,hy,?_⟩
 refine⟨_,rfl,_,rfl,_,rfl,_,_,rfl,rfl,_,_,rfl,rfl,(by show 3≤sizeLine;decide),fun t ht=>?_⟩
 exact q t ht
def ZjG(ss:List Str)(v:V):Prop :=
 (v=.non∧∀i x y,ss[i+1]? = some x→ss[i]? = some y→0≤ZQ (cds x) (cds y)) ∨
 ∃k:Nat,v=.int ((k+1:Nat):Int)∧k+1<ss.length∧(∀x y,ss[k+1]? = some x→ss[k]? = some y→ZQ (cds x) (cds y)<0)∧∀i,i<k→∀x y,ss[i+1]? = some x→ss[i]? = some y→0≤ZQ (cds x) (cds y)
theorem ZpG{ss:List Str}{v v':V}(h:ZjG ss v)(h':ZjG ss v'):v=v':=by
 rcases h with⟨rfl,a⟩|⟨k,rfl,l,b,c⟩
 ·rcases h' with⟨rfl,_⟩|⟨k',rfl,l',b',_⟩
  ·rfl
  ·have:=a k' _ _ (Qb l') (Qb (by omega))
   have:=b' _ _ (Qb l') (Qb (by omega))
   omega
 ·rcases h' with⟨rfl,a⟩|⟨k',rfl,l',b',c'⟩
  ·have:=a k _ _ (Qb l) (Qb (by omega))
   have:=b _ _ (Qb l) (Qb (by omega))
   omega
  ·have e:k=k':=by
    rcases Nat.lt_trichotomy k k' with h|h|h
    ·have:=c' k h _ _ (Qb l) (Qb (by omega))
     have:=b _ _ (Qb l) (Qb (by omega))
     omega
    ·exact h
    ·have:=c k' h _ _ (Qb l') (Qb (by omega))
     have:=b' _ _ (Qb l') (Qb (by omega))
     omega
   rw[e]
def ZnK(K:PySem.W.Frag):Sp:=fun vs H Q _=>∃ (a:Addr) (ss:List Str),vs=[.ref a]∧SqL K H a (ss.map V.str)∧ss.length≤200∧(∀s∈ss,s.length≤1000)∧∀ (v:V) (H':Hp),ZjG ss v→ZH H H'→Q v H'
theorem Zob(T:Zai K mg cRow cMerge)(f_liken:Df P w K mg base 3 "liken" ["one", "other"] Zir):Df P w K mg base 4 "first_break" ["keys"] (ZnK K):=by
 refine T.t_first_break.df Zel (fun vs H Q E h=>?_) (fun cdv f A outer s H vs Q E hr h=>?_)
 ·obtain⟨a,ss,rfl,_⟩:=h
  rfl
 obtain⟨a,ss,rfl,hS,hn,hlen,q⟩:=h
 refine⟨_,#[Zf,#[ZbK,PassesOwn.never,(@ZlM _ _ _ _ _ _ _ rfl T.b.n_range #[Za,#[Zi],#[Za,#[Zk,(Zb1 K),(by rfl),T.b.n_len,Qs,#[Za,‹0›,#[Ze]]],#[Ze]]] (by rfl) (by rfl)),#[ZD,1,Zel.nd,(Or.inl rfl)],#[Zj,#[Z3,#[Zo,ZeF,#[Zv,f_liken,hr,#[Za,#[Zm,(ixL K),‹0›,‹1›],#[Za,#[Zm,(ixL K),‹0›,#[ZE,ZeZ,‹1›,#[Zi]]],#[Ze]]],(by rfl)],#[Zi],(Zs _)],#[Zj,#[Zr,‹1›]],#[ZF]]]],#[Zj,#[Zr,#[ZW]]]],?_⟩
 have hl:(((ss.map V.str).length:Nat):Int)=(ss.length:Int):=by rw[Qa]
 refine⟨_,rfl,a,_,rfl,.inl hS,_,_,rfl,⟨by omega,by omega,by omega,by omega⟩,?_⟩
 refine ZbR (fun i σ H2=>(∃v:Option V,σ=[some (.ref a),v])∧ZH H H2∧∀j,j<i→∀x y,ss[j+1]? = some x→ss[j]? = some y→0≤ZQ (cds x) (cds y)) ⟨⟨none,rfl⟩,ZH.refl H,fun j h=>by omega⟩ ?_ ?_
 ·rintro i σ H2 hi ⟨⟨v,rfl⟩,s2,h2⟩
  have hi1:i+1<ss.length:=by omega
  have e1:(1+(i:Int))=((i+1:Nat):Int):=by omega
  have e0:(1+(i:Int)-1)=((i:Nat):Int):=by omega
  refine⟨_,rfl,_,rfl,xw4 a _ _ _ ⟨rfl,rfl,s2.seq hS,(by rw[e1];exact Zlo hi1),_,rfl,_,rfl,_,_,rfl,rfl,xw4 a _ _ _ ⟨rfl,rfl,s2.seq hS,(by rw[e0];exact Zlo (by omega)),ss[i+1],ss[i],rfl,hlen _ (Q3 hi1),hlen _ (Q3 (by omega)),_,_,rfl,rfl,_,rfl,?_⟩⟩⟩
  refine Zbc (fun d=>?_) (fun d=>?_)
  ·have d':ZQ (cds ss[i+1]) (cds ss[i])<0:=of_decide_eq_true d
   refine⟨_,rfl,q _ H2 (.inr ⟨i,by rw[e1],hi1,fun x y h1 h0=>?_,h2⟩) s2⟩
   rw[Qb hi1]at h1
   rw[Qb (by omega)]at h0
   cases h1;cases h0
   omega
  ·have d':¬ ZQ (cds ss[i+1]) (cds ss[i])<0:=fun z=>d (decide_eq_true z)
   refine⟨⟨_,rfl⟩,s2,fun j hj x y h1 h0=>?_⟩
   by_cases ej:j=i
   ·subst ej
    rw[Qb hi1]at h1
    rw[Qb (by omega)]at h0
    cases h1;cases h0
    omega
   ·exact h2 j (by omega) x y h1 h0
 ·rintro σ H2 ⟨⟨v,rfl⟩,s2,h2⟩
  refine q _ H2 (.inl ⟨rfl,fun j x y h1 h0=>?_⟩) s2
  have:=(Qi.mp h1).1
  exact h2 j (by omega) x y h1 h0
def Zb8(K:PySem.W.Frag)(tup:Bool):Sp:=fun vs H Q _=>∃ (a:Addr) (ns:List Int),vs=[.ref a]∧SqL K H a (ns.map V.int)∧ns.length≤200 ∧
 ∀ (t f r:Addr) (H':Hp),H t=none→H f=none→H r=none→f≠r→H' t=some (if tup=true then .tup [.ref f,.ref r] else .lst [.ref f,.ref r])→H' f=some (.lst ((ZeC ns).map V.int))→H' r=some (.lst ((Zhh ns).map V.int))→ZH H H'→t≠f→t≠r→Q (.ref t) H'
theorem Zja{H:Hp}{f r t:Addr}{A B T:HO}(hf:H f=none)(hr:(upd H f A) r=none)(ht:(upd (upd H f A) r B) t=none) :
  H r=none∧H t=none∧f≠r∧t≠f∧t≠r∧(upd (upd (upd H f A) r B) t T) f=some A∧(upd (upd (upd H f A) r B) t T) r=some B∧ZH H (upd (upd (upd H f A) r B) t T):=by
 have n1:f≠r:=Zd (H:=upd H f A) (o:=A) Zb hr
 have e1:(upd (upd H f A) r B) f=some A:=by rw[Zc n1];exact Zb
 have n2:f≠t:=Zd e1 ht
 have n3:r≠t:=Zd (H:=upd (upd H f A) r B) (o:=B) Zb ht
 have s1:ZH H (upd H f A):=Zh hf _
 have s2:=s1.trans (Zh hr B)
 have s3:=s2.trans (Zh ht T)
 exact⟨s1.free hr,s2.free ht,n1,n2.symm,n3.symm,by rw[Zc n2];exact e1,by rw[Zc n3];exact Zb,s3⟩
theorem ZlE(T:Zai K mg cRow cMerge):Df P w K mg base 1 "halves" ["numbers"] (Zb8 K true):=by
 refine T.t_halves.df ZhU (fun vs H Q E h=>?_) (fun cdv f A outer s H vs Q E hr h=>?_)
 ·obtain⟨a,ns,rfl,_⟩:=h
  rfl
 obtain⟨a,ns,rfl,hS,hn,q⟩:=h
 refine⟨_,#[Zf,#[Zy,1,ZhU.nd,(Or.inl rfl),#[ZE,Zgf,#[ZE,Zah,#[Zk,(Zb1 K),(by rfl),T.b.n_len,Qs,#[Za,‹0›,#[Ze]]],#[Zi]],#[Zi]]],#[Zj,#[Zr,#[ZaC,#[Za,#[ZdX,(slL K),‹0›,(@ZdD _),(@Zeu _ _ _ ‹1›)],#[Za,#[ZdX,(slL K),‹0›,(@Zeu _ _ _ ‹1›),(@ZdD _)],#[Ze]]]]]]],?_⟩
 refine⟨_,rfl,a,_,rfl,.inl hS,_,_,rfl,rfl,_,_,rfl,rfl,⟨by decide,by decide⟩,?_⟩
 have hm:mid ns≤ns.length∨ns=[]:=by
  cases ns with
  | nil=>exact .inr rfl
  | cons x r=>left;unfold mid;rw[QK];omega
 have hml:mid ns≤ns.length:=by
  rcases hm with h|h
  ·exact h
  ·subst h;decide
 have em:=ZkU ns
 simp only[em]
 refine⟨_,rfl,_,rfl,_,rfl,a,_,rfl,hS,fun l hl=>?_⟩
 refine⟨_,rfl,_,rfl,_,rfl,a,_,rfl,(Zh hl _).seq hS,fun r hr0=>⟨(by show 2≤sizeLine;decide),fun t ht=>?_⟩⟩
 rw[Znu ns _ hml]at hr0 ht ⊢
 rw[Zji ns _ hml]at ht ⊢
 obtain⟨z1,z2,z3,z4,z5,z6,z7,z8⟩:=Zja (T:=.tup [.ref l,.ref r]) hl hr0 ht
 exact q t l r _ z2 hl z1 z3 Zb z6 z7 z8 z4 z5
theorem ZjU(T:Zai K mg cRow cMerge):Df P w K mg base 1 "_law_halves" ["_law_numbers"] (Zb8 K false):=by
 refine T.t_l_halves.df Zf0 (fun vs H Q E h=>?_) (fun cdv f A outer s H vs Q E hr h=>?_)
 ·obtain⟨a,ns,rfl,_⟩:=h
  rfl
 obtain⟨a,ns,rfl,hS,hn,q⟩:=h
 refine⟨_,#[Zf,#[Zy,1,Zf0.nd,(Or.inl rfl),#[ZE,Zgf,#[ZE,Zah,#[Zk,(Zb1 K),(by rfl),T.b.n_len,Qs,#[Za,‹0›,#[Ze]]],#[Zi]],#[Zi]]],#[Zj,#[Zr,#[Zab,#[Za,#[ZdX,(slL K),‹0›,(@ZdD _),(@Zeu _ _ _ ‹1›)],#[Za,#[ZdX,(slL K),‹0›,(@Zeu _ _ _ ‹1›),(@ZdD _)],#[Ze]]]]]]],?_⟩
 refine⟨_,rfl,a,_,rfl,.inl hS,_,_,rfl,rfl,_,_,rfl,rfl,⟨by decide,by decide⟩,?_⟩
 have hm:mid ns≤ns.length∨ns=[]:=by
  cases ns with
  | nil=>exact .inr rfl
  | cons x r=>left;unfold mid;rw[QK];omega
 have hml:mid ns≤ns.length:=by
  rcases hm with h|h
  ·exact h
  ·subst h;decide
 have em:=ZkU ns
 simp only[em]
 refine⟨_,rfl,_,rfl,_,rfl,a,_,rfl,hS,fun l hl=>?_⟩
 refine⟨_,rfl,_,rfl,_,rfl,a,_,rfl,(Zh hl _).seq hS,fun r hr0=>⟨(by show 2≤sizeLine;decide),fun t ht=>?_⟩⟩
 rw[Znu ns _ hml]at hr0 ht ⊢
 rw[Zji ns _ hml]at ht ⊢
 obtain⟨z1,z2,z3,z4,z5,z6,z7,z8⟩:=Zja (T:=.lst [.ref l,.ref r]) hl hr0 ht
 exact q t l r _ z2 hl z1 z3 Zb z6 z7 z8 z4 z5
def ZkI:Sp:=fun vs H Q _=>∃ (p:Addr) (c:Int),vs=[.ref p]∧Zaz H p c∧c<2 ^ 50∧∀ (v c':Int) (H':Hp),0≤v→v≤12→Zaz H' p c'→c≤c'→c'≤c+3→But p H H'→Q (.int v) H'
theorem Zo6(T:Zai K mg cRow cMerge)(f_l_pick:Df P w K mg base 2 "_law_pick" ["_law_left_here", "_law_many_here"] Ze1):Df P w K mg base 3 "_law_many" ["_law_left_here"] ZkI:=by
 refine T.t_l_many.df ZhR (fun vs H Q E h=>?_) (fun cdv f A outer s H vs Q E hr h=>?_)
 ·obtain⟨p,c,rfl,_⟩:=h
  rfl
 obtain⟨p,c,rfl,hL,c1,q⟩:=h
 refine⟨_,#[Zf,#[Zy,1,ZhR.nd,(Or.inl rfl),#[Zv,f_l_pick,hr,#[Za,‹0›,#[Za,#[Zi],#[Ze]]],(by rfl)]],#[Zj,#[Zr,#[Zm,(ixL K),#[Zab,#[Za,#[Zi],#[Za,#[Zi],#[Za,#[Zi],#[Za,#[Zi],#[Za,#[Zi],#[Za,#[Zi],#[Za,#[Zv,f_l_pick,hr,#[Za,‹0›,#[Za,#[Zi],#[Ze]]],(by rfl)],#[Za,#[ZE,Zah,#[Zi],#[Zv,f_l_pick,hr,#[Za,‹0›,#[Za,#[Zi],#[Ze]]],(by rfl)]],#[Ze]]]]]]]]]],‹1›]]]],?_⟩
 have c0:=hL.ge
 refine⟨_,rfl,p,c,_,rfl,hL,by omega,by decide,by decide,fun wy H1 w0 w1 L1 B1=>?_⟩
 refine⟨_,rfl,p,c+1,_,rfl,L1,by omega,by decide,by decide,fun d1 H2 d10 d11 L2 B2=>?_⟩
 refine⟨_,rfl,p,c+1+1,_,rfl,L2,by omega,by decide,by decide,fun d2 H3 d20 d21 L3 B3=>⟨_,_,rfl,rfl,(by show 8≤sizeLine;decide),fun e he=>?_⟩⟩
 obtain⟨v,hv,hat⟩:=ZiV (ns:=[2,3,4,5,6,3,d1,7+d2]) w0 w1
 have hv1:0≤v∧v≤12:=by
  simp only[List.mem_cons,List.not_mem_nil,or_false]at hv
  omega
 exact⟨_,rfl,xw4 e _ _ _ ⟨rfl,rfl,SqL.of Zb,hat,q v _ _ hv1.1 hv1.2 (L3.new he) (by omega) (by omega) (((B1.trans B2).trans B3).trans (But.same (Zh he _)))⟩⟩
theorem Zb0(f:Str)(v:V):∀fs:List (Str×V),(Zt f v fs).length≤fs.length+1
 | []=>Qg _
 | p::r=>by
  unfold Zt
  split
  ·exact Qa4 _
  ·exact Nat.succ_le_succ (Zb0 f v r)
def Zbj(k f:Addr)(g:Int):List (Str×V):=Zt "gone" (.int g) (Zt "fars" (.ref f) (Zt "all_keys" (.ref k) []))
theorem nGF:¬ (("fars" : Str) = "gone"):=by ac_rfl
theorem nGK:¬ (("all_keys" : Str) = "gone"):=by ac_rfl
theorem nFK:¬ (("all_keys" : Str) = "fars"):=by ac_rfl
theorem Zcp(k f:Addr)(g:Int):(Zbj k f g).lookup ("all_keys" : Str)=some (.ref k):=by
 unfold Zbj
 rw[Zl,if_neg nGK,Zl,if_neg nFK,Zl,if_pos rfl]
theorem Zdl(k f:Addr)(g:Int):(Zbj k f g).lookup ("gone" : Str)=some (.int g):=by
 unfold Zbj
 rw[Zl,if_pos rfl]
theorem Zfb(k f:Addr)(g:Int){m:Str}(h1:¬ m = "gone")(h2:¬ m = "fars")(h3:¬ m = "all_keys"):(Zbj k f g).lookup m=none:=by
 unfold Zbj
 rw[Zl,if_neg h1,Zl,if_neg h2,Zl,if_neg h3]
 rfl
structure ZgO (C:Addr) (H:Hp) (p k f:Addr) (ss:List Str) (g:Nat):Prop where
 ob:∃dx,H p=some (.ins C dx (Zbj k f g))
 ks:H k=some (.lst (ss.map V.str))
 fs:H f=some (.lst ((List.range ss.length).map fun j=>.int (Zdb ss j)))
def ZiS(C:Addr):Sp:=fun vs H Q _=>∃ (p k f:Addr) (ss:List Str) (g:Nat),vs=[.ref p]∧ZgO C H p k f ss g∧Q (.int ((ss.length:Int)-(g:Int))) H
theorem ZoR(T:Zai K mg cRow cMerge):Mf P w K mg base 1 cRow "to_go" ["self"] (ZiS cRow):=by
 refine T.t_Row_to_go.mf ZiL (fun vs H Q E h=>?_) (fun cdv f A outer s H vs Q E hr h=>?_)
 ·obtain⟨p,k,f,ss,g,rfl,_⟩:=h
  rfl
 obtain⟨p,k,f,ss,g,rfl,R,q⟩:=h
 refine⟨_,#[Zj,#[Zr,#[ZE,ZeZ,#[Zk,(Zb1 K),(by rfl),T.b.n_len,Qs,#[Za,#[ZO,‹0›],#[Ze]]],#[ZO,‹0›]]]],?_⟩
 obtain⟨⟨dx,ho⟩,hk,hf⟩:=R
 refine⟨_,rfl,xw5 p cRow dx _ _ ⟨rfl,ho,T.cl_Row,T.na_Row_all_keys,Zcp _ _ _,k,_,rfl,.inl (SqL.of hk),_,rfl,xw5 p cRow dx _ _ ⟨rfl,ho,T.cl_Row,T.na_Row_gone,Zdl _ _ _,_,_,rfl,rfl,?_⟩⟩⟩
 rw[Qa]
 exact q
def ZdM(ss:List Str)(g:Nat):V:=match ss[g]? with
 | some z=>.str z
 | none=>.non
def ZeO(C:Addr):Sp:=fun vs H Q _=>∃ (p k f:Addr) (ss:List Str) (g:Nat),vs=[.ref p]∧ZgO C H p k f ss g∧Q (ZdM ss g) H
theorem Zov(T:Zai K mg cRow cMerge)(f_Row_to_go:Mf P w K mg base 1 cRow "to_go" ["self"] (ZiS cRow)):Mf P w K mg base 2 cRow "head" ["self"] (ZeO cRow):=by
 refine T.t_Row_head.mf ZjP (fun vs H Q E h=>?_) (fun cdv f A outer s H vs Q E hr h=>?_)
 ·obtain⟨p,k,f,ss,g,rfl,_⟩:=h
  rfl
 obtain⟨p,k,f,ss,g,rfl,R,q⟩:=h
 refine⟨_,#[Zj,#[Zr,#[Zbu,#[Zo,ZfZ,#[Zav,f_Row_to_go,T.cl_Row,hr,‹0›],#[Zi],(Zs _)],#[Zm,(ixL K),#[ZO,‹0›],#[ZO,‹0›]],#[ZW]]]],?_⟩
 obtain⟨⟨dx,ho⟩,hk,hf⟩:=id R
 refine⟨_,rfl,p,dx,_,rfl,ho,Zfb _ _ _ (by ac_rfl) (by ac_rfl) (by ac_rfl),p,k,f,ss,g,rfl,R,_,_,rfl,rfl,_,rfl,?_⟩
 refine Zbc (fun d=>?_) (fun d=>?_)
 ·have d':(0:Int)<(ss.length:Int)-(g:Int):=of_decide_eq_true d
  have hg:g<ss.length:=by omega
  refine⟨_,rfl,xw5 p cRow dx _ _ ⟨rfl,ho,T.cl_Row,T.na_Row_all_keys,Zcp _ _ _,_,rfl,xw5 p cRow dx _ _ ⟨rfl,ho,T.cl_Row,T.na_Row_gone,Zdl _ _ _,k,_,_,_,rfl,rfl,SqL.of hk,Zam (by rw[Qn,Qb hg]<;>rfl),?_⟩⟩⟩
  unfold ZdM at q
  rw[Qb hg]at q
  exact q
 ·have d':¬ (0:Int)<(ss.length:Int)-(g:Int):=fun z=>d (decide_eq_true z)
  unfold ZdM at q
  rw[QN (by omega)]at q
  exact q
def Zfz(C:Addr):Sp:=fun vs H Q _=>∃ (p dx a:Addr) (ss:List Str),vs=[.ref p,.ref a]∧H p=some (.ins C dx [])∧H a=some (.lst (ss.map V.str))∧ss.length≤200∧(∀s∈ss,s.length≤1000) ∧
 ∀ (k f:Addr) (H':Hp),H k=none→H f=none→k≠f→ZgO C H' p k f ss 0→(∀b o,H b=some o→b≠p→H' b=some o)→Q .non H'
theorem Zku(T:Zai K mg cRow cMerge)(f_alikes:Df P w K mg base 3 "alikes" ["row"] (Zfi K)):Cf P w K mg base 4 cRow "Row" ["self", "keys"] (Zfz cRow):=by
 refine T.t_Row_init.cf Zjg (fun vs H Q E h=>?_) (fun cdv f A outer s H vs Q E hr h=>?_)
 ·obtain⟨p,dx,a,ss,rfl,_⟩:=h
  rfl
 obtain⟨p,dx,a,ss,rfl,hp,ha,hn,hz,q⟩:=h
 refine⟨_,#[Zf,#[ZbC,‹0›,#[ZaT,(Zia K),T.b.n_list,boot_list,#[Za,‹1›,#[Ze]]]],#[Zf,#[ZbC,‹0›,#[Zv,f_alikes,hr,#[Za,‹1›,#[Ze]],(by rfl)]],#[Zj,#[ZbC,‹0›,#[Zi]]]]],?_⟩
 refine⟨_,rfl,a,_,rfl,.inl (SqL.of ha),fun k hk=>?_⟩
 have npk:p≠k:=Zd hp hk
 have nap:a≠p:=fun e=>by rw[e,hp]at ha;cases ha
 have nak:a≠k:=Zd ha hk
 refine⟨_,rfl,p,cRow,dx,[],rfl,(by rw[Zc npk];exact hp),T.cl_Row,T.na_Row_all_keys,(by show 0<1000;decide),?_⟩
 have ha2:(upd (upd H k (.lst (ss.map V.str))) p (.ins cRow dx (Zt "all_keys" (.ref k) []))) a=some (.lst (ss.map V.str)):=by rw[Zc nap,Zc nak];exact ha
 have hp2:(upd (upd H k (.lst (ss.map V.str))) p (.ins cRow dx (Zt "all_keys" (.ref k) []))) p=some (.ins cRow dx (Zt "all_keys" (.ref k) [])):=Zb
 have hk2:(upd (upd H k (.lst (ss.map V.str))) p (.ins cRow dx (Zt "all_keys" (.ref k) []))) k=some (.lst (ss.map V.str)):=by rw[Zc npk.symm];exact Zb
 have s2:∀b o,H b=some o→b≠p→(upd (upd H k (.lst (ss.map V.str))) p (.ins cRow dx (Zt "all_keys" (.ref k) []))) b=some o:=fun b o h n=>by rw[Zc n,Zc (Zd h hk)];exact h
 refine⟨_,rfl,a,ss,rfl,SqL.of ha2,hn,hz,fun f H3 hf0 hf3 s3=>?_⟩
 have hHf:H f=none:=by
  cases w':H f with
  | none=>rfl
  | some u =>
   by_cases e:f=p
   ·rw[e,hp2]at hf0;cases hf0
   ·rw[s2 f u w' e]at hf0;cases hf0
 have nkf:k≠f:=Zd hk2 hf0
 have npf:p≠f:=Zd hp2 hf0
 refine⟨_,rfl,xw4 p cRow dx _ ⟨rfl,s3 _ _ hp2,T.cl_Row,T.na_Row_fars,(by show 1<1000;decide),?_⟩⟩
 refine⟨_,rfl,xw4 p cRow dx _ ⟨rfl,Zb,T.cl_Row,T.na_Row_gone,?_,?_⟩⟩
 ·have h1:=Zb0 "all_keys" (V.ref k) []
  have h2:=Zb0 "fars" (V.ref f) (Zt "all_keys" (V.ref k) [])
  have h3:([]:List (Str×V)).length=0:=rfl
  omega
 ·refine q k f _ hk hHf nkf ⟨⟨dx,Zb⟩,?_,?_⟩ fun b o h n=>?_
  ·rw[Zc npk.symm,Zc npk.symm];exact s3 _ _ hk2
  ·rw[Zc npf.symm,Zc npf.symm];exact hf3
  ·rw[Zc n,Zc n];exact s3 _ _ (s2 b o h n)
theorem ZgM{K:PySem.W.Frag}{a:Addr}{xs:List V}{k:Nat}{D:Addr}{σ:L2.St}{H1:Hp}{g:TG}{tc:TT}{te:TE}{Q:VK}(Pv:Nat→List V→L2.St→Hp→Prop)(h0:Pv 0 [] (σ++List.replicate k none) (upd H1 D (.lst [])))
  (hl:∀i ys σ H,Pv i ys σ H→SqL K H a xs)
  (hs:∀i x ys σ H,xs[i]? = some x→Pv i ys σ H→g x σ H fun σ4 H4=>tc σ4 H4 fun b H5=>if b=true then te σ4 H5 fun y H6=>H6 D=some (.lst ys)∧ys.length<sizeLine∧Pv (i+1) (ys++[y]) σ4 (upd H6 D (.lst (ys++[y]))) else Pv (i+1) ys σ4 H5)
  (hd:∀ys σ H,Pv xs.length ys σ H→Q (.ref D) H):Zek (Itl K a) D k σ H1 g tc te Q:=by
 refine⟨fun i m ys σ H=>m=xs.length-i∧i≤xs.length∧Pv i ys σ H,⟨xs.length,by simp,Qv _,h0⟩,?_⟩
 rintro i m ys σ H ⟨rfl,hi,p⟩
 have q1:=hl i ys σ H p
 by_cases hlt:i<xs.length
 ·refine .inr ⟨⟨xs,xs[i],q1,Qb hlt⟩,Pv (i+1),fun ys' σ' H' p'=>⟨xs.length-(i+1),by omega,rfl,hlt,p'⟩,fun x H' y=>?_⟩
  obtain⟨rfl,e⟩:=y
  exact hs i x ys σ _ (e xs q1) p
 ·have e:i=xs.length:=by omega
  exact .inl ⟨⟨xs,q1,by omega⟩,hd ys σ H (e ▸ p)⟩
theorem ZnD:∀x y:List Nat,x<y↔ZQ x y<0
 | [],[]=>by unfold ZQ;exact⟨fun h=>absurd h (by simp),fun h=>absurd h (by omega)⟩
 | [],_::_=>by unfold ZQ;exact⟨fun _=>by omega,fun _=>List.nil_lt_cons _ _⟩
 | _::_,[]=>by unfold ZQ;exact⟨fun h=>absurd h (List.not_lt_nil _),fun h=>absurd h (by omega)⟩
 | a::r,b::s=>by
  have ih:=ZnD r s
  unfold ZQ
  rw[List.cons_lt_cons_iff]
  by_cases e:a=b
  ·rw[if_pos e,← ih]
   exact⟨fun h=>h.elim (fun z=>by omega) (fun z=>z.2),fun h=>.inr ⟨e,h⟩⟩
  ·rw[if_neg e]
   by_cases l:a<b
   ·rw[if_pos l];exact⟨fun _=>by omega,fun _=>.inl l⟩
   ·rw[if_neg l];exact⟨fun h=>h.elim (fun z=>absurd z l) (fun z=>absurd z.1 e),fun h=>absurd h (by omega)⟩
theorem ZnB{H:Hp}{D:Addr}{ys:List V}(h:H D=some (.lst ys))(o:HO):∀a xs,H a=some (.tup xs)→(upd H D o) a=some (.tup xs):=fun a xs e=>by
 have nb:a≠D:=by intro z;rw[z,h]at e;cases e
 rw[Zc nb];exact e
abbrev Hd:=Int→Option (List Nat)
def Btr(x:List Nat)(a:Int)(y:List Nat)(b:Int):Prop:=ZQ x y<0∨(ZQ x y=0∧a<b)
def Win(hd:Hd)(N:List Int):Option Int→Prop
 | none=>∀n∈N,hd n=none
 | some a=>a∈N∧∃x,hd a=some x∧∀b∈N,∀y,hd b=some y→b=a∨Btr x a y b
theorem Btr.asym{x y:List Nat}{a b:Int}(h:Btr x a y b)(g:Btr y b x a):False:=by
 have e:=Zb2 x y
 rcases h with h|⟨h,h2⟩<;>rcases g with g|⟨g,g2⟩<;>omega
theorem Btr.total{x y:List Nat}{a b:Int}(h:a≠b):Btr x a y b∨Btr y b x a:=by
 have e:=Zb2 x y
 unfold Btr
 omega
theorem Btr.trans{x y z:List Nat}{a b c:Int}(h:Btr x a y b)(g:Btr y b z c):Btr x a z c:=by
 have t1:=Zdv x y z
 have t2:=Zdv z x y
 have t3:=Zdv y z x
 have e1:=Zb2 x y
 have e2:=Zb2 y z
 have e3:=Zb2 x z
 unfold Btr at *
 omega
theorem Win.one{hd:Hd}{N:List Int}{v w:Option Int}(h:Win hd N v)(g:Win hd N w):v=w:=by
 cases v with
 | none =>
  cases w with
  | none=>rfl
  | some b=>obtain⟨hb,y,hy,_⟩:=g;rw[h b hb]at hy;cases hy
 | some a =>
  obtain⟨ha,x,hx,h2⟩:=h
  cases w with
  | none=>rw[g a ha]at hx;cases hx
  | some b =>
   obtain⟨hb,y,hy,g2⟩:=g
   rcases h2 b hb y hy with e|e
   ·rw[e]
   ·rcases g2 a ha x hx with e'|e'
    ·rw[e']
    ·exact(e.asym e').elim
theorem Win.nil(hd:Hd):Win hd [] none:=fun n h=>by cases h
theorem Win.sing{hd:Hd}{n:Int}:Win hd [n] (if (hd n).isSome then some n else none):=by
 cases h:hd n with
 | none=>intro m hm;rw[Qp.mp hm];exact h
 | some x=>exact⟨by simp,x,h,fun b hb y hy=>.inl (Qp.mp hb)⟩
theorem Win.both{hd:Hd}{A B:List Int}{a b:Int}{x y:List Nat}(ha:Win hd A (some a))(hb:Win hd B (some b))(hx:hd a=some x)(hy:hd b=some y)(h:Btr x a y b):Win hd (A++B) (some a):=by
 obtain⟨a1,x',hx',a2⟩:=ha
 obtain⟨b1,y',hy',b2⟩:=hb
 rw[hx]at hx';cases hx'
 rw[hy]at hy';cases hy'
 refine⟨QJ _ a1,x,hx,fun c hc z hz=>?_⟩
 rcases Qk.mp hc with hc|hc
 ·exact a2 c hc z hz
 ·rcases b2 c hc z hz with e|e
  ·subst e;rw[hy]at hz;cases hz;exact .inr h
  ·exact .inr (h.trans e)
theorem Win.both'{hd:Hd}{A B:List Int}{a b:Int}{x y:List Nat}(ha:Win hd A (some a))(hb:Win hd B (some b))(hx:hd a=some x)(hy:hd b=some y)(h:Btr y b x a):Win hd (A++B) (some b):=by
 have:=Win.both hb ha hy hx h
 obtain⟨h1,z,h2,h3⟩:=this
 exact⟨by rcases Qk.mp h1 with h|h<;>simp[h],z,h2,fun c hc=>h3 c (by rcases Qk.mp hc with h|h<;>simp[h])⟩
theorem Win.left{hd:Hd}{A B:List Int}{w:Option Int}(ha:Win hd A w)(hb:Win hd B none):Win hd (A++B) w:=by
 cases w with
 | none=>intro n hn;rcases Qk.mp hn with h|h;exact ha n h;exact hb n h
 | some a =>
  obtain⟨a1,x,hx,a2⟩:=ha
  refine⟨QJ _ a1,x,hx,fun c hc z hz=>?_⟩
  rcases Qk.mp hc with hc|hc
  ·exact a2 c hc z hz
  ·rw[hb c hc]at hz;cases hz
theorem Win.right{hd:Hd}{A B:List Int}{w:Option Int}(ha:Win hd A none)(hb:Win hd B w):Win hd (A++B) w:=by
 cases w with
 | none=>intro n hn;rcases Qk.mp hn with h|h;exact ha n h;exact hb n h
 | some a =>
  obtain⟨a1,x,hx,a2⟩:=hb
  refine⟨Qz _ a1,x,hx,fun c hc z hz=>?_⟩
  rcases Qk.mp hc with hc|hc
  ·rw[ha c hc]at hz;cases hz
  ·exact a2 c hc z hz
theorem Win.ex(hd:Hd):∀N:List Int,N.Nodup→∃w,Win hd N w
 | [],_=>⟨none,Win.nil hd⟩
 | n::N,hn=>by
  obtain⟨n1,n2⟩:=QV.mp hn
  obtain⟨w,hw⟩:=Win.ex hd N n2
  have hs:Win hd [n] (if (hd n).isSome then some n else none):=Win.sing
  cases h:hd n with
  | none =>
   rw[h]at hs
   exact⟨w,Win.right (A:=[n]) hs hw⟩
  | some x =>
   rw[h]at hs
   cases w with
   | none=>exact⟨some n,Win.left (A:=[n]) hs hw⟩
   | some b =>
    obtain⟨b1,y,hy,b2⟩:=id hw
    have hne:n≠b:=fun e=>n1 (e ▸ b1)
    rcases Btr.total (x:=x) (y:=y) hne with e|e
    ·exact⟨some n,Win.both (A:=[n]) hs hw h hy e⟩
    ·exact⟨some b,Win.both' (A:=[n]) hs hw h hy e⟩
theorem Win.congr{hd hd':Hd}{N:List Int}(h:∀n∈N,hd' n=hd n){w:Option Int}(hw:Win hd N w):Win hd' N w:=by
 cases w with
 | none=>intro n hn;rw[h n hn];exact hw n hn
 | some a =>
  obtain⟨a1,x,hx,a2⟩:=hw
  exact⟨a1,x,by rw[h a a1];exact hx,fun b hb y hy=>a2 b hb y (by rw[← h b hb];exact hy)⟩
def lo(N:List Int):List Int:=N.take (mid N)
def up(N:List Int):List Int:=N.drop (mid N)
theorem Zcc(N:List Int):lo N++up N=N:=List.take_append_drop _ _
theorem ZcR{N:List Int}(h:2≤N.length):(lo N).length<N.length∧1≤(lo N).length:=by
 unfold lo mid
 rw[QA]
 omega
theorem Zdy{N:List Int}(h:2≤N.length):(up N).length<N.length∧1≤(up N).length:=by
 unfold up mid
 rw[Q0]
 omega
def ZS(N:List Int):Int×Int:=(N.headD 0,N.getLastD 0)
abbrev StL:=List ((Int×Int)×Option (Addr×Int×Int))
def stV:Option (Addr×Int×Int)→V
 | none=>.non
 | some t=>.ref t.1
def kvS(s:StL):List (List Key×V):=s.map fun e=>([.inl e.1.1,.inl e.1.2],stV e.2)
def AtS(H:Hp)(s:StL):Prop:=∀e∈s,∀t,e.2=some t→H t.1=some (.tup [.int t.2.1,.int t.2.2])
def Z0(s:StL)(k:Int×Int):Option (Option (Addr×Int×Int)):=(s.find? fun e=>decide (e.1=k)).map (·.2)
def ZcY(s:StL)(k:Int×Int)(v:Option (Addr×Int×Int)):StL:=if s.any (fun e=>decide (e.1=k)) then s.map (fun e=>if e.1=k then (e.1,v) else e) else s++[(k,v)]
theorem AtS.mono{H H':Hp}{s:StL}(h:AtS H s)(k:∀a xs,H a=some (.tup xs)→H' a=some (.tup xs)):AtS H' s:=fun e he t ht=>k _ _ (h e he t ht)
theorem ZkL{a b:Int×Int}(h:([.inl a.1,.inl a.2]:List Key)=[.inl b.1,.inl b.2]):a=b:=by
 obtain⟨a1,a2⟩:=a
 obtain⟨b1,b2⟩:=b
 injection h with h1 h2
 injection h2 with h2 _
 have e1:=Sum.inl.inj h1
 have e2:=Sum.inl.inj h2
 simp only at e1 e2
 rw[e1,e2]
theorem ZjB(k:Int×Int):∀s:StL,Z1 (kvS s) [.inl k.1,.inl k.2]=(Z0 s k).map stV
 | []=>rfl
 | e::s=>by
  have ih:=ZjB k s
  by_cases h:e.1=k
  ·unfold kvS Z0
   rw[Qh,Zde (by rw[h])]
   simp[List.find?_cons,h]
  ·unfold kvS at ih ⊢
   rw[Qh,Zdh (fun z=>h (ZkL z)),ih]
   unfold Z0
   simp[List.find?_cons,h]
theorem Zpz(k:Int×Int)(s:StL):((kvS s).any fun kv=>decide (kv.1=([.inl k.1,.inl k.2]:List Key)))=s.any fun e=>decide (e.1=k):=by
 unfold kvS
 rw[List.any_map]
 congr 1
 funext e
 simp only[Function.comp]
 by_cases h:e.1=k
 ·rw[decide_eq_true h,decide_eq_true (by rw[h])]
 ·rw[decide_eq_false h,decide_eq_false (fun z=>h (ZkL z))]
theorem Zgm(s:StL)(k:Int×Int)(v:Option (Addr×Int×Int)):Zbn (kvS s) [.inl k.1,.inl k.2] (stV v)=kvS (ZcY s k v):=by
 unfold Zbn ZcY
 rw[Zpz]
 split
 ·unfold kvS
  rw[Qj,Qj]
  congr 1
  funext e
  simp only[Function.comp]
  by_cases h:e.1=k
  ·rw[if_pos h,if_pos (by rw[h])]
  ·rw[if_neg h,if_neg (fun z=>h (ZkL z))]
 ·unfold kvS;rw[Qe];rfl
theorem ZnJ(s:StL)(k:Int×Int)(v:Option (Addr×Int×Int)):(ZcY s k v).length≤s.length+1:=by
 unfold ZcY
 split
 ·rw[Qa];omega
 ·rw[Qf];exact Qg _
theorem Za3(s:StL)(k j:Int×Int)(v:Option (Addr×Int×Int)):Z0 (ZcY s k v) j=if j=k then some v else Z0 s j:=by
 unfold ZcY
 split
 ·rename_i h
  induction s with
  | nil=>simp at h
  | cons e s ih =>
   unfold Z0 at ih ⊢
   by_cases hek:e.1=k
   ·by_cases hj:j=k
    ·subst hj;simp[List.find?_cons,hek]
    ·have hj':¬ k=j:=fun z=>hj z.symm
     rw[Qh,if_pos hek,Qat (by simp[hek,hj']),Qat (by simp[hek,hj']),if_neg hj]
     by_cases ha:s.any (fun e=>decide (e.1=k))=true
     ·have:=ih ha;rw[if_neg hj]at this;exact this
     ·have:s.map (fun e=>if e.1=k then (e.1,v) else e)=s:=by
       rw[List.map_eq_iff]
       intro i
       cases hi:s[i]? with
       | none=>rfl
       | some x =>
        have hx:¬ x.1=k:=fun z=>ha (Qar.mpr ⟨x,Qw hi,by simpa using z⟩)
        simp[hx]
      rw[this]
   ·have ha:s.any (fun e=>decide (e.1=k))=true:=by simpa [hek] using h
    rw[Qh,if_neg hek]
    by_cases hj:e.1=j
    ·have:¬ j=k:=fun z=>hek (hj.trans z)
     rw[List.find?_cons_of_pos (by simpa using hj),List.find?_cons_of_pos (by simpa using hj),if_neg this]
    ·rw[Qat (by simpa using hj),Qat (by simpa using hj)]
     exact ih ha
 ·rename_i h
  unfold Z0
  rw[List.find?_append]
  by_cases hj:j=k
  ·subst hj
   have:s.find? (fun e=>decide (e.1=j))=none:=by
    rw[List.find?_eq_none]
    intro x hx z
    exact h (Qar.mpr ⟨x,hx,z⟩)
   rw[this];simp
  ·have hj':¬ k=j:=fun z=>hj z.symm
   rw[if_neg hj]
   simp[hj']
theorem AtS.put{H:Hp}{s:StL}{k:Int×Int}{v:Option (Addr×Int×Int)}(h:AtS H s)(hv:∀t,v=some t→H t.1=some (.tup [.int t.2.1,.int t.2.2])):AtS H (ZcY s k v):=by
 unfold ZcY
 split
 ·intro e he t ht
  obtain⟨x,hx,rfl⟩:=Qo.mp he
  split at ht
  ·exact hv t ht
  ·exact h x hx t ht
 ·intro e he t ht
  rcases Qk.mp he with he|he
  ·exact h e he t ht
  ·rw[Qp.mp he]at ht;exact hv t ht
theorem Zh5{s:StL}{k:Int×Int}{v:Option (Addr×Int×Int)}(h:Z0 s k=some v):(k,v)∈s:=by
 unfold Z0 at h
 obtain⟨e,he,rfl⟩:=QaQ.mp h
 have h1:=List.find?_some he
 have:e.1=k:=by simpa using h1
 rw[← this];exact Qak he
def ZsO(hd:Hd)(s:StL)(N:List Int):Prop :=
 (∀a b x y,Win hd (lo N) (some a)→Win hd (up N) (some b)→hd a=some x→hd b=some y→∃t,Z0 s (ZS N)=some (some (t,if ZQ x y<0∨(ZQ x y=0∧a<b) then b else a,((lcp x y:Nat):Int)))) ∧
 ((Win hd (lo N) none∨Win hd (up N) none)→Z0 s (ZS N)=none∨Z0 s (ZS N)=some none)
def ZeD(hd:Hd)(s:StL):Nat→List Int→Prop
 | 0,_=>True
 | n+1,N=>2≤N.length→ZeD hd s n (lo N)∧ZeD hd s n (up N)∧ZsO hd s N
def Ze2:Nat→List Int→Int×Int→Prop
 | 0,_,_=>False
 | n+1,N,k=>2≤N.length∧(Ze2 n (lo N) k∨Ze2 n (up N) k∨k=ZS N)
abbrev Zag(N:List Int):Prop:=N.Pairwise (·<·)
theorem Zeq{N:List Int}(h:Zag N):Zag (lo N):=h.sublist (List.take_sublist _ _)
theorem ZeA{N:List Int}(h:Zag N):Zag (up N):=h.sublist (List.drop_sublist _ _)
theorem ZcX{N:List Int}(h:Zag N):N.Nodup:=h.imp fun {a b} hab e=>by omega
theorem ZM{N:List Int}(h:Zag N){a b:Int}(ha:a∈lo N)(hb:b∈up N):a<b:=by
 have:Zag (lo N++up N):=by rw[Zcc];exact h
 exact(List.pairwise_append.mp this).2.2 a ha b hb
theorem Zcl{N:List Int}(h:N≠[]):N.headD 0∈N:=by
 cases N with
 | nil=>exact absurd rfl h
 | cons a r=>simp
theorem Zcn{N:List Int}(h:N≠[]):N.getLastD 0∈N:=by
 rw[Qal,QaJ h]
 exact List.getLast_mem h
theorem Zak{N:List Int}(h:1≤N.length):N≠[]:=fun z=>by rw[z]at h;simp at h
theorem ZfJ{N:List Int}(h:2≤N.length):(ZS N).2=(up N).getLastD 0:=by
 have hu:=Zak (Zdy h).2
 show N.getLastD 0=_
 rw[Qal,Qal]
 conv=>lhs;rw[← Zcc N]
 rw[List.getLast?_append,QaJ hu];rfl
theorem ZfV{N:List Int}(h:2≤N.length):(ZS N).1=(lo N).headD 0:=by
 have hl:=Zak (ZcR h).2
 show N.headD 0=_
 conv=>lhs;rw[← Zcc N]
 cases hc:lo N with
 | nil=>exact absurd hc hl
 | cons a r=>rfl
theorem Zey:∀ (n:Nat) (N:List Int) (k:Int×Int),Ze2 n N k→k.1∈N∧k.2∈N
 | 0,_,_,h=>h.elim
 | n+1,N,k,⟨h2,h⟩=>by
  rcases h with h|h|rfl
  ·have:=Zey n _ k h
   rw[← Zcc N]
   exact⟨QJ _ this.1,QJ _ this.2⟩
  ·have:=Zey n _ k h
   rw[← Zcc N]
   exact⟨Qz _ this.1,Qz _ this.2⟩
  ·have hn:N≠[]:=Zak (by omega)
   exact⟨Zcl hn,Zcn hn⟩
theorem ZiI{N:List Int}(hr:Zag N)(h2:2≤N.length){n:Nat}{k:Int×Int}(h:Ze2 n (lo N) k):k≠ZS N∧∀m,¬ Ze2 m (up N) k:=by
 have:=Zey n _ k h
 refine⟨fun z=>?_,fun m hm=>?_⟩
 ·have h1:=ZfJ h2
  rw[z,h1]at this
  have:=ZM hr this.2 (Zcn (Zak (Zdy h2).2))
  omega
 ·have:=ZM hr this.1 (Zey m _ k hm).1
  omega
theorem Ziy{N:List Int}(hr:Zag N)(h2:2≤N.length){n:Nat}{k:Int×Int}(h:Ze2 n (up N) k):k≠ZS N∧∀m,¬ Ze2 m (lo N) k:=by
 have:=Zey n _ k h
 refine⟨fun z=>?_,fun m hm=>?_⟩
 ·have h1:=ZfV h2
  rw[z,h1]at this
  have:=ZM hr (Zcl (Zak (ZcR h2).2)) this.1
  omega
 ·have:=ZM hr (Zey m _ k hm).1 this.1
  omega
theorem ZeD.congr{hd hd':Hd}{s s':StL}:∀ (n:Nat) (N:List Int),(∀m∈N,hd' m=hd m)→(∀k,Ze2 n N k→Z0 s' k=Z0 s k)→ZeD hd s n N→ZeD hd' s' n N
 | 0,_,_,_,_=>True.intro
 | n+1,N,hh,hk,h=>fun h2=>by
  obtain⟨a,b,c1,c2⟩:=h h2
  have hl:∀m∈lo N,hd' m=hd m:=fun m hm=>hh m (by rw[← Zcc N];exact QJ _ hm)
  have hu:∀m∈up N,hd' m=hd m:=fun m hm=>hh m (by rw[← Zcc N];exact Qz _ hm)
  have hl':∀m∈lo N,hd m=hd' m:=fun m hm=>(hl m hm).symm
  have hu':∀m∈up N,hd m=hd' m:=fun m hm=>(hu m hm).symm
  refine⟨ZeD.congr n _ hl (fun k hkk=>hk k ⟨h2,.inl hkk⟩) a,ZeD.congr n _ hu (fun k hkk=>hk k ⟨h2,.inr (.inl hkk)⟩) b,fun a b x y ha hb hx hy=>?_,fun hw=>?_⟩
  ·rw[hk _ ⟨h2,.inr (.inr rfl)⟩]
   exact c1 a b x y (Win.congr hl' ha) (Win.congr hu' hb) (by rw[← hl a ha.1];exact hx) (by rw[← hu b hb.1];exact hy)
  ·rw[hk _ ⟨h2,.inr (.inr rfl)⟩]
   refine c2 ?_
   rcases hw with hw|hw
   ·exact .inl (Win.congr hl' hw)
   ·exact .inr (Win.congr hu' hw)
inductive ZbA (hd:Hd):Nat→List Int→Int→Int→Prop
 | few {n:Nat} {N:List Int}:N.length<2→ZbA hd n N 0 0
 | none {n:Nat} {N:List Int} {k l k' l':Int}:2≤N.length→ZbA hd n (lo N) k l→ZbA hd n (up N) k' l'→(Win hd (lo N) none∨Win hd (up N) none)→ZbA hd (n+1) N (k+k') (l+l')
 | both {n:Nat} {N:List Int} {k l k' l':Int} {a b:Int} {x y:List Nat}:2≤N.length→ZbA hd n (lo N) k l→ZbA hd n (up N) k' l'→Win hd (lo N) (some a)→Win hd (up N) (some b)→hd a=some x→hd b=some y→ZbA hd (n+1) N (k+k'+1) (l+l'+(lcp x y:Nat)+1)
theorem ZbA.one{hd:Hd}:∀ {n m:Nat} {N:List Int} {k l k' l':Int},ZbA hd n N k l→ZbA hd m N k' l'→k=k'∧l=l'
 | _,_,_,_,_,_,_,.few h,p=>by
  cases p with
  | few _=>exact⟨rfl,rfl⟩
  | none h2 _ _ _=>omega
  | both h2 _ _ _ _ _ _=>omega
 | _,_,_,_,_,_,_,.none h2 a b hw,p=>by
  cases p with
  | few h=>omega
  | none _ a' b' _ =>
   obtain⟨e1,e2⟩:=ZbA.one a a'
   obtain⟨e3,e4⟩:=ZbA.one b b'
   exact⟨by omega,by omega⟩
  | both _ a' b' wa wb hx hy =>
   rcases hw with hw|hw
   ·exact nomatch hw.one wa
   ·exact nomatch hw.one wb
 | _,_,_,_,_,_,_,.both h2 a b wa wb hx hy,p=>by
  cases p with
  | few h=>omega
  | none _ a' b' hw =>
   rcases hw with hw|hw
   ·exact nomatch hw.one wa
   ·exact nomatch hw.one wb
  | both _ a' b' wa' wb' hx' hy' =>
   obtain⟨e1,e2⟩:=ZbA.one a a'
   obtain⟨e3,e4⟩:=ZbA.one b b'
   have ea:=Ql (wa.one wa')
   have eb:=Ql (wb.one wb')
   subst ea eb
   rw[hx]at hx';cases hx'
   rw[hy]at hy';cases hy'
   exact⟨by omega,by omega⟩
def kk(e:Str×Int):List Key:=[.inr e.1,.inl e.2]
def oV:Option Str→V
 | none=>.non
 | some s=>.str s
def Zcg:Option Int→V
 | none=>.non
 | some a=>.int a
def kvH(E:List (Int×Option Str)):List (Key×V):=E.map fun e=>(.inl e.1,oV e.2)
def lk(E:List (Int×Option Str))(n:Int):Option Str:=(E.find? fun e=>decide (e.1=n)).bind (·.2)
def hdE(E:List (Int×Option Str)):Hd:=fun n=>(lk E n).map cds
theorem Zk3:∀ {E:List (Int×Option Str)},(E.map (·.1)).Nodup→∀ {e:Int×Option Str},e∈E→lk E e.1=e.2
 | [],_,_,h=>by cases h
 | x::r,nd,e,h=>by
  rw[Qh,QV]at nd
  unfold lk
  rw[Q8]
  rcases QI.mp h with rfl|h
  ·rw[decide_eq_true rfl];rfl
  ·rw[decide_eq_false (fun z:x.1=e.1=>nd.1 (by rw[z];exact Qd (f:=fun x:Int×Option Str=>x.1) h))]
   exact Zk3 nd.2 h
theorem ZqR{E:List (Int×Option Str)}(h:(E.map (·.1)).Nodup):((kvH E).map (·.1)).Nodup:=by
 have e:(kvH E).map (·.1)=(E.map (·.1)).map (Sum.inl:Int→Key):=by unfold kvH;rw[Qj,Qj];rfl
 rw[e]
 exact List.Pairwise.map _ (fun a b hab z=>hab (Sum.inl.inj z)) h
theorem ZfB{E:List (Int×Option Str)}(h:(E.map (·.1)).Nodup){n:Int}(hn:n∈E.map (·.1)):Z1 (kvH E) (.inl n)=some (oV (lk E n)):=by
 obtain⟨e,he,rfl⟩:=Qo.mp hn
 rw[Zk3 h he]
 exact ZcE (ZqR h) (Qd (f:=fun e:Int×Option Str=>((.inl e.1:Key),oV e.2)) he)
def prs(E:List (Int×Option Str))(N:List Int):List (Str×Int):=N.filterMap fun n=>(lk E n).map fun s=>(s,n)
theorem Zgc{E:List (Int×Option Str)}{N:List Int}{s:Str}{n:Int}:(s,n)∈prs E N↔n∈N∧lk E n=some s:=by
 unfold prs
 rw[List.mem_filterMap]
 constructor
 ·rintro⟨m,hm,e⟩
  cases h:lk E m with
  | none=>rw[h]at e;cases e
  | some x =>
   rw[h]at e
   injection e with e
   injection e with e1 e2
   rw[← e2,← e1]
   exact⟨hm,h⟩
 ·rintro⟨hn,h⟩
  exact⟨n,hn,by rw[h];rfl⟩
theorem ZoX{x y:Str}(h:cds x=cds y):x=y:=by
 obtain⟨⟨a⟩⟩:=x
 obtain⟨⟨b⟩⟩:=y
 have:a=b:=h
 rw[this]
theorem Zo5{s s':Str}{a b:Int}(h:Za8 (kk (s',b)) (kk (s,a))=false):b=a∨Btr (cds s) a (cds s') b:=by
 unfold kk at h
 rw[ZfG]at h
 by_cases e:(Sum.inr s':Key)=Sum.inr s
 ·rw[if_pos e,ZfG]at h
  have e':s'=s:=Sum.inr.inj e
  by_cases e2:(Sum.inl b:Key)=Sum.inl a
  ·exact .inl (Sum.inl.inj e2)
  ·rw[if_neg e2]at h
   have h1:¬ b<a:=of_decide_eq_false h
   have h2:b≠a:=fun z=>e2 (by rw[z])
   exact .inr (.inr ⟨by rw[e',ZhC],by omega⟩)
 ·rw[if_neg e]at h
  have h1:¬ cds s'<cds s:=of_decide_eq_false h
  rw[ZnD]at h1
  have h2:=Zb2 (cds s') (cds s)
  have h3:ZQ (cds s) (cds s')≠0:=fun z=>e (by rw[ZoX (Zfq _ _ z)])
  exact .inr (.inl (by omega))
theorem Zq0{E:List (Int×Option Str)}{N:List Int}{s:Str}{a:Int}(h:(s,a)∈prs E N)(hm:∀e∈prs E N,Za8 (kk e) (kk (s,a))=false):Win (hdE E) N (some a):=by
 obtain⟨ha,hs⟩:=Zgc.mp h
 refine⟨ha,cds s,by unfold hdE;rw[hs];rfl,fun b hb y hy=>?_⟩
 unfold hdE at hy
 cases hl:lk E b with
 | none=>rw[hl]at hy;cases hy
 | some s' =>
  rw[hl]at hy
  cases hy
  exact Zo5 (hm (s',b) (Zgc.mpr ⟨hb,hl⟩))
theorem ZmU{E:List (Int×Option Str)}{N:List Int}(h:prs E N=[]):Win (hdE E) N none:=fun n hn=>by
 unfold hdE
 cases hl:lk E n with
 | none=>rfl
 | some s =>
  have:=Zgc.mpr ⟨hn,hl⟩
  rw[h]at this
  cases this
def ZrW:Key→PyData
 | .inl i=>.int i
 | .inr s=>.str s
def tD(k:List Key):PyData:=.tuple (k.map ZrW)
theorem ZiN{K:PySem.W.Frag}{H:Hp}:∀ks:List Key,DVs K H (ks.map kV) (ks.map ZrW)
 | []=>.nil
 | .inl i::r=>.cons (.int i) (ZiN r)
 | .inr s::r=>.cons (.str s) (ZiN r)
theorem Zk0{K:PySem.W.Frag}{H:Hp}:∀ts:Zfu,AtT H ts→DVs K H (Zgb ts) (ts.map fun t=>tD t.2)
 | [],_=>.nil
 | t::r,h=>.cons (.tup (SqT.of (h t (by simp))) (ZiN t.2)) (Zk0 r fun x hx=>h x (Qu _ hx))
theorem ZkV:∀L:List (Str×Int),(∀e∈L,AZ e.1)→PyData.canLayAll0 (L.map fun e=>tD (kk e))=true∧PyData.depthAll (L.map fun e=>tD (kk e))≤1
 | [],_=>⟨rfl,by simp[PyData.depthAll]⟩
 | e::r,h=>by
  obtain⟨a,b⟩:=ZkV r fun x hx=>h x (Qu _ hx)
  have e2:tD (kk e)=.tuple [.str e.1,.int e.2]:=rfl
  have hz:=(h e (by simp)).ok
  refine⟨by simp[PyData.canLayAll0,PyData.canLay0,e2,hz,a],?_⟩
  rw[Qh,e2]
  simp only[PyData.depthAll,PyData.depth]
  omega
theorem ZgU(L:List (Str×Int))(h:∀e∈L,AZ e.1):SeqAt.shaped (.list (L.map fun e=>tD (kk e)))=true:=by
 obtain⟨a,b⟩:=ZkV L h
 simp[SeqAt.shaped,PyData.canLay0,PyData.depth,a]
 omega
structure Hds (H:Hp) (D:Addr) (E:List (Int×Option Str)):Prop where
 at':H D=some (.dK (kvH E))
 nd:(E.map (·.1)).Nodup
 ok:∀e∈E,∀s,e.2=some s→s.length≤1000∧AZ s
theorem Hds.lk{H:Hp}{D:Addr}{E:List (Int×Option Str)}(h:Hds H D E){n:Int}{s:Str}(e:lk E n=some s):s.length≤1000∧AZ s:=by
 unfold My.lk at e
 cases hf:E.find? fun e=>decide (e.1=n) with
 | none=>rw[hf]at e;cases e
 | some x=>rw[hf]at e;exact h.ok x (Qak hf) s e
theorem Hds.same{H H':Hp}{D:Addr}{E:List (Int×Option Str)}(h:Hds H D E)(s:ZH H H'):Hds H' D E:=⟨s _ _ h.at',h.nd,h.ok⟩
def Zge(K:PySem.W.Frag):Sp:=fun vs H Q _=>∃ (D l:Addr) (E:List (Int×Option Str)) (N:List Int),vs=[.ref D,.ref l]∧Hds H D E∧SqL K H l (N.map V.int)∧N.length≤60∧(∀n∈N,n∈E.map (·.1)) ∧
 ∀ (v:Option Int) (H':Hp),Win (hdE E) N v→ZH H H'→Q (Zcg v) H'
theorem Zmc(T:Zai K mg cRow cMerge):Df P w K mg base 1 "_law_least" ["_law_heads_here", "_law_numbers"] (Zge K):=by
 refine T.t_l_least.df ZgY (fun vs H Q E h=>?_) (fun cdv f A outer s H vs Q E hr h=>?_)
 ·obtain⟨D,l,E,N,rfl,_⟩:=h
  rfl
 obtain⟨D,l,E',N,rfl,hds,hl,h60,hmem,q⟩:=h
 refine⟨_,#[Zf,#[ZdC,2,ZgY.nd,Zkd,#[iL,K,‹1›],(fun _ _ _ _=>#[cg,3,Zkd]),(fun _ _ _ _=>(@ZiR _ _ _ #[Zo,Zes,#[Zm,(ixG hr),#[cv,0,Zkd],#[cw,3,Zkd]],#[ZW],(Zs _)])),(fun _ _ _ _=>#[ZaC,#[Za,#[Zm,(ixG hr),#[cv,0,Zkd],#[cw,3,Zkd]],#[Za,#[cw,3,Zkd],#[Ze]]]])],#[Zj,#[Zr,#[Zbu,#[Zo,#[neD,K,hr],‹2›,#[Zab,#[Ze]],(Zs _)],#[Zm,(ixT K),#[Zk,(ZsM K hr),(by rfl),T.b.n_min,boot_min,#[Za,‹2›,#[Ze]]],#[Zi]],#[ZW]]]]],?_⟩
 refine⟨_,rfl,l,rfl,⟨_,hl⟩,fun B hB=>?_⟩
 refine ZgM (K:=K) (a:=l) (xs:=N.map V.int) (fun i zs σ H2=>(∃v:Option V,σ=[some (.ref D),some (.ref l),none,v])∧(∃ts:Zfu,zs=Zgb ts∧AtT H2 ts∧ts.length≤i∧ts.map (·.2)=(prs E' (N.take i)).map kk)∧i≤N.length∧H2 B=some (.lst zs)∧ZH H H2) ?_ (fun _ _ _ _ h=>h.2.2.2.2.seq hl) ?_ ?_
 ·exact⟨⟨none,rfl⟩,⟨[],rfl,(fun t h=>by cases h),Qg _,rfl⟩,Qv _,Zb,Zh hB _⟩
 ·rintro i x zs σ H2 hx ⟨⟨v,rfl⟩,⟨ts,rfl,hat,htl,hE⟩,hi,hB2,s2⟩
  rw[Qn]at hx
  cases hz:N[i]? with
  | none=>rw[hz]at hx;cases hx
  | some n =>
  rw[hz]at hx
  cases hx
  have hil:i<N.length:=(Qi.mp hz).1
  have hv:=ZfB hds.nd (hmem n (Qw hz))
  have hD2:=s2 _ _ hds.at'
  have hg:ZL H2 D (kV (.inl n)) (some (oV (lk E' n))):=by rw[← hv];exact ZL.k hD2
  refine⟨_,rfl,_,rfl,D,_,rfl,hg,rfl,_,rfl,?_⟩
  cases hk:lk E' n with
  | none =>
   rw[hk]at hg
   refine Zbr ⟨⟨_,rfl⟩,⟨ts,rfl,hat,by omega,?_⟩,hil,hB2,s2⟩
   rw[hE,QH,hz]
   unfold prs
   rw[List.filterMap_append]
   simp[hk]
  | some z =>
   rw[hk]at hg
   refine ZfP ⟨_,rfl,_,rfl,D,_,rfl,hg,_,rfl,(by show 2≤sizeLine;decide),fun t ht0=>?_⟩
   have sn:=Zh ht0 (.tup [.str z,.int n])
   have hB3:=sn _ _ hB2
   have nBn:B≠t:=Zd hB2 ht0
   refine⟨hB3,(by unfold Zgb;rw[Qa];exact ZB (by omega)),⟨_,rfl⟩,⟨ts++[(t,kk (z,n))],by unfold Zgb;rw[Qe];rfl,fun y hy=>?_,by rw[Qf,Qt];omega,?_⟩,hil,Zb,fun b o hb=>?_⟩
   ·rcases Qk.mp hy with hy|hy
    ·exact ZnB hB3 _ _ _ (sn _ _ (hat y hy))
    ·rw[Qp.mp hy,Zc nBn.symm];exact Zb
   ·rw[Qe,hE,QH,hz]
    unfold prs
    rw[List.filterMap_append,Qe]
    simp[hk]
   ·rw[Zc (Zd hb hB)];exact sn _ _ (s2 b o hb)
 rintro zs σ H2 ⟨⟨v,rfl⟩,⟨ts,rfl,hat,htl,hE⟩,_,hB2,s2⟩
 rw[Qa,QD (Qg _)]at hE
 have hpz:∀e∈prs E' N,AZ e.1:=fun e he=>(hds.lk (Zgc.mp (show (e.1,e.2)∈prs E' N from he)).2).2
 have htD:(ts.map fun t=>tD t.2)=(prs E' N).map fun e=>tD (kk e):=by
  have:=congrArg (List.map tD) hE
  rw[Qj,Qj]at this
  exact this
 refine⟨_,rfl,(by show 0≤sizeLine;decide),fun e1 he1=>?_⟩
 have s3:=Zh he1 (.lst [])
 have hdv:DVs K (upd H2 e1 (.lst [])) (Zgb ts) ((prs E' N).map fun e=>tD (kk e)):=by rw[← htD];exact Zk0 ts (fun t ht=>s3 _ _ (hat t ht))
 refine⟨.list ((prs E' N).map fun e=>tD (kk e)),.list [],.lst (SqL.of (s3 _ _ hB2)) hdv,.lst (SqL.of Zb) .nil,ZgU _ hpz,ZgU [] (fun e h=>by cases h),_,rfl,?_⟩
 have hB3:=s3 _ _ hB2
 have hat3:AtT (upd H2 e1 (.lst [])) ts:=fun t ht=>s3 _ _ (hat t ht)
 have s03:=s2.trans s3
 generalize upd H2 e1 (.lst [])=H3 at hB3 hat3 s03 ⊢
 cases hp:prs E' N with
 | nil =>
  rw[show (if true=true then !PyData.eqv (.list (([]:List (Str×Int)).map fun e=>tD (kk e))) (.list []) else PyData.eqv (.list (([]:List (Str×Int)).map fun e=>tD (kk e))) (.list []))=false by ac_rfl]
  exact Zbr (q none H3 (ZmU hp) s03)
 | cons e0 er =>
  rw[show (if true=true then !PyData.eqv (.list ((e0::er).map fun e=>tD (kk e))) (.list []) else PyData.eqv (.list ((e0::er).map fun e=>tD (kk e))) (.list []))=true by simp[PyData.eqv,PyData.eqvAll]]
  have hne:ts≠[]:=fun z=>by rw[z,hp]at hE;cases hE
  have hmm:∀t∈ts,∃e∈prs E' N,t.2=kk e:=fun t ht=>by
   have:=Qd (f:=fun t:Addr×List Key=>t.2) ht
   rw[hE]at this
   obtain⟨e,he,e2⟩:=Qo.mp this
   exact⟨e,he,e2.symm⟩
  refine ZfP ⟨_,rfl,B,ts,[false,true],rfl,SqL.of hB3,hat3,hne,fun t ht=>?_,fun t ht hmin=>?_⟩
  ·obtain⟨e,_,e2⟩:=hmm t ht;rw[e2];rfl
  ·obtain⟨e,he,e2⟩:=hmm t ht
   have ht3:=hat3 t ht
   rw[e2]at ht3
   refine(xw4 t.1 _ _ _ ⟨rfl,rfl,SqT.of ht3,(show atI ((kk e).map kV) ((1:Nat):Int)=some (.int e.2) from Zam rfl),?_⟩)
   refine q (some e.2) H3 (Zq0 (s:=e.1) he fun u hu=>?_) s03
   have:kk u∈ts.map (·.2):=by rw[hE];exact Qd hu
   obtain⟨t',ht',e3⟩:=Qo.mp this
   have:=hmin t' ht'
   rw[e3,e2]at this
   exact this
theorem Zkb(N:List Int):ZeC N=lo N:=rfl
theorem ZkO(N:List Int):Zhh N=up N:=rfl
theorem Ziu{E:List (Int×Option Str)}{N:List Int}{a:Int}(h:Win (hdE E) N (some a)):a∈N∧∃z,lk E a=some z∧hdE E a=some (cds z):=by
 obtain⟨ha,x,hx,_⟩:=h
 refine⟨ha,?_⟩
 cases hl:lk E a with
 | none=>unfold hdE at hx;rw[hl]at hx;cases hx
 | some z=>exact⟨z,rfl,by unfold hdE;rw[hl];rfl⟩
def ZrZ(K:PySem.W.Frag)(n:Nat):Sp:=fun vs H Q _=>∃ (D l:Addr) (E:List (Int×Option Str)) (N:List Int),vs=[.ref D,.ref l]∧Hds H D E∧SqL K H l (N.map V.int)∧N.length≤60∧0<n∧N.length≤2 ^ (n-1)∧(∀m∈N,m∈E.map (·.1)) ∧
 ∀ (t:Addr) (k q:Int) (H':Hp),ZbA (hdE E) n N k q→H t=none→H' t=some (.tup [.int k,.int q])→ZH H H'→Q (.ref t) H'
theorem Zp4(T:Zai K mg cRow cMerge)(f_l_halves:Df P w K mg base 1 "_law_halves" ["_law_numbers"] (Zb8 K false))(f_l_least:Df P w K mg base 1 "_law_least" ["_law_heads_here", "_law_numbers"] (Zge K))(f_l_alike:Df P w K mg base 1 "_law_alike" ["_law_one", "_law_other"] ZcL) :
  ∀n:Nat,Df P w K mg base (n+1) "_law_first_play" ["_law_heads_here", "_law_numbers"] (ZrZ K n)
 | 0=>by
  refine T.t_l_first_play.df ZaD (fun vs H Q E h=>?_) (fun cdv f A outer s H vs Q E hr h=>?_)
  ·obtain⟨D,l,E,N,rfl,_⟩:=h
   rfl
  obtain⟨D,l,E,N,rfl,_,_,_,z,_⟩:=h
  exact absurd z (by omega)
 | n+1=>by
  have f_l_first_play:=Zp4 T f_l_halves f_l_least f_l_alike n
  refine T.t_l_first_play.df ZaD (fun vs H Q E h=>?_) (fun cdv f A outer s H vs Q E hr h=>?_)
  ·obtain⟨D,l,E,N,rfl,_⟩:=h
   rfl
  obtain⟨D,l,E',N,rfl,hds,hl,h60,_,hp2,hmem,q⟩:=h
  rw[Qaa]at hp2
  refine⟨_,#[Zf,#[Z3,#[Zo,ZeF,#[Zk,(Zb1 K),(by rfl),T.b.n_len,Qs,#[Za,‹1›,#[Ze]]],#[Zi],(Zs _)],#[Zj,#[Zr,#[ZaC,#[Za,#[Zi],#[Za,#[Zi],#[Ze]]]]]],#[ZF]],#[Zf,#[Z4,#[Zv,f_l_halves,hr,#[Za,‹1›,#[Ze]],(by rfl)],(@gL _ K _ _ _ 2 _ #[ZC,#[ZD,2,ZaD.nd,(Or.inl rfl)],#[ZC,#[ZD,3,ZaD.nd,(Or.inl rfl)],(@ZaF _)]] (by rfl) (by rfl) (by rfl) (by rfl))],#[Zf,#[ZfI,4,5,ZaD.nd,#[Za,#[Zv,f_l_first_play,hr,#[Za,‹0›,#[Za,‹2›,#[Ze]]],(by rfl)],#[Za,#[Zv,f_l_first_play,hr,#[Za,‹0›,#[Za,‹3›,#[Ze]]],(by rfl)],#[Ze]]]],#[Zf,#[ZfI,6,7,ZaD.nd,#[Za,#[Zv,f_l_least,hr,#[Za,‹0›,#[Za,‹2›,#[Ze]]],(by rfl)],#[Za,#[Zv,f_l_least,hr,#[Za,‹0›,#[Za,‹3›,#[Ze]]],(by rfl)],#[Ze]]]],#[Zf,#[Z3,(@PW.pt _ _ _ #[Zig,#[Zo,Zbw,‹6›,#[ZW],(Zs _)],(@ZfN _ _ _ _ #[Zo,Zbw,‹7›,#[ZW],(Zs _)])]),#[Zj,#[Zr,#[ZaC,#[Za,#[ZE,Zah,#[Zm,(ixT K),‹4›,#[Zi]],#[Zm,(ixT K),‹5›,#[Zi]]],#[Za,#[ZE,Zah,#[Zm,(ixT K),‹4›,#[Zi]],#[Zm,(ixT K),‹5›,#[Zi]]],#[Ze]]]]]],#[ZF]],#[Zj,#[Zr,#[ZaC,#[Za,#[ZE,Zah,#[ZE,Zah,#[Zm,(ixT K),‹4›,#[Zi]],#[Zm,(ixT K),‹5›,#[Zi]]],#[Zi]],#[Za,#[ZE,Zah,#[ZE,Zah,#[ZE,Zah,#[Zm,(ixT K),‹4›,#[Zi]],#[Zm,(ixT K),‹5›,#[Zi]]],#[Zv,f_l_alike,hr,#[Za,#[Zm,(ixG hr),‹0›,‹6›],#[Za,#[Zm,(ixG hr),‹0›,‹7›],#[Ze]]],(by rfl)]],#[Zi]],#[Ze]]]]]]]]]]],?_⟩
  have hll:(((N.map V.int).length:Nat):Int)=(N.length:Int):=by rw[Qa]
  refine⟨_,rfl,l,_,rfl,.inl hl,_,_,rfl,rfl,_,rfl,Zbc (fun d=>?_) (fun d=>?_)⟩
  ·have hlt:N.length<2:=by have:=of_decide_eq_true d;rw[hll]at this;omega
   exact⟨(by show 2≤sizeLine;decide),fun t ht=>q t 0 0 _ (.few hlt) ht Zb (Zh ht _)⟩
  have hge:2≤N.length:=by
   have:¬ ((N.length:Int)<2):=fun z=>d (decide_eq_true (by rw[hll];exact z))
   omega
  have hn1:1≤n:=by
   cases n with
   | zero=>simp at hp2;omega
   | succ m=>omega
  have hpow:2 ^ n=2*2 ^ (n-1):=by
   obtain⟨m,rfl⟩:∃m,n=m+1:=⟨n-1,by omega⟩
   rw[QaR,Qaa];omega
  have hlo:(lo N).length≤2 ^ (n-1)∧(lo N).length≤60:=by unfold lo mid;rw[QA];omega
  have hup:(up N).length≤2 ^ (n-1)∧(up N).length≤60:=by unfold up mid;rw[Q0];omega
  have hmlo:∀m∈lo N,m∈E'.map (·.1):=fun m hm=>hmem m (Qab hm)
  have hmup:∀m∈up N,m∈E'.map (·.1):=fun m hm=>hmem m (Qac hm)
  refine⟨_,rfl,l,N,rfl,hl,by omega,fun t f r H2 ht hf hr' nfr ht2 hf2 hr2 s2 ntf ntr=>?_⟩
  rw[Zkb]at hf2
  rw[ZkO]at hr2
  refine⟨t,_,rfl,SqL.of ht2,rfl,_,_,rfl,_,_,rfl,rfl,?_⟩
  refine⟨_,rfl,_,rfl,D,f,E',lo N,rfl,hds.same s2,SqL.of hf2,hlo.2,hn1,hlo.1,hmlo,fun t1 k1 q1 H3 p1 ht1 h1 s3=>?_⟩
  have s03:=s2.trans s3
  refine⟨_,rfl,_,rfl,D,r,E',up N,rfl,hds.same s03,SqL.of (s3 _ _ hr2),hup.2,hn1,hup.1,hmup,fun t2 k2 q2 H4 p2 ht2' h2 s4=>⟨_,_,rfl,?_⟩⟩
  have s04:=s03.trans s4
  have s24:=s3.trans s4
  refine⟨_,rfl,_,rfl,D,f,E',lo N,rfl,hds.same s04,SqL.of (s24 _ _ hf2),hlo.2,hmlo,fun va H5 w1 s5=>?_⟩
  have s05:=s04.trans s5
  have s25:=s24.trans s5
  refine⟨_,rfl,_,rfl,D,r,E',up N,rfl,hds.same s05,SqL.of (s25 _ _ hr2),hup.2,hmup,fun vb H6 w2 s6=>⟨_,_,rfl,?_⟩⟩
  have s06:=s05.trans s6
  have h16:=s6 _ _ (s5 _ _ (s4 _ _ h1))
  have h26:=s6 _ _ (s5 _ _ h2)
  have fin:(Win (hdE E') (lo N) none∨Win (hdE E') (up N) none)→∀t H',H6 t=none→H'=upd H6 t (.tup [.int (k1+k2),.int (q1+q2)])→Q (.ref t) H':=fun hw t H' ht e=>by
   subst e
   exact q t _ _ _ (.none hge p1 p2 hw) (s06.free ht) Zb (s06.trans (Zh ht _))
  have a10:atI [V.int k1,.int q1] ((0:Nat):Int)=some (.int k1):=Zam rfl
  have a11:atI [V.int k1,.int q1] ((1:Nat):Int)=some (.int q1):=Zam rfl
  have a20:atI [V.int k2,.int q2] ((0:Nat):Int)=some (.int k2):=Zam rfl
  have a21:atI [V.int k2,.int q2] ((1:Nat):Int)=some (.int q2):=Zam rfl
  cases va with
  | none =>
   refine⟨_,rfl,rfl,_,rfl,Zcq rfl ?_⟩
   refine⟨_,rfl,t1,_,_,_,rfl,rfl,SqT.of h16,a10,_,rfl,t2,_,_,_,rfl,rfl,SqT.of h26,a20,_,_,rfl,rfl,_,rfl,t1,_,_,_,rfl,rfl,SqT.of h16,a11,_,rfl,t2,_,_,_,rfl,rfl,SqT.of h26,a21,_,_,rfl,rfl,(by show 2≤sizeLine;decide),fun t ht=>fin (.inl w1) t _ ht rfl⟩
  | some a =>
  refine⟨_,rfl,rfl,_,rfl,Zbv (fun z=>nomatch z) ?_⟩
  cases vb with
  | none =>
   refine⟨_,rfl,rfl,_,rfl,Zcq rfl ?_⟩
   refine⟨_,rfl,t1,_,_,_,rfl,rfl,SqT.of h16,a10,_,rfl,t2,_,_,_,rfl,rfl,SqT.of h26,a20,_,_,rfl,rfl,_,rfl,t1,_,_,_,rfl,rfl,SqT.of h16,a11,_,rfl,t2,_,_,_,rfl,rfl,SqT.of h26,a21,_,_,rfl,rfl,(by show 2≤sizeLine;decide),fun t ht=>fin (.inr w2) t _ ht rfl⟩
  | some b =>
  refine⟨_,rfl,rfl,_,rfl,Zbv (fun z=>nomatch z) ?_⟩
  obtain⟨ma,za,ea,ga⟩:=Ziu w1
  obtain⟨mb,zb,eb,gb⟩:=Ziu w2
  have hds6:=hds.same s06
  have va:=ZfB hds.nd (hmlo a ma)
  have vb:=ZfB hds.nd (hmup b mb)
  rw[ea]at va
  rw[eb]at vb
  have da:ZL H6 D (kV (.inl a)) (some (.str za)):=by rw[show some (V.str za)=Z1 (kvH E') (.inl a) from va.symm];exact ZL.k hds6.at'
  have db:ZL H6 D (kV (.inl b)) (some (.str zb)):=by rw[show some (V.str zb)=Z1 (kvH E') (.inl b) from vb.symm];exact ZL.k hds6.at'
  refine⟨_,rfl,t1,_,_,_,rfl,rfl,SqT.of h16,a10,_,rfl,t2,_,_,_,rfl,rfl,SqT.of h26,a20,_,_,rfl,rfl,_,_,rfl,rfl,_,rfl,t1,_,_,_,rfl,rfl,SqT.of h16,a11,_,rfl,t2,_,_,_,rfl,rfl,SqT.of h26,a21,_,_,rfl,rfl,_,rfl,_,rfl,D,_,rfl,da,_,rfl,_,rfl,D,_,rfl,db,za,zb,rfl,(hds.lk ea).1,(hds.lk eb).1,_,_,rfl,rfl,_,_,rfl,rfl,(by show 2≤sizeLine;decide),fun t ht=>?_⟩
  exact q t _ _ _ (.both hge p1 p2 w1 w2 ga gb) (s06.free ht) Zb (s06.trans (Zh ht _))
abbrev Zx:=Int×Addr×List Str×Nat
def kvR(L:List Zx):List (Key×V):=L.map fun e=>(.inl e.1,.ref e.2.1)
def kvG(L:List Zx):List (Key×V):=L.map fun e=>(.inl e.1,.int (e.2.2.2:Int))
def Zaw(ra ga:Addr)(nb li lo:Int):List (Key×V):=[(.inr "rows",.ref ra),(.inr "gone",.ref ga),(.inr "number",.int nb),(.inr "likenings",.int li),(.inr "looks",.int lo)]
theorem ZaI(ra ga:Addr)(nb li lo:Int):Z1 (Zaw ra ga nb li lo) (.inr "rows")=some (.ref ra):=by simp[Z1,Zaw]
theorem ZsC:¬ (("rows" : Str) = "gone"):=by ac_rfl
theorem Zru:¬ (("rows" : Str) = "number"):=by ac_rfl
theorem ZsV:¬ (("gone" : Str) = "number"):=by ac_rfl
theorem Zsk:¬ (("rows" : Str) = "likenings"):=by ac_rfl
theorem ZrT:¬ (("gone" : Str) = "likenings"):=by ac_rfl
theorem ZrD:¬ (("number" : Str) = "likenings"):=by ac_rfl
theorem ZrC:¬ (("rows" : Str) = "looks"):=by ac_rfl
theorem Zsl:¬ (("gone" : Str) = "looks"):=by ac_rfl
theorem Zsn:¬ (("number" : Str) = "looks"):=by ac_rfl
theorem Zqb:¬ (("likenings" : Str) = "looks"):=by ac_rfl
theorem Za4{k k':Key}{v:V}{r:List (Key×V)}(h:¬ k=k'):Z1 ((k,v)::r) k'=Z1 r k':=Zdh h
theorem Zfm{k:Key}{v:V}{r:List (Key×V)}:Z1 ((k,v)::r) k=some v:=Zde rfl
theorem ZbF(ra ga:Addr)(nb li lo:Int):Z1 (Zaw ra ga nb li lo) (.inr "gone")=some (.ref ga):=by
 unfold Zaw
 rw[Za4 (fun z=>ZsC (Sum.inr.inj z)),Zfm]
theorem Zkr(ra ga:Addr)(nb li lo:Int):Z1 (Zaw ra ga nb li lo) (.inr "number")=some (.int nb):=by
 unfold Zaw
 rw[Za4 (fun z=>Zru (Sum.inr.inj z)),Za4 (fun z=>ZsV (Sum.inr.inj z)),Zfm]
theorem ZbU(ra ga:Addr)(nb li lo:Int):Z1 (Zaw ra ga nb li lo) (.inr "likenings")=some (.int li):=by
 unfold Zaw
 rw[Za4 (fun z=>Zsk (Sum.inr.inj z)),Za4 (fun z=>ZrT (Sum.inr.inj z)),Za4 (fun z=>ZrD (Sum.inr.inj z)),Zfm]
theorem ZfO(ra ga:Addr)(nb li lo:Int):Z1 (Zaw ra ga nb li lo) (.inr "looks")=some (.int lo):=by
 unfold Zaw
 rw[Za4 (fun z=>ZrC (Sum.inr.inj z)),Za4 (fun z=>Zsl (Sum.inr.inj z)),Za4 (fun z=>Zsn (Sum.inr.inj z)),Za4 (fun z=>Zqb (Sum.inr.inj z)),Zfm]
structure Own (H:Hp) (o ra ga:Addr) (L:List Zx) (nb li lo:Int):Prop where
 at':H o=some (.dK (Zaw ra ga nb li lo))
 rows:H ra=some (.dK (kvR L))
 gone:H ga=some (.dK (kvG L))
 nd:(L.map (·.1)).Nodup
 few:L.length≤60
 lst:∀e∈L,H e.2.1=some (.lst (e.2.2.1.map V.str))∧e.2.2.1.length≤200∧e.2.2.2≤e.2.2.1.length∧∀s∈e.2.2.1,s.length≤1000∧AZ s
theorem Own.same{H H':Hp}{o ra ga:Addr}{L:List Zx}{nb li lo:Int}(h:Own H o ra ga L nb li lo)(s:ZH H H'):Own H' o ra ga L nb li lo :=
 ⟨s _ _ h.at',s _ _ h.rows,s _ _ h.gone,h.nd,h.few,fun e he=>let ⟨a,b⟩:=h.lst e he;⟨s _ _ a,b⟩⟩
theorem Zjw(L:List Zx):(kvR L).map (·.1)=(L.map (·.1)).map (Sum.inl:Int→Key):=by unfold kvR;rw[Qj,Qj];rfl
theorem Zoi(L:List Zx):(kvG L).map (·.1)=(L.map (·.1)).map (Sum.inl:Int→Key):=by unfold kvG;rw[Qj,Qj];rfl
theorem ZkA{ns:List Int}(h:ns.Nodup):(ns.map (Sum.inl:Int→Key)).Nodup:=List.Pairwise.map _ (fun a b hab z=>hab (Sum.inl.inj z)) h
theorem Zef{L:List Zx}(nd:(L.map (·.1)).Nodup){e:Zx}(he:e∈L):Z1 (kvR L) (.inl e.1)=some (.ref e.2.1):=ZcE (by rw[Zjw];exact ZkA nd) (Qd (f:=fun e:Zx=>((.inl e.1:Key),V.ref e.2.1)) he)
theorem ZfD{L:List Zx}(nd:(L.map (·.1)).Nodup){e:Zx}(he:e∈L):Z1 (kvG L) (.inl e.1)=some (.int (e.2.2.2:Int)):=ZcE (by rw[Zoi];exact ZkA nd) (Qd (f:=fun e:Zx=>((.inl e.1:Key),V.int (e.2.2.2:Int))) he)
theorem ZL.k'{H:Hp}{a:Addr}{kvs:List (Key×V)}{k:Key}{r:Option V}(e:H a=some (.dK kvs))(h:Z1 kvs k=r):ZL H a (kV k) r:=by rw[← h];exact ZL.k e
theorem ZpK(ss:List Str)(g:Nat)(h:g≤ss.length):atI (ss.map V.str++[V.non]) (g:Int)=some (oV ss[g]?):=by
 refine Zam ?_
 by_cases hg:g<ss.length
 ·rw[QO (by rw[Qa];exact hg),Qn,Qb hg];rfl
 ·have e:g=ss.length:=by omega
  rw[QP (by rw[Qa];omega),Qa,e,QaS,QN (Qg _)];rfl
structure ZpL (L:List Zx) (E:List (Int×Option Str)):Prop where
 per:(E.map (·.1)).Perm (L.map (·.1))
 up:(E.map (·.1)).Pairwise (·<·)
 hd:∀e∈L,(e.1,e.2.2.1[e.2.2.2]?)∈E
def Zff:Sp:=fun vs H Q _=>∃ (o ra ga:Addr) (L:List Zx) (nb li lo:Int),vs=[.ref o]∧Own H o ra ga L nb li lo ∧
 ∀ (D:Addr) (E:List (Int×Option Str)) (H':Hp),H D=none→Hds H' D E→ZpL L E→ZH H H'→Q (.ref D) H'
theorem ZlZ(T:Zai K mg cRow cMerge):Df P w K mg base 1 "_law_heads" ["_law_own"] Zff:=by
 refine T.t_l_heads.df ZeS (fun vs H Q E h=>?_) (fun cdv f A outer s H vs Q E hr h=>?_)
 ·obtain⟨o,ra,ga,L,nb,li,lo,rfl,_⟩:=h
  rfl
 obtain⟨o,ra,ga,L,nb,li,lo,rfl,ow,q⟩:=h
 refine⟨_,#[Zf,#[Zy,1,ZeS.nd,(Or.inl rfl),(@Ze5 _ _)],#[Zf,#[ZbK,PassesOwn.never,#[iL,K,#[Zk,ZpF,(by rfl),T.b.n_sorted,boot_sorted,#[Za,#[Zm,(ixG hr),‹0›,#[Zz]],#[Ze]]]],#[ZD,2,ZeS.nd,(Or.inl rfl)],#[Zj,#[Z4,#[Zm,(ixL K),#[ZE,ZcT,#[Zm,(ixG hr),#[Zm,(ixG hr),‹0›,#[Zz]],‹2›],#[Zab,#[Za,#[ZW],#[Ze]]]],#[Zm,(ixG hr),#[Zm,(ixG hr),‹0›,#[Zz]],‹2›]],#[ZaS,‹1›,‹2›,(ZdP hr)]]]],#[Zj,#[Zr,‹1›]]]],?_⟩
 refine fun D hD=>?_
 have s1:=Zh hD (.dK [])
 have hD1:(upd H D (.dK [])) D=some (.dK []):=Zb
 generalize upd H D (.dK [])=H1 at s1 hD1 ⊢
 have ow1:=ow.same s1
 have hfew:=ow.few
 refine⟨_,rfl,o,_,rfl,ZL.k' (k:=.inr "rows") ow1.at' (ZaI ..),ra,_,L.map (·.1),rfl,ow1.rows,Zjw L,by rw[Qa];omega,fun l ns hl hper hup=>?_⟩
 have s2:=s1.trans (Zh hl (.lst (ns.map V.int)))
 have hl2:(upd H1 l (.lst (ns.map V.int))) l=some (.lst (ns.map V.int)):=Zb
 have hD2:=Zh hl (.lst (ns.map V.int)) _ _ hD1
 have nDl:D≠l:=Zd hD1 hl
 generalize upd H1 l (.lst (ns.map V.int))=H2 at s2 hl2 hD2 ⊢
 have hnd:ns.Nodup:=hper.nodup_iff.mpr ow.nd
 have hnl:ns.length=L.length:=by rw[hper.length_eq,Qa]
 refine⟨l,rfl,⟨_,SqL.of hl2⟩,?_⟩
 refine Zfe (K:=K) (a:=l) (xs:=ns.map V.int) (fun i σ H3=>∃ (E:List (Int×Option Str)) (v2:Option V),σ=[some (.ref o),some (.ref D),v2]∧H3 D=some (.dK (kvH E))∧E.map (·.1)=ns.take i∧(∀e∈L,e.1∈ns.take i→(e.1,e.2.2.1[e.2.2.2]?)∈E)∧(∀x∈E,∃e∈L,x=(e.1,e.2.2.1[e.2.2.2]?))∧(∀b x,H b=some x→H3 b=some x)∧H3 l=some (.lst (ns.map V.int))) ⟨[],_,rfl,hD2,rfl,(fun e _ h=>by simp at h),(fun x h=>by cases h),s2,hl2⟩ (fun i σ H3 _ hq=>by obtain⟨_,_,_,_,_,_,_,_,h⟩:=hq;exact SqL.of h) ?_ ?_
 ·rintro i x σ H3 hx ⟨E',v2,rfl,hD3,hE,hin,hof,s3,hl3⟩
  rw[Qn]at hx
  cases hz:ns[i]? with
  | none=>rw[hz]at hx;cases hx
  | some n =>
  rw[hz]at hx
  cases hx
  have hil:i<ns.length:=(Qi.mp hz).1
  obtain⟨e,he,rfl⟩:=Qo.mp (hper.mem_iff.mp (Qw hz))
  have ow3:=ow.same s3
  obtain⟨la,l100,lg,laz⟩:=ow3.lst e he
  refine⟨_,rfl,o,_,rfl,ZL.k' (k:=.inr "rows") ow3.at' (ZaI ..),_,rfl,ra,_,rfl,ZL.k' (k:=.inl e.1) ow3.rows (Zef ow.nd he),(by show 1≤sizeLine;decide),fun c1 hc1=>?_⟩
  have s4:=Zh hc1 (.lst [.non])
  refine⟨e.2.1,c1,_,_,rfl,rfl,s4 _ _ la,Zb,(by rw[Qa];exact Qam (ZB (by simp;omega))),fun c2 hc2=>?_⟩
  have s5:=s4.trans (Zh hc2 (.lst (e.2.2.1.map V.str++[.non])))
  have hc25:(upd (upd H3 c1 (.lst [.non])) c2 (.lst (e.2.2.1.map V.str++[.non]))) c2=some (.lst (e.2.2.1.map V.str++[.non])):=Zb
  generalize upd (upd H3 c1 (.lst [.non])) c2 (.lst (e.2.2.1.map V.str++[.non]))=H5 at s5 hc25 ⊢
  have ow5:=ow3.same s5
  have hD5:=s5 _ _ hD3
  refine⟨_,rfl,o,_,rfl,ZL.k' (k:=.inr "gone") ow5.at' (ZbF ..),_,rfl,ga,_,rfl,ZL.k' (k:=.inl e.1) ow5.gone (ZfD ow.nd he),c2,_,_,_,rfl,rfl,SqL.of hc25,ZpK _ _ lg,_,rfl,_,rfl,D,_,rfl,Zb6.k (k:=.inl e.1) hD5 ?_,?_⟩
  ·have:=congrArg List.length hE
   rw[Qa,QA]at this
   unfold kvH
   rw[Qa]
   exact ZB (by omega)
  have hnone:Z1 (kvH E') (.inl e.1)=none:=by
   cases hv:Z1 (kvH E') (.inl e.1) with
   | none=>rfl
   | some v =>
    obtain⟨y,hy,z⟩:=Qo.mp (ZcA hv)
    injection z with z _
    have h1:e.1∈ns.take i:=by rw[← hE,← Sum.inl.inj z];exact Qd (f:=fun x:Int×Option Str=>x.1) hy
    obtain⟨j,hj⟩:=Qax.mp h1
    have hjl:=(Qi.mp hj).1
    rw[QA]at hjl
    rw[List.getElem?_take_of_lt (by omega)]at hj
    have:=(List.getElem?_inj (by omega) hnd).mp (hj.trans hz.symm)
    omega
  rw[Zb4 _ hnone]
  have hkv:kvH E'++[((.inl e.1:Key),oV e.2.2.1[e.2.2.2]?)]=kvH (E'++[(e.1,e.2.2.1[e.2.2.2]?)]):=by unfold kvH;rw[Qe];rfl
  rw[hkv]
  refine⟨E'++[(e.1,e.2.2.1[e.2.2.2]?)],_,rfl,Zb,?_,fun e' he' hm=>?_,fun x hx=>?_,fun b x hb=>?_,?_⟩
  ·rw[Qe,hE,QH,hz];rfl
  ·rw[QH,hz]at hm
   rcases Qk.mp hm with hm|hm
   ·exact QJ _ (hin e' he' hm)
   ·have h1:e'.1=e.1:=by simpa using hm
    have h2:e'=e:=by
     obtain⟨a,ha⟩:=Qax.mp he
     obtain⟨b,hb⟩:=Qax.mp he'
     have e1:(L.map (·.1))[a]? = some e.1:=by rw[Qn,ha];rfl
     have e2:(L.map (·.1))[b]? = some e.1:=by rw[Qn,hb,← h1];rfl
     have:=(List.getElem?_inj (by exact(Qi.mp e1).1) ow.nd).mp (e1.trans e2.symm)
     rw[this,hb]at ha
     exact Ql ha
    rw[h2];exact Qz _ (by simp)
  ·rcases Qk.mp hx with hx|hx
   ·exact hof x hx
   ·exact⟨e,he,by simpa using hx⟩
  ·rw[Zc (Zd hb hD)];exact s5 _ _ (s3 b x hb)
  ·rw[Zc nDl.symm];exact s5 _ _ hl3
 ·rintro σ H3 ⟨E',v2,rfl,hD3,hE,hin,hof,s3,hl3⟩
  rw[Qa,QD (Qg _)]at hE hin
  refine⟨_,rfl,q D E' H3 hD ⟨hD3,by rw[hE];exact hnd,fun x hx s hs=>?_⟩ ⟨by rw[hE];exact hper,?_,fun e he=>hin e he (hper.mem_iff.mpr (Qd he))⟩ s3⟩
  ·obtain⟨e,he,rfl⟩:=hof x hx
   exact(ow.lst e he).2.2.2 s (Qw hs)
  ·rw[hE]
   exact List.Pairwise.imp₂ (fun a b h1 h2=>by omega) hup hnd
def hdL(L:List Zx):Hd:=fun n=>((L.find? fun e=>decide (e.1=n)).bind fun e=>e.2.2.1[e.2.2.2]?).map cds
theorem ZgE:∀ {L:List Zx},(L.map (·.1)).Nodup→∀ {e:Zx},e∈L→hdL L e.1=(e.2.2.1[e.2.2.2]?).map cds
 | [],_,_,h=>by cases h
 | x::r,nd,e,h=>by
  rw[Qh,QV]at nd
  unfold hdL
  rw[Q8]
  rcases QI.mp h with rfl|h
  ·rw[decide_eq_true rfl];rfl
  ·rw[decide_eq_false (fun z:x.1=e.1=>nd.1 (by rw[z];exact Qd (f:=fun x:Zx=>x.1) h))]
   exact ZgE nd.2 h
theorem ZpL.same{L:List Zx}{E:List (Int×Option Str)}(h:ZpL L E)(nd:(L.map (·.1)).Nodup):∀n∈L.map (·.1),hdL L n=hdE E n:=fun n hn=>by
 obtain⟨e,he,rfl⟩:=Qo.mp hn
 rw[ZgE nd he]
 unfold hdE
 rw[Zk3 (h.per.nodup_iff.mpr nd) (h.hd e he)]
theorem Win.perm{hd:Hd}{N M:List Int}{v:Option Int}(h:Win hd N v)(p:N.Perm M):Win hd M v:=by
 cases v with
 | none=>exact fun n hn=>h n (p.mem_iff.mpr hn)
 | some a=>obtain⟨ha,x,hx,hb⟩:=h;exact⟨p.mem_iff.mp ha,x,hx,fun b hbm=>hb b (p.mem_iff.mpr hbm)⟩
theorem ZbA.congr{hd hd':Hd}:∀ {n:Nat} {N:List Int} {k q:Int},ZbA hd n N k q→(∀m∈N,hd' m=hd m)→ZbA hd' n N k q
 | _,_,_,_,.few h,_=>.few h
 | _,N,_,_,.none h2 a b hw,h=>by
  have h1:∀m∈lo N,hd' m=hd m:=fun m hm=>h m (Qab hm)
  have h3:∀m∈up N,hd' m=hd m:=fun m hm=>h m (Qac hm)
  exact .none h2 (a.congr h1) (b.congr h3) (hw.imp (fun w=>w.congr h1) (fun w=>w.congr h3))
 | _,N,_,_,.both h2 a b wa wb hx hy,h=>by
  have h1:∀m∈lo N,hd' m=hd m:=fun m hm=>h m (Qab hm)
  have h3:∀m∈up N,hd' m=hd m:=fun m hm=>h m (Qac hm)
  exact .both h2 (a.congr h1) (b.congr h3) (wa.congr h1) (wb.congr h3) ((h1 _ wa.1).trans hx) ((h3 _ wb.1).trans hy)
theorem ZgW{A B:List Int}(p:A.Perm B)(ha:A.Pairwise (·<·))(hb:B.Pairwise (·<·)):A=B:=List.Perm.eq_of_pairwise (fun a b _ _ h1 h2=>by omega) ha hb p
theorem Zlf{A:List Int}(h:A.Pairwise (·≤·))(nd:A.Nodup):A.Pairwise (·<·):=List.Pairwise.imp₂ (fun a b h1 h2=>by omega) h nd
def Zg9(L:List Zx)(H:Hp)(x:V):Prop:=(x=.non∧Win (hdL L) (L.map (·.1)) none)∨∃ (t:Addr) (e:Zx) (z:Str),x=.ref t∧e∈L∧e.2.2.1[e.2.2.2]? = some z∧H t=some (.tup [.int e.1,.int (e.2.2.2:Int),.str z])∧Win (hdL L) (L.map (·.1)) (some e.1)
theorem ZgN(E:List (Int×Option Str)):(kvH E).map (·.1)=(E.map (·.1)).map (Sum.inl:Int→Key):=by unfold kvH;rw[Qj,Qj];rfl
def Zke:Sp:=fun vs H Q _=>∃ (o ra ga:Addr) (L:List Zx) (nb li lo:Int),vs=[.ref o]∧Own H o ra ga L nb li lo∧∀ (x:V) (H':Hp),Zg9 L H' x→ZH H H'→Q x H'
theorem Zj9(T:Zai K mg cRow cMerge)(f_l_heads:Df P w K mg base 1 "_law_heads" ["_law_own"] Zff)(f_l_least:Df P w K mg base 1 "_law_least" ["_law_heads_here", "_law_numbers"] (Zge K)):Df P w K mg base 2 "_law_coming" ["_law_own"] Zke:=by
 refine T.t_l_coming.df Zei (fun vs H Q E h=>?_) (fun cdv f A outer s H vs Q E hr h=>?_)
 ·obtain⟨o,ra,ga,L,nb,li,lo,rfl,_⟩:=h
  rfl
 obtain⟨o,ra,ga,L,nb,li,lo,rfl,ow,q⟩:=h
 refine⟨_,#[Zf,#[Zy,1,Zei.nd,(Or.inl rfl),#[Zv,f_l_heads,hr,#[Za,‹0›,#[Ze]],(by rfl)]],#[Zf,#[Zy,2,Zei.nd,(Or.inl rfl),#[Zv,f_l_least,hr,#[Za,‹1›,#[Za,#[Zk,ZpF,(by rfl),T.b.n_sorted,boot_sorted,#[Za,‹1›,#[Ze]]],#[Ze]]],(by rfl)]],#[Zj,#[Zr,#[Zbu,#[Zo,Zbw,‹2›,#[ZW],(Zs _)],#[ZW],#[ZaC,#[Za,‹2›,#[Za,#[Zm,(ixG hr),#[Zm,(ixG hr),‹0›,#[Zz]],‹2›],#[Za,#[Zm,(ixG hr),‹1›,‹2›],#[Ze]]]]]]]]]],?_⟩
 refine⟨_,rfl,xw7 o ra ga L nb li lo ⟨rfl,ow,fun D E' H1 hD hds ho s1=>?_⟩⟩
 have hEl:E'.length=L.length:=by have:=ho.per.length_eq;rw[Qa,Qa]at this;exact this
 have hfew:=ow.few
 refine⟨_,rfl,_,rfl,D,_,E'.map (·.1),rfl,hds.at',ZgN E',by rw[Qa];omega,fun l ns hl hper hup=>?_⟩
 have sl:=Zh hl (.lst (ns.map V.int))
 have hl2:(upd H1 l (.lst (ns.map V.int))) l=some (.lst (ns.map V.int)):=Zb
 generalize upd H1 l (.lst (ns.map V.int))=H2 at sl hl2 ⊢
 have s2:=s1.trans sl
 have hnl:ns.length≤60:=by rw[hper.length_eq,Qa];omega
 refine⟨D,l,E',ns,rfl,hds.same sl,SqL.of hl2,hnl,fun n hn=>hper.mem_iff.mp hn,fun v H3 hw s3=>?_⟩
 have s03:=s2.trans s3
 have hds3:=(hds.same sl).same s3
 have hwL:Win (hdL L) (L.map (·.1)) v:=(hw.perm (hper.trans ho.per)).congr (ho.same ow.nd)
 cases v with
 | none=>exact⟨_,rfl,rfl,_,rfl,Zcq rfl (q _ H3 (.inl ⟨rfl,hwL⟩) s03)⟩
 | some a =>
  obtain⟨e,he,ea⟩:=Qo.mp hwL.1
  have ea':e.1=a:=ea
  subst ea'
  obtain⟨_,x,hx,_⟩:=hwL
  rw[ZgE ow.nd he]at hx
  cases hz:e.2.2.1[e.2.2.2]? with
  | none=>rw[hz]at hx;cases hx
  | some z =>
  have hv:Z1 (kvH E') (.inl e.1)=some (.str z):=by rw[ZfB hds.nd (ho.per.mem_iff.mpr (Qd he)),Zk3 hds.nd (ho.hd e he),hz];rfl
  have ow3:=ow.same s03
  refine⟨_,rfl,rfl,_,rfl,Zbv (fun z=>nomatch z) ⟨_,rfl,_,rfl,o,_,rfl,ZL.k' (k:=.inr "gone") ow3.at' (ZbF ..),_,rfl,ga,_,rfl,ZL.k' (k:=.inl e.1) ow3.gone (ZfD ow.nd he),_,rfl,_,rfl,D,_,rfl,ZL.k' (k:=.inl e.1) hds3.at' hv,(by show 3≤sizeLine;decide),fun t ht=>?_⟩⟩
  refine q _ _ (.inr ⟨t,e,z,rfl,he,hz,Zb,?_⟩) (s03.trans (Zh ht _))
  exact(hw.perm (hper.trans ho.per)).congr (ho.same ow.nd)
theorem Zgs(ra ga:Addr)(nb li lo v:Int):Zbn (Zaw ra ga nb li lo) (.inr "likenings") (.int v)=Zaw ra ga nb v lo:=by
 unfold Zbn Zaw
 have a1:¬ (("looks" : Str) = "likenings"):=fun h=>Zqb h.symm
 simp[Zsk,ZrT,ZrD,a1]
theorem Zhd(ra ga:Addr)(nb li lo v:Int):Zbn (Zaw ra ga nb li lo) (.inr "looks") (.int v)=Zaw ra ga nb li v:=by
 unfold Zbn Zaw
 simp[ZrC,Zsl,Zsn,Zqb]
def ZiO:Sp:=fun vs H Q _=>∃ (o ra ga:Addr) (L:List Zx) (nb li lo:Int),vs=[.ref o]∧Own H o ra ga L nb li lo∧(L.map (·.1)).Pairwise (·<·)∧(∀e∈L,e.2.1≠o) ∧
 ∀ (k q':Int) (H':Hp),ZbA (hdL L) 8 (L.map (·.1)) k q'→Own H' o ra ga L nb (li+k) (lo+q')→But o H H'→Q .non H'
theorem Own.set{H:Hp}{o ra ga:Addr}{L:List Zx}{nb li lo li' lo':Int}(h:Own H o ra ga L nb li lo)(hno:∀e∈L,e.2.1≠o)(nr:ra≠o)(ng:ga≠o):Own (upd H o (.dK (Zaw ra ga nb li' lo'))) o ra ga L nb li' lo' :=
 ⟨Zb,by rw[Zc nr];exact h.rows,by rw[Zc ng];exact h.gone,h.nd,h.few,fun e he=>let ⟨a,b⟩:=h.lst e he;⟨by rw[Zc (hno e he)];exact a,b⟩⟩
theorem Own.ne{H:Hp}{o ra ga:Addr}{L:List Zx}{nb li lo:Int}(h:Own H o ra ga L nb li lo):ra≠o∧ga≠o:=by
 constructor
 ·rintro rfl
  have:=h.rows.symm.trans h.at'
  injection this with this
  injection this with this
  cases L with
  | nil=>cases this
  | cons e r=>unfold kvR Zaw at this;injection this with this _;injection this with this _;cases this
 ·rintro rfl
  have:=h.gone.symm.trans h.at'
  injection this with this
  injection this with this
  cases L with
  | nil=>cases this
  | cons e r=>unfold kvG Zaw at this;injection this with this _;injection this with this _;cases this
theorem Zny(T:Zai K mg cRow cMerge)(f_l_heads:Df P w K mg base 1 "_law_heads" ["_law_own"] Zff)(f_l_first_play:Df P w K mg base 9 "_law_first_play" ["_law_heads_here", "_law_numbers"] (ZrZ K 8)):Df P w K mg base 10 "_law_play" ["_law_own"] ZiO:=by
 refine T.t_l_play.df Zep (fun vs H Q E h=>?_) (fun cdv f A outer s H vs Q E hr h=>?_)
 ·obtain⟨o,ra,ga,L,nb,li,lo,rfl,_⟩:=h
  rfl
 obtain⟨o,ra,ga,L,nb,li,lo,rfl,ow,hrise,hno,q⟩:=h
 refine⟨_,#[Zf,#[Zy,1,Zep.nd,(Or.inl rfl),#[Zv,f_l_heads,hr,#[Za,‹0›,#[Ze]],(by rfl)]],#[Zf,#[Z4,#[Zv,f_l_first_play,hr,#[Za,‹1›,#[Za,#[Zk,ZpF,(by rfl),T.b.n_sorted,boot_sorted,#[Za,‹1›,#[Ze]]],#[Ze]]],(by rfl)],#[gT,K,2,#[ZC,#[ZD,2,Zep.nd,(Or.inl rfl)],#[ZC,#[ZD,3,Zep.nd,(Or.inl rfl)],(@ZaF _)]]]],#[Zf,#[Z4,#[ZE,Zah,#[Zm,(ixG hr),‹0›,#[Zz]],‹2›],#[ZaS,‹0›,#[Zz],(ZdP hr)]],#[Zj,#[Z4,#[ZE,Zah,#[Zm,(ixG hr),‹0›,#[Zz]],‹3›],#[ZaS,‹0›,#[Zz],(ZdP hr)]]]]]],?_⟩
 refine⟨_,rfl,xw7 o ra ga L nb li lo ⟨rfl,ow,fun D E' H1 hD hds ho s1=>?_⟩⟩
 have hEl:E'.length=L.length:=by have:=ho.per.length_eq;rw[Qa,Qa]at this;exact this
 have hfew:=ow.few
 refine⟨_,rfl,_,rfl,D,_,E'.map (·.1),rfl,hds.at',ZgN E',by rw[Qa];omega,fun l ns hl hper hup=>?_⟩
 have sl:=Zh hl (.lst (ns.map V.int))
 have hl2:(upd H1 l (.lst (ns.map V.int))) l=some (.lst (ns.map V.int)):=Zb
 generalize upd H1 l (.lst (ns.map V.int))=H2 at sl hl2 ⊢
 have s2:=s1.trans sl
 have hp2:=hper.trans ho.per
 have hns:ns=L.map (·.1):=ZgW hp2 (Zlf hup (hp2.nodup_iff.mpr ow.nd)) hrise
 have hnl:ns.length≤60:=by rw[hper.length_eq,Qa];omega
 refine⟨D,l,E',ns,rfl,hds.same sl,SqL.of hl2,hnl,by decide,Qy hnl (by decide),fun n hn=>hper.mem_iff.mp hn,fun t k q' H3 hpl ht ht3 s3=>?_⟩
 refine⟨t,_,rfl,SqT.of ht3,rfl,_,_,rfl,_,_,rfl,rfl,?_⟩
 have s03:=s2.trans s3
 have ow3:=ow.same s03
 obtain⟨nr,ng⟩:=ow.ne
 have hol:(Zaw ra ga nb li lo).length<sizeLine:=ZB (by show 5≤1000;decide)
 refine⟨_,rfl,o,_,rfl,ZL.k' (k:=.inr "likenings") ow3.at' (ZbU ..),_,rfl,_,_,rfl,rfl,_,rfl,o,_,rfl,Zb6.k (k:=.inr "likenings") ow3.at' hol,?_⟩
 rw[Zgs]
 have ow4:=ow3.set (li':=li+k) (lo':=lo) hno nr ng
 have b4:But o H (upd H3 o (.dK (Zaw ra ga nb (li+k) lo))):=fun b x hb n=>by rw[Zc n];exact s03 b x hb
 generalize upd H3 o (.dK (Zaw ra ga nb (li+k) lo))=H4 at ow4 b4 ⊢
 have hol4:(Zaw ra ga nb (li+k) lo).length<sizeLine:=ZB (by show 5≤1000;decide)
 refine⟨_,rfl,o,_,rfl,ZL.k' (k:=.inr "looks") ow4.at' (ZfO ..),_,rfl,_,_,rfl,rfl,_,rfl,o,_,rfl,Zb6.k (k:=.inr "looks") ow4.at' hol4,?_⟩
 rw[Zhd]
 refine q k q' _ ?_ (ow4.set (li':=li+k) (lo':=lo+q') hno nr ng) (fun b x hb n=>by rw[Zc n];exact b4 b x hb n)
 rw[← hns]
 exact hpl.congr fun m hm=>ho.same ow.nd m (by rw[← hns];exact hm)
def Zat(L:List Zx):List Int:=L.map fun e=>(e.2.2.1.length:Int)-(e.2.2.2:Int)
def Zle:Sp:=fun vs H Q _=>∃ (o ra ga:Addr) (L:List Zx) (nb li lo:Int),vs=[.ref o]∧Own H o ra ga L nb li lo∧∀H':Hp,ZH H H'→Q (.int (Zat L).sum) H'
theorem Own.ne2{H:Hp}{o ra ga:Addr}{L:List Zx}{nb li lo:Int}(h:Own H o ra ga L nb li lo)(hl:L≠[]):ga≠ra:=by
 rintro rfl
 have:=h.rows.symm.trans h.gone
 injection this with this
 injection this with this
 cases L with
 | nil=>exact hl rfl
 | cons e r=>unfold kvR kvG at this;injection this with this _;injection this with _ this;cases this
theorem Znb(T:Zai K mg cRow cMerge):Df P w K mg base 1 "_law_left_of" ["_law_own"] Zle:=by
 refine T.t_l_left_of.df ZiW (fun vs H Q E h=>?_) (fun cdv f A outer s H vs Q E hr h=>?_)
 ·obtain⟨o,ra,ga,L,nb,li,lo,rfl,_⟩:=h
  rfl
 obtain⟨o,ra,ga,L,nb,li,lo,rfl,ow,q⟩:=h
 refine⟨_,#[Zj,#[Zr,#[Zk,(ZrS K),(by rfl),T.b.n_sum,boot_sum,#[Za,(@ZiQ _ _ _ #[Zdw,ZkF,(@Zk9 _ _ _ _ #[Zm,(ixG hr),#[pv,0,(Or.inr (Or.inl rfl))],#[Zz]]),(fun _ _ _ _=>#[cg,1,ZkF]),(fun _ _ _ _=>(@ZcD _)),(fun _ _ _ _=>#[ZE,ZeZ,#[Zk,(Zb1 K),(ZbJ ZkF rfl (by ac_rfl)),T.b.n_len,Qs,#[Za,#[Zm,(ixG hr),#[Zm,(ixG hr),#[cv,0,ZkF],#[Zz]],#[cw,1,ZkF]],#[Ze]]],#[Zm,(ixG hr),#[Zm,(ixG hr),#[cv,0,ZkF],#[Zz]],#[cw,1,ZkF]]])]),#[Ze]]]]],?_⟩
 obtain⟨nr,ng⟩:=ow.ne
 have hfew:=ow.few
 refine⟨ra,_,ow.rows,True.intro,_,rfl,o,_,rfl,ZL.k' (k:=.inr "rows") ow.at' (ZaI ..),ra,_,rfl,ow.rows,fun ob B hB=>?_⟩
 have hfz:(upd H ra (.frz ob (.dK (kvR L)))) ra=some (.frz ob (.dK (kvR L))):=Zb
 have k1:∀b x,H b=some x→b≠ra→(upd H ra (.frz ob (.dK (kvR L)))) b=some x:=fun b x h n=>by rw[Zc n];exact h
 generalize upd H ra (.frz ob (.dK (kvR L)))=H1 at hfz k1 hB ⊢
 refine ZkQ (d:=ra) (o:=ob) (kvs:=kvR L) (fun i zs σ H2=>(∃v:Option V,σ=[some (.ref o),v])∧zs=(Zat (L.take i)).map V.int∧i≤L.length∧H2 B=some (.lst zs)∧ZH H1 H2) ?_ (fun _ _ _ _ h=>h.2.2.2.2 _ _ hfz) ?_ ?_
 ·exact⟨⟨none,rfl⟩,rfl,Qv _,Zb,Zh hB _⟩
 ·rintro i k x zs σ H2 hkx ⟨⟨v,rfl⟩,rfl,hi,hB2,s2⟩
  unfold kvR at hkx
  rw[Qn]at hkx
  cases hu:L[i]? with
  | none=>rw[hu]at hkx;cases hkx
  | some e =>
  rw[hu]at hkx
  cases hkx
  have hil:i<L.length:=(Qi.mp hu).1
  have he:=Qw hu
  have nga:=ow.ne2 (fun z=>by rw[z]at he;cases he)
  obtain⟨la,l100,lg,_⟩:=ow.lst e he
  have nla:e.2.1≠ra:=fun z=>by rw[z,ow.rows]at la;cases la
  have ho2:=s2 _ _ (k1 o _ ow.at' nr.symm)
  refine⟨_,rfl,o,_,rfl,ZL.k' (k:=.inr "rows") ho2 (ZaI ..),_,rfl,ra,_,rfl,ZL.fz (k:=.inl e.1) (s2 _ _ hfz) (Zef ow.nd he),e.2.1,_,rfl,.inl (SqL.of (s2 _ _ (k1 _ _ la nla))),_,rfl,o,_,rfl,ZL.k' (k:=.inr "gone") ho2 (ZbF ..),_,rfl,ga,_,rfl,ZL.k' (k:=.inl e.1) (s2 _ _ (k1 _ _ ow.gone nga)) (ZfD ow.nd he),_,_,rfl,rfl,hB2,(by unfold Zat;rw[Qa,Qa,QA];exact ZB (by omega)),⟨_,rfl⟩,?_,hil,Zb,fun b x hb=>?_⟩
  ·rw[QH,hu]
   unfold Zat
   rw[Qe,Qe,Qa];rfl
  ·rw[Zc (Zd hb hB)];exact s2 b x hb
 rintro zs σ H2 ⟨⟨v,rfl⟩,rfl,_,hB2,s2⟩
 have hkl:(kvR L).length=L.length:=by unfold kvR;rw[Qa]
 rw[hkl,QD (Qg _)]at hB2
 refine⟨ob,s2 _ _ hfz,?_⟩
 have hB3:(upd H2 ra (.dK (kvR L))) B=some (.lst ((Zat L).map V.int)):=by rw[Zc (Zd hfz hB).symm];exact hB2
 have s3:ZH H (upd H2 ra (.dK (kvR L))):=fun b x hb=>by
  by_cases e:b=ra
  ·rw[e,ow.rows]at hb;rw[e,Zb];exact hb
  ·rw[Zc e];exact s2 _ _ (k1 b x hb e)
 generalize upd H2 ra (.dK (kvR L))=H3 at hB3 s3 ⊢
 refine⟨B,Zat L,rfl,SqL.of hB3,(by unfold Zat;rw[Qa];omega),fun n hn=>?_,q H3 s3⟩
 unfold Zat at hn
 obtain⟨e,he,rfl⟩:=Qo.mp hn
 obtain⟨_,l100,lg,_⟩:=ow.lst e he
 omega
theorem Zj0:([.inr "rows",.inr "gone",.inr "number",.inr "likenings",.inr "looks"]:List Key).Nodup:=by ac_rfl
structure ZcS (H:Hp) (r:Addr) (rs:List (Addr×List Str)):Prop where
 at':H r=some (.lst (rs.map fun x=>V.ref x.1))
 few:rs.length≤60
 lst:∀x∈rs,H x.1=some (.lst (x.2.map V.str))∧x.2.length≤200∧∀s∈x.2,s.length≤1000∧AZ s
theorem ZcS.same{H H':Hp}{r:Addr}{rs:List (Addr×List Str)}(h:ZcS H r rs)(s:ZH H H'):ZcS H' r rs:=⟨s _ _ h.at',h.few,fun x hx=>let ⟨a,b⟩:=h.lst x hx;⟨s _ _ a,b⟩⟩
def ZoS(L:List Zx)(rs:List (Addr×List Str)):Prop:=L.map (·.1)=ZdQ 0 rs.length∧L.map (fun e=>e.2.2)=rs.map fun x=>(x.2,0)
theorem Zjl(n:Nat):(ZdQ 0 n).Pairwise (·<·):=by
 unfold ZdQ
 exact List.Pairwise.map _ (fun a b h=>by omega) (List.pairwise_lt_range)
def ZnR:Sp:=fun vs H Q _=>∃ (r:Addr) (rs:List (Addr×List Str)),vs=[.ref r]∧ZcS H r rs ∧
 ∀ (o ra ga:Addr) (L:List Zx) (k q':Int) (H':Hp),H o=none→H ra=none→H ga=none→ga≠ra→(∀e∈L,H e.2.1=none∧e.2.1≠o)→ZoS L rs→Own H' o ra ga L (rs.length:Int) k q'→ZbA (hdL L) 8 (L.map (·.1)) k q'→ZH H H'→Q (.ref o) H'
theorem Zmh(T:Zai K mg cRow cMerge)(f_l_play:Df P w K mg base 10 "_law_play" ["_law_own"] ZiO):Df P w K mg base 11 "_law_world" ["_law_rows_here"] ZnR:=by
 refine T.t_l_world.df ZdE (fun vs H Q E h=>?_) (fun cdv f A outer s H vs Q E hr h=>?_)
 ·obtain⟨r,rs,rfl,_⟩:=h
  rfl
 obtain⟨r,rs,rfl,hrs,q⟩:=h
 refine⟨_,#[Zf,#[Zy,1,ZdE.nd,(Or.inl rfl),(@Zpk _ _ _ _ _ #[ZdW,#[Zz],(@Ze5 _ _),#[ZdW,#[Zz],(@Ze5 _ _),#[ZdW,#[Zz],#[Zk,(Zb1 K),(by rfl),T.b.n_len,Qs,#[Za,‹0›,#[Ze]]],#[ZdW,#[Zz],#[Zi],#[ZdW,#[Zz],#[Zi],(@ZoD _ _)]]]]] rfl rfl (by intro z;cases z) (by show 5≤15;decide))],#[Zf,#[ZbK,PassesOwn.never,#[iE,K,T.b.n_enumerate,#[Za,‹0›,#[Ze]]],#[gT,K,2,#[ZC,#[ZD,2,ZdE.nd,(Or.inl rfl)],#[ZC,#[ZD,3,ZdE.nd,(Or.inl rfl)],(@ZaF _)]]],#[Zf,#[Z4,#[ZaT,(Zia K),T.b.n_list,boot_list,#[Za,‹3›,#[Ze]]],#[ZaS,#[Zm,(ixG hr),‹1›,#[Zz]],‹2›,(ZdP hr)]],#[Zj,#[Z4,#[Zi],#[ZaS,#[Zm,(ixG hr),‹1›,#[Zz]],‹2›,(ZdP hr)]]]]],#[Zf,#[Z8,#[Zv,f_l_play,hr,#[Za,‹1›,#[Ze]],(by rfl)]],#[Zj,#[Zr,‹1›]]]]],?_⟩
 refine fun o ho=>?_
 have so:=Zh ho (.dK [])
 have ho1:(upd H o (.dK [])) o=some (.dK []):=Zb
 generalize upd H o (.dK [])=H1 at so ho1 ⊢
 refine fun ra hra=>?_
 have sa:=Zh hra (.dK [])
 have ha2:(upd H1 ra (.dK [])) ra=some (.dK []):=Zb
 have nao:ra≠o:=(Zd ho1 hra).symm
 generalize upd H1 ra (.dK [])=H2 at sa ha2 ⊢
 refine fun ga hga=>?_
 have sg:=Zh hga (.dK [])
 have hg3:(upd H2 ga (.dK [])) ga=some (.dK []):=Zb
 have nga:ga≠ra:=(Zd ha2 hga).symm
 have ngo:ga≠o:=(Zd (sa _ _ ho1) hga).symm
 generalize upd H2 ga (.dK [])=H3 at sg hg3 ⊢
 have s3:ZH H H3:=(so.trans sa).trans sg
 have hra0:H ra=none:=so.free hra
 have hga0:H ga=none:=(so.trans sa).free hga
 have ho3:=(sa.trans sg) _ _ ho1
 have ha3:=sg _ _ ha2
 have hmk:∀nb:Int,ZcQ [] (Zaw ra ga nb 0 0)=Zaw ra ga nb 0 0:=fun nb=>(Zil (Zaw ra ga nb 0 0) [] (show ((([]:List (Key×V))++Zaw ra ga nb 0 0).map fun kv=>kv.1).Nodup from Zj0)).trans (List.nil_append _)
 refine⟨_,rfl,r,_,rfl,.inl (SqL.of (s3 _ _ hrs.at')),ho3,Zaw ra ga (((rs.map fun x=>V.ref x.1).length:Nat):Int) 0 0,rfl,(by show 5≤15;decide),?_⟩
 rw[hmk,Qa]
 have ow4:Own (upd H3 o (.dK (Zaw ra ga (rs.length:Int) 0 0))) o ra ga [] (rs.length:Int) 0 0 :=
  ⟨Zb,by rw[Zc nao];exact ha3,by rw[Zc ngo];exact hg3,List.nodup_nil,by decide,fun e h=>by cases h⟩
 have s4:ZH H (upd H3 o (.dK (Zaw ra ga (rs.length:Int) 0 0))):=fun b x hb=>by rw[Zc (Zd hb ho)];exact s3 b x hb
 generalize upd H3 o (.dK (Zaw ra ga (rs.length:Int) 0 0))=H4 at ow4 s4 ⊢
 refine⟨_,rfl,r,_,rfl,SqL.of (s4 _ _ hrs.at'),?_⟩
 refine Zhe (K:=K) (a:=r) (xs:=rs.map fun x=>V.ref x.1) (fun i σ H5=>∃ (L:List Zx) (v2 v3:Option V),σ=[some (.ref r),some (.ref o),v2,v3]∧Own H5 o ra ga L (rs.length:Int) 0 0∧ZoS L (rs.take i)∧(∀e∈L,H e.2.1=none∧e.2.1≠o)∧ZH H H5) ⟨[],_,_,rfl,ow4,⟨rfl,rfl⟩,(fun e h=>by cases h),s4⟩ (fun i σ H5 hq=>by obtain⟨_,_,_,_,_,_,_,s5⟩:=hq;exact SqL.of (s5 _ _ hrs.at')) ?_ ?_
 ·rintro i y σ H5 p hy ⟨L,v2,v3,rfl,ow,⟨n1,n2⟩,hfr,s5⟩ hp
  rw[Qn]at hy
  cases hz:rs[i]? with
  | none=>rw[hz]at hy;cases hy
  | some x =>
  rw[hz]at hy
  cases hy
  have hil:i<rs.length:=(Qi.mp hz).1
  have hfew:=hrs.few
  obtain⟨lx,l100,laz⟩:=hrs.lst x (Qw hz)
  have hLl:L.length=i:=by have:=congrArg List.length n1;rw[Qa,Zdf,QA]at this;omega
  have hlt:∀e∈L,e.1≠(i:Int):=fun e he z=>by
   have h1:e.1∈ZdQ 0 (rs.take i).length:=by rw[← n1];exact Qd (f:=fun e:Zx=>e.1) he
   unfold ZdQ at h1
   obtain⟨j,hj,ej⟩:=Qo.mp h1
   have:=Qag.mp hj
   rw[QA]at this
   omega
  have sp:=Zh hp (.tup [.int (i:Int),.ref x.1])
  have hp6:(upd H5 p (.tup [.int (i:Int),.ref x.1])) p=some (.tup [.int (i:Int),.ref x.1]):=Zb
  have s6:=s5.trans sp
  have ow6:=ow.same sp
  generalize upd H5 p (.tup [.int (i:Int),.ref x.1])=H6 at hp6 s6 ow6 ⊢
  refine⟨p,_,rfl,SqT.of hp6,rfl,_,_,rfl,_,_,rfl,rfl,?_⟩
  refine⟨_,rfl,x.1,_,rfl,.inl (SqL.of (s6 _ _ lx)),fun c hc=>?_⟩
  have s7:=s6.trans (Zh hc (.lst (x.2.map V.str)))
  have ow7:=ow6.same (Zh hc (.lst (x.2.map V.str)))
  have hc7:(upd H6 c (.lst (x.2.map V.str))) c=some (.lst (x.2.map V.str)):=Zb
  have hc0:H c=none:=s6.free hc
  have nco:c≠o:=(Zd ow6.at' hc).symm
  have nca:c≠ra:=(Zd ow6.rows hc).symm
  have ncg:c≠ga:=(Zd ow6.gone hc).symm
  generalize upd H6 c (.lst (x.2.map V.str))=H7 at s7 ow7 hc7 ⊢
  have hsz:(kvR L).length<sizeLine:=by unfold kvR;rw[Qa];exact ZB (by omega)
  have hsz2:(kvG L).length<sizeLine:=by unfold kvG;rw[Qa];exact ZB (by omega)
  have hn1:Z1 (kvR L) (.inl (i:Int))=none:=by
   cases hv:Z1 (kvR L) (.inl (i:Int)) with
   | none=>rfl
   | some v=>obtain⟨e,he,z⟩:=Qo.mp (ZcA hv);injection z with z _;exact absurd (Sum.inl.inj z) (hlt e he)
  have hn2:Z1 (kvG L) (.inl (i:Int))=none:=by
   cases hv:Z1 (kvG L) (.inl (i:Int)) with
   | none=>rfl
   | some v=>obtain⟨e,he,z⟩:=Qo.mp (ZcA hv);injection z with z _;exact absurd (Sum.inl.inj z) (hlt e he)
  refine⟨_,rfl,o,_,rfl,ZL.k' (k:=.inr "rows") ow7.at' (ZaI ..),_,rfl,ra,_,rfl,Zb6.k (k:=.inl (i:Int)) ow7.rows hsz,?_⟩
  rw[Zb4 _ hn1,show kvR L++[((.inl (i:Int):Key),V.ref c)]=kvR (L++[((i:Int),c,x.2,0)]) by unfold kvR;rw[Qe];rfl]
  have ho8:(upd H7 ra (.dK (kvR (L++[((i:Int),c,x.2,0)])))) o=some (.dK (Zaw ra ga (rs.length:Int) 0 0)):=by rw[Zc nao.symm];exact ow7.at'
  have hg8:(upd H7 ra (.dK (kvR (L++[((i:Int),c,x.2,0)])))) ga=some (.dK (kvG L)):=by rw[Zc nga];exact ow7.gone
  refine⟨_,rfl,o,_,rfl,ZL.k' (k:=.inr "gone") ho8 (ZbF ..),_,rfl,ga,_,rfl,Zb6.k (k:=.inl (i:Int)) hg8 hsz2,?_⟩
  rw[Zb4 _ hn2,show kvG L++[((.inl (i:Int):Key),V.int 0)]=kvG (L++[((i:Int),c,x.2,0)]) by unfold kvG;rw[Qe];rfl]
  refine⟨L++[((i:Int),c,x.2,0)],_,_,rfl,⟨by rw[Zc ngo.symm];exact ho8,by rw[Zc nga.symm];exact Zb,Zb,?_,by rw[Qf,Qt];omega,fun e he=>?_⟩,⟨?_,?_⟩,fun e he=>?_,fun b y hb=>?_⟩
  ·rw[Qe]
   refine QaT.mpr ⟨ow.nd,by simp,fun u hu v hv=>?_⟩
   obtain⟨e,he,rfl⟩:=Qo.mp hu
   have:v=(i:Int):=by simpa using hv
   rw[this];exact hlt e he
  ·rcases Qk.mp he with he|he
   ·obtain⟨b1,b2⟩:=ow7.lst e he
    have e1:e.2.1≠ra:=fun z=>by rw[z,ow7.rows]at b1;cases b1
    have e2:e.2.1≠ga:=fun z=>by rw[z,ow7.gone]at b1;cases b1
    exact⟨by rw[Zc e2,Zc e1];exact b1,b2⟩
   ·rw[Qp.mp he]
    exact⟨by rw[Zc ncg,Zc nca];exact hc7,l100,Qv _,laz⟩
  ·rw[Qe,n1,QA,QA,Nat.min_eq_left (by omega),Nat.min_eq_left (by omega)]
   unfold ZdQ
   rw[List.range_succ,Qe]
   simp
  ·rw[Qe,n2,QH,hz,Qe];rfl
  ·rcases Qk.mp he with he|he
   ·exact hfr e he
   ·rw[Qp.mp he];exact⟨hc0,nco⟩
  ·rw[Zc (Zd hb hga0),Zc (Zd hb hra0)];exact s7 b y hb
 ·rintro σ H5 ⟨L,v2,v3,rfl,ow,hnew,hfr,s5⟩
  rw[Qa,QD (Qg _)]at hnew
  refine⟨_,rfl,o,ra,ga,L,_,0,0,rfl,ow,by rw[hnew.1];exact Zjl _,fun e he=>(hfr e he).2,fun k q' H6 hpl ow6 b6=>?_⟩
  rw[Int.zero_add,Int.zero_add]at ow6
  exact⟨_,rfl,q o ra ga L k q' H6 ho hra0 hga0 nga hfr hnew ow6 hpl (fun b x hb=>b6 b x (s5 b x hb) (Zd hb ho))⟩
def ZkN:Sp:=fun vs H Q _=>∃ (p l:Addr) (c most:Int) (ss:List Str),vs=[.ref p,.ref l,.int most]∧Zaz H p c∧c<2 ^ 40∧0≤most∧most≤60∧H l=some (.lst (ss.map V.str))∧1≤ss.length∧ss.length≤4∧(∀s∈ss,s.length≤24∧AZ s) ∧
 ∀ (r:Addr) (ts:List Str) (c':Int) (H':Hp),H r=none→H' r=some (.lst (ts.map V.str))→(ts.length:Int)≤most→sortedS ts=true→(∀s∈ts,s.length≤28∧AZ s)→Zaz H' p c'→c≤c'→c'≤c+600→But p H H'→Q (.ref r) H'
theorem ZoW(T:Zai K mg cRow cMerge)(f_l_keys:Df P w K mg base 4 "_law_keys" ["_law_left_here", "_law_stems_here", "_law_most"] Zkp):Df P w K mg base 5 "_law_row" ["_law_left_here", "_law_stems_here", "_law_most"] ZkN:=by
 refine T.t_l_row.df Zm1 (fun vs H Q E h=>?_) (fun cdv f A outer s H vs Q E hr h=>?_)
 ·obtain⟨p,l,c,most,ss,rfl,_⟩:=h
  rfl
 obtain⟨p,l,c,most,ss,rfl,hL,hc,h0,h60,hl,h1,h4,h24,q⟩:=h
 refine⟨_,#[Zj,#[Zr,#[Zk,(ZrE K),(by rfl),T.b.n_sorted,boot_sorted,#[Za,#[Zv,f_l_keys,hr,#[Za,‹0›,#[Za,‹1›,#[Za,‹2›,#[Ze]]]],(by rfl)],#[Ze]]]]],?_⟩
 refine⟨_,rfl,_,rfl,_,rfl,p,l,c,most,ss,rfl,hL,hc,h0,h60,hl,h1,h4,h24,fun r ts c' H1 hr0 hr1 hts h28 L1 a1 a2 B1=>?_⟩
 refine⟨r,ts,rfl,SqL.of hr1,by omega,fun l2 ts' hl2 hper hsrt=>?_⟩
 obtain⟨ob,hob⟩:=hL.here
 have hl20:H l2=none:=by
  cases e:H l2 with
  | none=>rfl
  | some x =>
   by_cases z:l2=p
   ·obtain⟨o1,ho1⟩:=L1.here;rw[z,ho1]at hl2;cases hl2
   ·have:=B1 l2 x e z;rw[this]at hl2;cases hl2
 exact q l2 ts' c' _ hl20 Zb (by rw[hper.length_eq];exact hts) hsrt (fun s hs=>h28 s (hper.mem_iff.mp hs)) (L1.new hl2) a1 a2 (B1.trans (But.same (Zh hl2 _)))
def Zk6:Sp:=fun vs H Q _=>∃ (p:Addr) (c:Int),vs=[.ref p]∧Zaz H p c∧c<2 ^ 30 ∧
 ∀ (r:Addr) (rs:List (Addr×List Str)) (c':Int) (H':Hp),H r=none→ZcS H' r rs→(∀x∈rs,H x.1=none∧x.1≠r∧x.1≠p∧sortedS x.2=true∧x.2.length≤60∧∀s∈x.2,s.length≤28)→rs.length≤12→Zaz H' p c'→c≤c'→c'≤c+10000→But p H H'→Q (.ref r) H'
theorem ZmE(T:Zai K mg cRow cMerge)(f_l_pick:Df P w K mg base 2 "_law_pick" ["_law_left_here", "_law_many_here"] Ze1)(f_l_stems:Df P w K mg base 3 "_law_stems" ["_law_left_here"] Zi2)(f_l_many:Df P w K mg base 3 "_law_many" ["_law_left_here"] ZkI)(f_l_row:Df P w K mg base 5 "_law_row" ["_law_left_here", "_law_stems_here", "_law_most"] ZkN):Df P w K mg base 6 "_law_rows" ["_law_left_here"] Zk6:=by
 refine T.t_l_rows.df ZfA (fun vs H Q E h=>?_) (fun cdv f A outer s H vs Q E hr h=>?_)
 ·obtain⟨p,c,rfl,_⟩:=h
  rfl
 obtain⟨p,c,rfl,hL,c1,q⟩:=h
 refine⟨_,#[Zf,#[Zy,1,ZfA.nd,(Or.inr rfl),#[Zv,f_l_stems,hr,#[Za,#[pv,0,(Or.inr (Or.inl rfl))],#[Ze]],(by rfl)]],#[Zf,#[Zy,2,ZfA.nd,(Or.inr rfl),#[Zm,(ixL K),#[Zab,#[Za,#[Zi],#[Za,#[Zi],#[Za,#[Zi],#[Za,#[Zi],#[Za,#[Zi],#[Za,#[Zi],#[Za,#[Zi],#[Za,#[Zi],#[Ze]]]]]]]]]],#[Zv,f_l_pick,hr,#[Za,#[pv,0,(Or.inr (Or.inl rfl))],#[Za,#[Zi],#[Ze]]],(by rfl)]]],#[Zj,#[Zr,#[Zdw,Zl1,#[Zbi,T.b.n_range,#[Za,#[Zv,f_l_many,hr,#[Za,#[pv,0,(Or.inr (Or.inl rfl))],#[Ze]],(by rfl)],#[Ze]]],(fun _ _ _ _=>#[cg,3,Zl1]),(fun _ _ _ _=>(@ZcD _)),(fun _ _ _ _=>#[Zv,f_l_row,hr,#[Za,#[cv,0,Zl1],#[Za,#[cv,1,Zl1],#[Za,#[cv,2,Zl1],#[Ze]]]],(ZbJ Zl1 rfl (by ac_rfl))])]]]]],?_⟩
 have c0:=hL.ge
 refine⟨_,rfl,p,c,rfl,hL,by omega,fun l ss c2 H1 hl0 hl1 n1 n4 h24 L1 a1 a2 B1=>?_⟩
 have npl:p≠l:=by obtain⟨o,ho⟩:=hL.here;exact Zd ho hl0
 refine⟨(by show 8≤sizeLine;decide),fun e he=>?_⟩
 have npe:p≠e:=by obtain⟨o,ho⟩:=L1.here;exact Zd ho he
 refine⟨_,rfl,p,c2,_,rfl,L1.new he,by omega,by decide,by decide,fun i H2 i0 i1 L2 B2=>?_⟩
 obtain⟨m,hm,hat⟩:=ZiV (ns:=[5,5,4,6,3,7,5,20]) i0 i1
 have he2:H2 e=some (.lst (([5,5,4,6,3,7,5,20]:List Int).map V.int)):=B2 e _ Zb npe.symm
 have hm1:0≤m∧m≤20:=by
  simp only[List.mem_cons,List.not_mem_nil,or_false]at hm
  omega
 have hl2:H2 l=some (.lst (ss.map V.str)):=B2 l _ (Zh he _ _ _ hl1) npl.symm
 have B02:But p H H2:=(B1.trans (But.same (Zh he _))).trans B2
 refine(xw4 e _ _ _ ⟨rfl,rfl,SqL.of he2,hat,?_⟩)
 refine⟨_,rfl,p,_,rfl,L2,by omega,fun mn c3 H3 m0 m12 L3 a3 a4 B3=>?_⟩
 have hl3:=B3 l _ hl2 npl.symm
 have B03:=B02.trans B3
 refine⟨_,rfl,by omega,by omega,fun D hD=>?_⟩
 have hD0:H D=none:=by
  cases e':H D with
  | none=>rfl
  | some x =>
   by_cases z:D=p
   ·obtain⟨o1,ho1⟩:=L3.here;rw[z,ho1]at hD;cases hD
   ·have:=B03 D x e' z;rw[this]at hD;cases hD
 have npD:p≠D:=by obtain⟨o,ho⟩:=L3.here;exact Zd ho hD
 have nlD:l≠D:=Zd hl3 hD
 refine ZdF (fun i zs σ H4=>(∃v:Option V,σ=[some (.ref p),some (.ref l),some (.int m),v])∧(∃rs:List (Addr×List Str),zs=rs.map (fun x=>V.ref x.1)∧rs.length=i∧∀x∈rs,H4 x.1=some (.lst (x.2.map V.str))∧H x.1=none∧x.1≠D∧x.1≠p∧sortedS x.2=true∧x.2.length≤60∧∀s∈x.2,s.length≤28∧AZ s)∧H4 D=some (.lst zs)∧(∃c4:Int,Zaz H4 p c4∧c3≤c4∧c4≤c3+600*i)∧But p H3 H4) ?_ ?_ ?_
 ·exact⟨⟨none,rfl⟩,⟨[],rfl,rfl,(fun x h=>by cases h)⟩,Zb,⟨c3,L3.new hD,by omega,by omega⟩,But.same (Zh hD _)⟩
 ·rintro i zs σ H4 hi ⟨⟨v,rfl⟩,⟨rs,rfl,hrl,hrs⟩,hD4,⟨c4,L4,b1,b2⟩,B4⟩
  have hi12:i<12:=by omega
  refine⟨_,rfl,_,rfl,_,rfl,xw5 p l c4 m ss ⟨rfl,L4,by omega,hm1.1,by omega,B4 l _ hl3 npl.symm,n1,n4,h24,fun r ts c5 H5 hr0 hr5 hts hsrt h28 L5 d1 d2 B5=>?_⟩⟩
  have hD5:=B5 D _ hD4 npD.symm
  have nDr:D≠r:=Zd hD4 hr0
  have npr:p≠r:=by obtain⟨o,ho⟩:=L4.here;exact Zd ho hr0
  have hr00:H r=none:=by
   cases e':H r with
   | none=>rfl
   | some x=>have:=B4 r x (B03 r x e' npr.symm) npr.symm;rw[this]at hr0;cases hr0
  refine⟨hD5,(by rw[Qa];exact ZB (by omega)),⟨_,rfl⟩,⟨rs++[(r,ts)],by rw[Qe];rfl,by rw[Qf,Qt];omega,fun x hx=>?_⟩,Zb,⟨c5,L5.at npD,by omega,by omega⟩,fun b x hb nb=>?_⟩
  ·rcases Qk.mp hx with hx|hx
   ·obtain⟨g1,g2,g3,g4,g5⟩:=hrs x hx
    exact⟨by rw[Zc g3];exact B5 _ _ g1 g4,g2,g3,g4,g5⟩
   ·rw[Qp.mp hx]
    exact⟨by rw[Zc nDr.symm];exact hr5,hr00,nDr.symm,npr.symm,hsrt,by show ts.length≤60;omega,h28⟩
  ·rw[Zc (Zd hb hD)];exact B5 b x (B4 b x hb nb) nb
 rintro zs σ H4 ⟨⟨v,rfl⟩,⟨rs,rfl,hrl,hrs⟩,hD4,⟨c4,L4,b1,b2⟩,B4⟩
 refine q D rs c4 H4 hD0 ⟨hD4,by omega,fun x hx=>?_⟩ (fun x hx=>?_) (by omega) L4 (by omega) (by omega) (B03.trans B4)
 ·obtain⟨g1,_,_,_,_,g6,g7⟩:=hrs x hx
  exact⟨g1,by omega,fun s hs=>⟨by have:=(g7 s hs).1;omega,(g7 s hs).2⟩⟩
 ·obtain⟨_,g2,g3,g4,g5,g6,g7⟩:=hrs x hx
  exact⟨g2,g3,g4,g5,g6,fun s hs=>(g7 s hs).1⟩
def Zej(K:PySem.W.Frag):Sp:=fun vs H Q _=>∃ (n:Int) (a:Addr) (ss:List Str),vs=[.int n,.ref a]∧SqL K H a (ss.map V.str)∧ss.length≤200∧(∀s∈ss,s.length≤1000)∧ZjG ss .non∧∀H',ZH H H'→Q .non H'
theorem ZlG(T:Zai K mg cRow cMerge)(f_first_break:Df P w K mg base 4 "first_break" ["keys"] (ZnK K)):Df P w K mg base 5 "refuse_break" ["number", "keys"] (Zej K):=by
 refine T.t_refuse_break.df ZdO (fun vs H Q E h=>?_) (fun cdv f A outer s H vs Q E hr h=>?_)
 ·obtain⟨n,a,ss,rfl,_⟩:=h
  rfl
 obtain⟨n,a,ss,rfl,hS,h200,h1000,hnon,q⟩:=h
 refine⟨_,#[Zf,#[Zy,2,ZdO.nd,(Or.inl rfl),#[Zv,f_first_break,hr,#[Za,‹1›,#[Ze]],(by rfl)]],#[Zj,#[Z3,#[Zo,Zes,‹2›,#[ZW],(Zs _)],#[Zj,(@ZiE _ _)],#[ZF]]]],?_⟩
 refine⟨_,rfl,a,ss,rfl,hS,h200,h1000,fun v H1 hb s1=>?_⟩
 have e:=ZpG hb hnon
 subst e
 exact⟨_,rfl,rfl,_,rfl,Zbr (q H1 s1)⟩
structure Zw where
 n:Int
 p:Addr
 k:Addr
 f:Addr
 ss:List Str
 g:Nat
def toL(e:Zw):Zx:=(e.n,e.p,e.ss,e.g)
def hdM(L:List Zw):Hd:=hdL (L.map toL)
def ZA(L:List Zw):List Int:=L.map (·.n)
theorem ZbB(L:List Zw):(L.map toL).map (·.1)=ZA L:=by rw[Qj];rfl
def kvM(L:List Zw):List (Key×V):=L.map fun e=>(.inl e.n,.ref e.p)
theorem ZeL{L:List Zw}(nd:(ZA L).Nodup){e:Zw}(he:e∈L):hdM L e.n=(e.ss[e.g]?).map cds :=
 ZgE (L:=L.map toL) (by rw[ZbB];exact nd) (Qd (f:=toL) he)
theorem Znj(L:List Zw):(kvM L).map (·.1)=(ZA L).map (Sum.inl:Int→Key):=by unfold kvM ZA;rw[Qj,Qj];rfl
theorem Zd3{L:List Zw}(nd:(ZA L).Nodup){e:Zw}(he:e∈L):Z1 (kvM L) (.inl e.n)=some (.ref e.p):=ZcE (by rw[Znj];exact ZkA nd) (Qd (f:=fun e:Zw=>((.inl e.n:Key),V.ref e.p)) he)
theorem Zd0{L:List Zw}{n:Int}(h:n∈ZA L):∃e∈L,e.n=n:=Qo.mp h
def mgF(rd:Addr)(nb li lo:Int)(sd:Addr)(best:V):List (Str×V):=[("rows",.ref rd),("next_number",.int nb),("likened",.int li),("looked",.int lo),("stays",.ref sd),("best",best)]
theorem ZqW:¬ (("rows" : Str) = "next_number"):=by ac_rfl
theorem ZqK:¬ (("rows" : Str) = "likened"):=by ac_rfl
theorem Zqn:¬ (("rows" : Str) = "looked"):=by ac_rfl
theorem ZqH:¬ (("rows" : Str) = "stays"):=by ac_rfl
theorem Zrc:¬ (("rows" : Str) = "best"):=by ac_rfl
theorem Zqs:¬ (("next_number" : Str) = "likened"):=by ac_rfl
theorem Zq2:¬ (("next_number" : Str) = "looked"):=by ac_rfl
theorem ZqX:¬ (("next_number" : Str) = "stays"):=by ac_rfl
theorem ZqO:¬ (("next_number" : Str) = "best"):=by ac_rfl
theorem Zqg:¬ (("likened" : Str) = "looked"):=by ac_rfl
theorem ZqL:¬ (("likened" : Str) = "stays"):=by ac_rfl
theorem ZqA:¬ (("likened" : Str) = "best"):=by ac_rfl
theorem ZqZ:¬ (("looked" : Str) = "stays"):=by ac_rfl
theorem Zqh:¬ (("looked" : Str) = "best"):=by ac_rfl
theorem Zre:¬ (("stays" : Str) = "best"):=by ac_rfl
theorem Zb7(f:Str)(v x:V)(r:List (Str×V)):Zt f v ((f,x)::r)=(f,v)::r:=by unfold Zt;rw[if_pos rfl]
theorem Zu{f g:Str}(h:¬ g=f)(v x:V)(r:List (Str×V)):Zt f v ((g,x)::r)=(g,x)::Zt f v r:=by
 show (if g=f then (g,v)::r else (g,x)::Zt f v r)=_
 rw[if_neg h]
theorem Za0(f:Str)(v:V):Zt f v []=[(f,v)]:=rfl
theorem Zbz(rd:Addr)(nb li lo:Int)(sd:Addr)(best:V):mgF rd nb li lo sd best=Zt "best" best (Zt "stays" (.ref sd) (Zt "looked" (.int lo) (Zt "likened" (.int li) (Zt "next_number" (.int nb) (Zt "rows" (.ref rd) []))))):=by
 rw[Za0,Zu ZqW,Za0,Zu ZqK,Zu Zqs,Za0,Zu Zqn,Zu Zq2,Zu Zqg,Za0,Zu ZqH,Zu ZqX,Zu ZqL,Zu ZqZ,Za0,Zu Zrc,Zu ZqO,Zu ZqA,Zu Zqh,Zu Zre,Za0]
 rfl
section
variable (rd:Addr) (nb li lo:Int) (sd:Addr) (best:V)
theorem ZaB:(mgF rd nb li lo sd best).lookup ("rows" : Str)=some (.ref rd):=by
 rw[Zbz,Zl,if_neg Zrc,Zl,if_neg ZqH,Zl,if_neg Zqn,Zl,if_neg ZqK,Zl,if_neg ZqW,Zl,if_pos rfl]
theorem ZgC:(mgF rd nb li lo sd best).lookup ("next_number" : Str)=some (.int nb):=by
 rw[Zbz,Zl,if_neg ZqO,Zl,if_neg ZqX,Zl,if_neg Zq2,Zl,if_neg Zqs,Zl,if_pos rfl]
theorem Zed:(mgF rd nb li lo sd best).lookup ("likened" : Str)=some (.int li):=by
 rw[Zbz,Zl,if_neg ZqA,Zl,if_neg ZqL,Zl,if_neg Zqg,Zl,if_pos rfl]
theorem Zgy:(mgF rd nb li lo sd best).lookup ("looked" : Str)=some (.int lo):=by
 rw[Zbz,Zl,if_neg Zqh,Zl,if_neg ZqZ,Zl,if_pos rfl]
theorem Zdq:(mgF rd nb li lo sd best).lookup ("stays" : Str)=some (.ref sd):=by
 rw[Zbz,Zl,if_neg Zre,Zl,if_pos rfl]
theorem Zeg:(mgF rd nb li lo sd best).lookup ("best" : Str)=some best:=by
 rw[Zbz,Zl,if_pos rfl]
theorem Zba{m:Str}(h1:¬ m = "rows")(h2:¬ m = "next_number")(h3:¬ m = "likened")(h4:¬ m = "looked")(h5:¬ m = "stays")(h6:¬ m = "best"):(mgF rd nb li lo sd best).lookup m=none:=by
 rw[Zbz,Zl,if_neg h6,Zl,if_neg h5,Zl,if_neg h4,Zl,if_neg h3,Zl,if_neg h2,Zl,if_neg h1]
 rfl
theorem Zhc(v:Int):Zt "next_number" (.int v) (mgF rd nb li lo sd best)=mgF rd v li lo sd best:=by unfold mgF;rw[Zu ZqW,Zb7]
theorem ZdH(v:Int):Zt "likened" (.int v) (mgF rd nb li lo sd best)=mgF rd nb v lo sd best:=by unfold mgF;rw[Zu ZqK,Zu Zqs,Zb7]
theorem ZgK(v:Int):Zt "looked" (.int v) (mgF rd nb li lo sd best)=mgF rd nb li v sd best:=by unfold mgF;rw[Zu Zqn,Zu Zq2,Zu Zqg,Zb7]
theorem Zhs(x:Addr):Zt "stays" (.ref x) (mgF rd nb li lo sd best)=mgF rd nb li lo x best:=by unfold mgF;rw[Zu ZqH,Zu ZqX,Zu ZqL,Zu ZqZ,Zb7]
theorem Zcf(x:V):Zt "best" x (mgF rd nb li lo sd best)=mgF rd nb li lo sd x:=by unfold mgF;rw[Zu Zrc,Zu ZqO,Zu ZqA,Zu Zqh,Zu Zre,Zb7]
theorem Zch:(mgF rd nb li lo sd best).length<1000:=by show 6<1000;decide
end
structure ZdI (C:Addr) (H:Hp) (e:Zw):Prop where
 at':ZgO C H e.p e.k e.f e.ss e.g
 le:e.g≤e.ss.length
 len:e.ss.length≤200
 srt:sortedS e.ss=true
 str:∀s∈e.ss,s.length≤1000∧AZ s
structure ZP (cR cM:Addr) (H:Hp) (m rd sd:Addr) (L:List Zw) (s:StL) (nb li lo:Int) (best:V):Prop where
 ob:∃dx,H m=some (.ins cM dx (mgF rd nb li lo sd best))
 rows:H rd=some (.dK (kvM L))
 stays:H sd=some (.dT (kvS s))
 ats:AtS H s
 each:∀e∈L,ZdI cR H e
 up:Zag (ZA L)
 pd:(L.map (·.p)).Nodup
 few:L.length≤60
 sfew:s.length≤200
def Fp(m rd sd:Addr)(L:List Zw)(b:Addr):Prop:=b=m∨b=rd∨b=sd∨∃e∈L,b=e.p∨b=e.k∨b=e.f
theorem ZdI.keep{C:Addr}{H H':Hp}{e:Zw}(h:ZdI C H e)(hp:H' e.p=H e.p)(hk:H' e.k=H e.k)(hf:H' e.f=H e.f):ZdI C H' e :=
 ⟨⟨by rw[hp];exact h.at'.ob,by rw[hk];exact h.at'.ks,by rw[hf];exact h.at'.fs⟩,h.le,h.len,h.srt,h.str⟩
section
variable {cR cM:Addr} {H H':Hp} {m rd sd:Addr} {L:List Zw} {s:StL} {nb li lo:Int} {best:V}
theorem ZP.nd(h:ZP cR cM H m rd sd L s nb li lo best):(ZA L).Nodup:=ZcX h.up
theorem ZP.keep(h:ZP cR cM H m rd sd L s nb li lo best)(k:∀b o,H b=some o→Fp m rd sd L b∨(∃xs,o=.tup xs)→H' b=some o):ZP cR cM H' m rd sd L s nb li lo best:=by
 refine⟨?_,k _ _ h.rows (.inl (.inr (.inl rfl))),k _ _ h.stays (.inl (.inr (.inr (.inl rfl)))),fun e he t ht=>k _ _ (h.ats e he t ht) (.inr ⟨_,rfl⟩),fun e he=>?_,h.up,h.pd,h.few,h.sfew⟩
 ·obtain⟨dx,hd⟩:=h.ob
  exact⟨dx,k _ _ hd (.inl (.inl rfl))⟩
 ·have r:=h.each e he
  obtain⟨dx,hd⟩:=r.at'.ob
  exact⟨⟨⟨dx,k _ _ hd (.inl (.inr (.inr (.inr ⟨e,he,.inl rfl⟩))))⟩,k _ _ r.at'.ks (.inl (.inr (.inr (.inr ⟨e,he,.inr (.inl rfl)⟩)))),k _ _ r.at'.fs (.inl (.inr (.inr (.inr ⟨e,he,.inr (.inr rfl)⟩))))⟩,r.le,r.len,r.srt,r.str⟩
theorem ZP.same(h:ZP cR cM H m rd sd L s nb li lo best)(k:ZH H H'):ZP cR cM H' m rd sd L s nb li lo best:=h.keep fun b o hb _=>k b o hb
theorem ZP.ne_p(h:ZP cR cM H m rd sd L s nb li lo best){e:Zw}(he:e∈L):m≠e.p∧m≠e.k∧m≠e.f:=by
 obtain⟨dx,hd⟩:=h.ob
 have r:=h.each e he
 obtain⟨dy,hy⟩:=r.at'.ob
 refine⟨fun z=>?_,fun z=>?_,fun z=>?_⟩
 ·rw[z,hy]at hd
  injection hd with hd
  injection hd with _ _ hd
  have a:=Zcp e.k e.f (e.g:Int)
  rw[hd,Zba _ _ _ _ _ _ (by ac_rfl) (by ac_rfl) (by ac_rfl) (by ac_rfl) (by ac_rfl) (by ac_rfl)]at a
  cases a
 ·rw[z,r.at'.ks]at hd;cases hd
 ·rw[z,r.at'.fs]at hd;cases hd
theorem ZP.ne_m(h:ZP cR cM H m rd sd L s nb li lo best):m≠rd∧m≠sd∧rd≠sd:=by
 obtain⟨dx,hd⟩:=h.ob
 refine⟨fun z=>?_,fun z=>?_,fun z=>?_⟩
 ·rw[z,h.rows]at hd;cases hd
 ·rw[z,h.stays]at hd;cases hd
 ·have:=h.rows;rw[z,h.stays]at this;cases this
theorem ZP.ne_sd(h:ZP cR cM H m rd sd L s nb li lo best){e:Zw}(he:e∈L):sd≠e.p∧sd≠e.k∧sd≠e.f∧rd≠e.p∧rd≠e.k∧rd≠e.f:=by
 have r:=h.each e he
 obtain⟨dy,hy⟩:=r.at'.ob
 have a:=h.stays
 have b:=h.rows
 refine⟨fun z=>?_,fun z=>?_,fun z=>?_,fun z=>?_,fun z=>?_,fun z=>?_⟩
 ·rw[z,hy]at a;cases a
 ·rw[z,r.at'.ks]at a;cases a
 ·rw[z,r.at'.fs]at a;cases a
 ·rw[z,hy]at b;cases b
 ·rw[z,r.at'.ks]at b;cases b
 ·rw[z,r.at'.fs]at b;cases b
theorem ZP.obj(h:ZP cR cM H m rd sd L s nb li lo best){nb' li' lo':Int}{best':V}{dx:Addr}:ZP cR cM (upd H m (.ins cM dx (mgF rd nb' li' lo' sd best'))) m rd sd L s nb' li' lo' best':=by
 obtain⟨n1,n2,n3⟩:=h.ne_m
 obtain⟨dy,hd⟩:=h.ob
 refine⟨⟨dx,Zb⟩,by rw[Zc n1.symm];exact h.rows,by rw[Zc n2.symm];exact h.stays,fun e he t ht=>?_,fun e he=>?_,h.up,h.pd,h.few,h.sfew⟩
 ·have:=h.ats e he t ht
  rw[Zc (fun z=>by rw[z,hd]at this;cases this)];exact this
 ·obtain⟨a,b,c⟩:=h.ne_p he
  exact(h.each e he).keep (Zc a.symm) (Zc b.symm) (Zc c.symm)
theorem ZP.put(h:ZP cR cM H m rd sd L s nb li lo best){k:Int×Int}{v:Option (Addr×Int×Int)}(hv:∀t,v=some t→H t.1=some (.tup [.int t.2.1,.int t.2.2]))(hs:(ZcY s k v).length≤200):ZP cR cM (upd H sd (.dT (kvS (ZcY s k v)))) m rd sd L (ZcY s k v) nb li lo best:=by
 obtain⟨n1,n2,n3⟩:=h.ne_m
 obtain⟨dy,hd⟩:=h.ob
 have tup:∀a xs,H a=some (.tup xs)→(upd H sd (.dT (kvS (ZcY s k v)))) a=some (.tup xs):=fun a xs ha=>by rw[Zc (fun z=>by rw[z,h.stays]at ha;cases ha)];exact ha
 refine⟨⟨dy,by rw[Zc n2];exact hd⟩,by rw[Zc n3];exact h.rows,Zb,(h.ats.put hv).mono tup,fun e he=>?_,h.up,h.pd,h.few,hs⟩
 obtain⟨a,b,c,_⟩:=h.ne_sd he
 exact(h.each e he).keep (Zc a.symm) (Zc b.symm) (Zc c.symm)
end
def Zkj(cR cM:Addr):Sp:=fun vs H Q _=>∃ (m rd sd:Addr) (L:List Zw) (s:StL) (nb li lo:Int) (best:V) (a b:Zw) (x y:Str) (far:Nat),vs=[.ref m,.int a.n,.int b.n,.int (far:Int)]∧ZP cR cM H m rd sd L s nb li lo best∧a∈L∧b∈L∧a.ss[a.g]? = some x∧b.ss[b.g]? = some y∧far≤lcp (cds x) (cds y) ∧
 ∀ (t:Addr) (wi lz:Int) (H':Hp),(Btr (cds x) a.n (cds y) b.n∧wi=a.n∧lz=b.n∨¬ Btr (cds x) a.n (cds y) b.n∧wi=b.n∧lz=a.n)→H t=none→H' t=some (.tup [.int wi,.int lz,.int ((lcp (cds x) (cds y):Nat):Int)]) →
  ZP cR cM H' m rd sd L s nb (li+1) (lo+((lcp (cds x) (cds y):Nat)-(far:Int)+1)) best→(∀b o,H b=some o→b≠m→H' b=some o)→Q (.ref t) H'
theorem ZdZ{ss:List Str}{g:Nat}{x:Str}(h:ss[g]? = some x):ZdM ss g=.str x:=by unfold ZdM;rw[h]
theorem Za9(k f:Addr)(g:Int):(Zbj k f g).lookup ("head" : Str)=none:=Zfb _ _ _ (by ac_rfl) (by ac_rfl) (by ac_rfl)
theorem Zpe(T:Zai K mg cRow cMerge)(f_Row_head:Mf P w K mg base 2 cRow "head" ["self"] (ZeO cRow))(f_liken_from:Df P w K mg base 2 "liken_from" ["one", "other", "far"] Zee):Mf P w K mg base 3 cMerge "meet" ["self", "one", "other", "far"] (Zkj cRow cMerge):=by
 refine T.t_Merge_meet.mf ZbT (fun vs H Q E h=>?_) (fun cdv f A outer s H vs Q E hr h=>?_)
 ·obtain⟨m,rd,sd,L,s,nb,li,lo,best,a,b,x,y,far,rfl,_⟩:=h
  rfl
 obtain⟨m,rd,sd,L,s,nb,li,lo,best,a,b,x,y,far,rfl,M,ha,hb,hx,hy,hf,q⟩:=h
 refine⟨_,#[Zf,#[Z4,#[Zv,f_liken_from,hr,#[Za,#[Zav,f_Row_head,T.cl_Row,hr,#[Zm,(ixG hr),#[ZO,‹0›],‹1›]],#[Za,#[Zav,f_Row_head,T.cl_Row,hr,#[Zm,(ixG hr),#[ZO,‹0›],‹2›]],#[Za,‹3›,#[Ze]]]],(by rfl)],#[gT,K,3,#[ZC,#[ZD,4,ZbT.nd,(Or.inl rfl)],#[ZC,#[ZD,5,ZbT.nd,(Or.inl rfl)],#[ZC,#[ZD,6,ZbT.nd,(Or.inl rfl)],(@ZaF _)]]]]],#[Zf,#[Zc1,‹0›,#[Zi],Zgz],#[Zf,#[Zc1,‹0›,‹6›,Zgz],#[Zf,#[Z3,(@PW.pt _ _ _ #[Zig,#[Zo,ZeF,‹4›,#[Zi],(Zs _)],(@ZfN _ _ _ _ (@PW.pt _ _ _ #[ZbQ,#[Zo,Za7,‹4›,#[Zi],(Zs _)],#[ZbH,#[Zo,ZeF,‹1›,‹2›,(Zs _)]]]))]),#[Zj,#[Zr,#[ZaC,#[Za,‹1›,#[Za,‹2›,#[Za,‹5›,#[Ze]]]]]]],#[ZF]],#[Zj,#[Zr,#[ZaC,#[Za,‹2›,#[Za,‹1›,#[Za,‹5›,#[Ze]]]]]]]]]]],?_⟩
 obtain⟨dx,hm⟩:=M.ob
 have Ra:=M.each a ha
 have Rb:=M.each b hb
 obtain⟨da,hpa⟩:=Ra.at'.ob
 obtain⟨db,hpb⟩:=Rb.at'.ob
 have lx:=(Ra.str x (Qw hx)).1
 have ly:=(Rb.str y (Qw hy)).1
 refine⟨_,rfl,xw5 m cMerge dx _ _ ⟨rfl,hm,T.cl_Merge,T.na_Merge_rows,ZaB ..,_,rfl,rd,_,rfl,ZL.k' (k:=.inl a.n) M.rows (Zd3 M.nd ha),a.p,da,_,rfl,hpa,Za9 ..,xw5 a.p a.k a.f a.ss a.g ⟨rfl,Ra.at',?_⟩⟩⟩
 refine⟨_,rfl,xw5 m cMerge dx _ _ ⟨rfl,hm,T.cl_Merge,T.na_Merge_rows,ZaB ..,_,rfl,rd,_,rfl,ZL.k' (k:=.inl b.n) M.rows (Zd3 M.nd hb),b.p,db,_,rfl,hpb,Za9 ..,xw5 b.p b.k b.f b.ss b.g ⟨rfl,Rb.at',?_⟩⟩⟩
 rw[ZdZ hx,ZdZ hy]
 refine⟨_,rfl,x,y,far,rfl,lx,ly,hf,fun t ht=>?_⟩
 have s1:=Zh ht (.tup [.int (ZQ (cds x) (cds y)),.int (lcp (cds x) (cds y):Nat),.int ((lcp (cds x) (cds y):Nat)-(far:Int)+1)])
 have ht1:(upd H t (.tup [.int (ZQ (cds x) (cds y)),.int (lcp (cds x) (cds y):Nat),.int ((lcp (cds x) (cds y):Nat)-(far:Int)+1)])) t=some (.tup [.int (ZQ (cds x) (cds y)),.int (lcp (cds x) (cds y):Nat),.int ((lcp (cds x) (cds y):Nat)-(far:Int)+1)]):=Zb
 generalize upd H t (.tup [.int (ZQ (cds x) (cds y)),.int (lcp (cds x) (cds y):Nat),.int ((lcp (cds x) (cds y):Nat)-(far:Int)+1)])=H1 at s1 ht1 ⊢
 have M1:=M.same s1
 refine⟨t,_,rfl,SqT.of ht1,rfl,_,_,rfl,_,_,rfl,_,_,rfl,rfl,?_⟩
 have hm1:=s1 _ _ hm
 refine⟨_,rfl,xw5 m cMerge dx _ _ ⟨rfl,hm1,T.cl_Merge,T.na_Merge_likened,Zed ..,_,_,rfl,rfl,dx,_,hm1,Zch ..,?_⟩⟩
 rw[ZdH]
 have M2:=M1.obj (nb':=nb) (li':=li+1) (lo':=lo) (best':=best) (dx:=dx)
 have k2:∀b o,H b=some o→b≠m→(upd H1 m (.ins cMerge dx (mgF rd nb (li+1) lo sd best))) b=some o:=fun b o hb n=>by rw[Zc n];exact s1 b o hb
 have hm2:(upd H1 m (.ins cMerge dx (mgF rd nb (li+1) lo sd best))) m=some (.ins cMerge dx (mgF rd nb (li+1) lo sd best)):=Zb
 generalize upd H1 m (.ins cMerge dx (mgF rd nb (li+1) lo sd best))=H2 at M2 k2 hm2 ⊢
 refine⟨_,rfl,xw5 m cMerge dx _ _ ⟨rfl,hm2,T.cl_Merge,T.na_Merge_looked,Zgy ..,_,rfl,_,_,rfl,rfl,dx,_,hm2,Zch ..,?_⟩⟩
 rw[ZgK]
 have M3:=M2.obj (nb':=nb) (li':=li+1) (lo':=lo+((lcp (cds x) (cds y):Nat)-(far:Int)+1)) (best':=best) (dx:=dx)
 have k3:∀b o,H b=some o→b≠m→(upd H2 m (.ins cMerge dx (mgF rd nb (li+1) (lo+((lcp (cds x) (cds y):Nat)-(far:Int)+1)) sd best))) b=some o:=fun b o hb n=>by rw[Zc n];exact k2 b o hb n
 generalize upd H2 m (.ins cMerge dx (mgF rd nb (li+1) (lo+((lcp (cds x) (cds y):Nat)-(far:Int)+1)) sd best))=H3 at M3 k3 ⊢
 have fin:∀wi lz:Int,(Btr (cds x) a.n (cds y) b.n∧wi=a.n∧lz=b.n∨¬ Btr (cds x) a.n (cds y) b.n∧wi=b.n∧lz=a.n)→∀t2,H3 t2=none→Q (.ref t2) (upd H3 t2 (.tup [.int wi,.int lz,.int ((lcp (cds x) (cds y):Nat):Int)])):=fun wi lz hw t2 ht2=>by
  have hfree:H t2=none:=by
   cases e:H t2 with
   | none=>rfl
   | some o =>
    by_cases z:t2=m
    ·obtain⟨dz,hz⟩:=M3.ob;rw[z,hz]at ht2;cases ht2
    ·rw[k3 t2 o e z]at ht2;cases ht2
  exact q t2 wi lz _ hw hfree Zb (M3.same (Zh ht2 _)) (fun b o hb n=>Zh ht2 _ _ _ (k3 b o hb n))
 have sz3:3≤sizeLine:=by decide
 refine⟨_,rfl,_,_,rfl,rfl,_,rfl,Zbc (fun d=>?_) (fun d=>?_)⟩
 ·have d':ZQ (cds x) (cds y)<0:=of_decide_eq_true d
  exact ZfP ⟨_,rfl,_,rfl,_,rfl,sz3,fun t2 ht2=>fin _ _ (.inl ⟨.inl d',rfl,rfl⟩) t2 ht2⟩
 have d1:¬ ZQ (cds x) (cds y)<0:=fun z=>d (decide_eq_true z)
 refine⟨_,rfl,rfl,_,rfl,Zbc (fun e=>?_) (fun e=>?_)⟩
 ·have e':ZQ (cds x) (cds y)=0:=by have:=of_decide_eq_true e;injection this
  refine⟨_,rfl,_,rfl,_,_,rfl,rfl,_,rfl,Zbc (fun g=>?_) (fun g=>?_)⟩
  ·have g':a.n<b.n:=of_decide_eq_true g
   exact⟨_,rfl,_,rfl,_,rfl,sz3,fun t2 ht2=>fin _ _ (.inl ⟨.inr ⟨e',g'⟩,rfl,rfl⟩) t2 ht2⟩
  ·have g':¬ a.n<b.n:=fun z=>g (decide_eq_true z)
   exact⟨_,rfl,_,rfl,_,rfl,sz3,fun t2 ht2=>fin _ _ (.inr ⟨fun z=>by rcases z with z|z;exact d1 z;exact g' z.2,rfl,rfl⟩) t2 ht2⟩
 ·have e':ZQ (cds x) (cds y)≠0:=fun z=>e (decide_eq_true (by rw[z]))
  exact Zbr ⟨_,rfl,_,rfl,_,rfl,sz3,fun t2 ht2=>fin _ _ (.inr ⟨fun z=>by rcases z with z|z;exact d1 z;exact e' z.1,rfl,rfl⟩) t2 ht2⟩
theorem ZP.cast{cR cM:Addr}{H:Hp}{m rd sd:Addr}{L:List Zw}{s:StL}{nb li lo li' lo':Int}{best:V}(h:ZP cR cM H m rd sd L s nb li lo best)(e1:li=li')(e2:lo=lo'):ZP cR cM H m rd sd L s nb li' lo' best:=by subst e1;subst e2;exact h
theorem ZjA{N:List Int}(h:N≠[]):atI (N.map V.int) (-1)=some (.int (N.getLastD 0)):=by
 have e:N=N.dropLast++[N.getLast h]:=(List.dropLast_concat_getLast h).symm
 have:=Znk (N.dropLast.map V.int) (V.int (N.getLast h))
 rw[Qal,QaJ h]
 conv=>lhs;rw[e,Qe]
 exact this
theorem ZjV{N:List Int}(h:N≠[]):atI (N.map V.int) 0=some (.int (N.headD 0)):=by
 cases N with
 | nil=>exact absurd rfl h
 | cons a r=>exact Zam (j:=0) rfl
theorem ZeX(rd:Addr)(nb li lo:Int)(sd:Addr)(best:V):(mgF rd nb li lo sd best).lookup ("play" : Str)=none:=Zba _ _ _ _ _ _ (by ac_rfl) (by ac_rfl) (by ac_rfl) (by ac_rfl) (by ac_rfl) (by ac_rfl)
theorem Zhg(rd:Addr)(nb li lo:Int)(sd:Addr)(best:V):(mgF rd nb li lo sd best).lookup ("meet" : Str)=none:=Zba _ _ _ _ _ _ (by ac_rfl) (by ac_rfl) (by ac_rfl) (by ac_rfl) (by ac_rfl) (by ac_rfl)
def ZnL(K:PySem.W.Frag)(cR cM:Addr)(n:Nat):Sp:=fun vs H Q _=>∃ (m rd sd:Addr) (L:List Zw) (s:StL) (nb li lo:Int) (best:V) (l:Addr) (N:List Int),vs=[.ref m,.ref l]∧ZP cR cM H m rd sd L s nb li lo best∧H l=some (.lst (N.map V.int))∧1≤N.length∧N.length≤60∧0<n∧N.length≤2 ^ (n-1)∧(∀x∈N,x∈ZA L)∧Zag N∧(∀k,Ze2 n N k→Z0 s k=none)∧s.length+N.length≤200 ∧
 ∀ (w:Option Int) (s':StL) (k q:Int) (H':Hp),Win (hdM L) N w→ZeD (hdM L) s' n N→ZbA (hdM L) n N k q→(∀j,¬ Ze2 n N j→Z0 s' j=Z0 s j)→s'.length+1≤s.length+N.length→ZP cR cM H' m rd sd L s' nb (li+k) (lo+q) best→(∀b o,H b=some o→b≠m→b≠sd→H' b=some o)→Q (Zcg w) H'
theorem Zli(T:Zai K mg cRow cMerge)(f_Row_head:Mf P w K mg base 2 cRow "head" ["self"] (ZeO cRow))(f_halves:Df P w K mg base 1 "halves" ["numbers"] (Zb8 K true))(f_Merge_meet:Mf P w K mg base 3 cMerge "meet" ["self", "one", "other", "far"] (Zkj cRow cMerge)) :
  ∀n:Nat,Mf P w K mg base (n+4) cMerge "play" ["self", "numbers"] (ZnL K cRow cMerge n)
 | 0=>by
  refine T.t_Merge_play.mf Zan (fun vs H Q E h=>?_) (fun cdv f A outer s H vs Q E hr h=>?_)
  ·obtain⟨m,rd,sd,L,s,nb,li,lo,best,l,N,rfl,_⟩:=h
   rfl
  obtain⟨m,rd,sd,L,s,nb,li,lo,best,l,N,rfl,_,_,_,_,z,_⟩:=h
  exact absurd z (by omega)
 | n+1=>by
  have f_Merge_play:=Zli T f_Row_head f_halves f_Merge_meet n
  refine T.t_Merge_play.mf Zan (fun vs H Q E h=>?_) (fun cdv f A outer s H vs Q E hr h=>?_)
  ·obtain⟨m,rd,sd,L,s,nb,li,lo,best,l,N,rfl,_⟩:=h
   rfl
  obtain⟨m,rd,sd,L,s,nb,li,lo',best,l,N,rfl,M,hl,h1,h60,_,hp2,hmem,hup,hfree,hsz,q⟩:=h
  rw[Qaa]at hp2
  refine⟨_,#[Zf,#[Z3,#[Zo,Za7,#[Zk,(Zb1 K),(by rfl),T.b.n_len,Qs,#[Za,‹1›,#[Ze]]],#[Zi],(Zs _)],#[Zj,#[Zr,#[Zbu,#[Zo,Zbw,#[Zav,f_Row_head,T.cl_Row,hr,#[Zm,(ixG hr),#[ZO,‹0›],#[Zm,(ixL K),‹1›,#[Zi]]]],#[ZW],(Zs _)],#[ZW],#[Zm,(ixL K),‹1›,#[Zi]]]]],#[ZF]],#[Zf,#[Z4,#[Zv,f_halves,hr,#[Za,‹1›,#[Ze]],(by rfl)],#[gT,K,2,#[ZC,#[ZD,2,Zan.nd,(Or.inl rfl)],#[ZC,#[ZD,3,Zan.nd,(Or.inl rfl)],(@ZaF _)]]]],#[Zf,#[Zy,4,Zan.nd,(Or.inl rfl),#[ZcG,f_Merge_play,T.cl_Merge,hr,‹0›,#[Za,‹2›,#[Ze]]]],#[Zf,#[Zy,5,Zan.nd,(Or.inl rfl),#[ZcG,f_Merge_play,T.cl_Merge,hr,‹0›,#[Za,‹3›,#[Ze]]]],#[Zf,#[Z3,#[Zo,Zbw,‹4›,#[ZW],(Zs _)],#[Zj,#[Zr,‹5›]],#[ZF]],#[Zf,#[Z3,#[Zo,Zbw,‹5›,#[ZW],(Zs _)],#[Zj,#[Zr,‹4›]],#[ZF]],#[Zf,#[Z4,#[ZcG,f_Merge_meet,T.cl_Merge,hr,‹0›,#[Za,‹4›,#[Za,‹5›,#[Za,#[Zi],#[Ze]]]]],#[gT,K,3,#[ZC,#[ZD,6,Zan.nd,(Or.inl rfl)],#[ZC,#[ZD,7,Zan.nd,(Or.inl rfl)],#[ZC,#[ZD,8,Zan.nd,(Or.inl rfl)],(@ZaF _)]]]]],#[Zf,#[Z4,#[ZaC,#[Za,‹7›,#[Za,‹8›,#[Ze]]]],#[ZaS,#[ZO,‹0›],#[ZaC,#[Za,#[Zm,(ixL K),‹1›,#[Zi]],#[Za,#[Zm,(ixL K),‹1›,#[Zg1,ZeU,#[Zi]]],#[Ze]]]],(ZdP hr)]],#[Zj,#[Zr,‹6›]]]]]]]]]],?_⟩
  obtain⟨dx,hm⟩:=M.ob
  have hN:N≠[]:=Zak h1
  have nml:l≠m:=fun z=>by rw[z,hm]at hl;cases hl
  have nsl:l≠sd:=fun z=>by rw[z,M.stays]at hl;cases hl
  have hll:(((N.map V.int).length:Nat):Int)=(N.length:Int):=by rw[Qa]
  refine⟨_,rfl,l,_,rfl,.inl (SqL.of hl),rfl,_,rfl,Zbc (fun d=>?_) (fun d=>?_)⟩
  ·have hone:N.length=1:=by have:=of_decide_eq_true d;injection this with this;rw[hll]at this;omega
   obtain⟨n0,rfl⟩:∃n0,N=[n0]:=QaU.mp hone
   obtain⟨e,he,rfl⟩:=Zd0 (hmem n0 (by simp))
   have R:=M.each e he
   obtain⟨dp,hp⟩:=R.at'.ob
   have hat:atI (([e.n]:List Int).map V.int) 0=some (.int e.n):=Zam (j:=0) rfl
   refine⟨_,rfl,xw5 m cMerge dx _ _ ⟨rfl,hm,T.cl_Merge,T.na_Merge_rows,ZaB ..,_,rfl,xw4 l _ _ _ ⟨rfl,rfl,SqL.of hl,hat,rd,_,rfl,ZL.k' (k:=.inl e.n) M.rows (Zd3 M.nd he),e.p,dp,_,rfl,hp,Za9 ..,xw5 e.p e.k e.f e.ss e.g ⟨rfl,R.at',rfl,_,rfl,?_⟩⟩⟩⟩
   have hst:ZeD (hdM L) s (n+1) [e.n]:=fun h2=>by simp at h2
   have hpl:ZbA (hdM L) (n+1) [e.n] 0 0:=.few (by show 1<2;decide)
   have hwin:=Win.sing (hd:=hdM L) (n:=e.n)
   have hd:=ZeL M.nd he
   have M':=M.cast (li':=li+0) (lo':=lo'+0) (by omega) (by omega)
   cases hx:e.ss[e.g]? with
   | none =>
    rw[show ZdM e.ss e.g=.non by unfold ZdM;rw[hx]]
    rw[hd,hx]at hwin
    exact Zcq rfl (q none s 0 0 H hwin hst hpl (fun _ _=>rfl) (Qg _) M' (fun b o h _ _=>h))
   | some x =>
    rw[ZdZ hx]
    rw[hd,hx]at hwin
    exact Zbv (fun z=>nomatch z) ⟨_,rfl,xw4 l _ _ _ ⟨rfl,rfl,SqL.of hl,hat,q (some e.n) s 0 0 H hwin hst hpl (fun _ _=>rfl) (Qg _) M' (fun b o h _ _=>h)⟩⟩
  have hge:2≤N.length:=by
   have:¬ ((N.length:Int)=1):=fun z=>d (decide_eq_true (by rw[hll,z]))
   omega
  have hn1:1≤n:=by
   cases n with
   | zero=>simp at hp2;omega
   | succ m=>omega
  have hpow:2 ^ n=2*2 ^ (n-1):=by
   obtain⟨m,rfl⟩:∃m,n=m+1:=⟨n-1,by omega⟩
   rw[QaR,Qaa];omega
  have hlo:(lo N).length≤2 ^ (n-1)∧(lo N).length≤60:=by unfold lo mid;rw[QA];omega
  have hupl:(up N).length≤2 ^ (n-1)∧(up N).length≤60:=by unfold up mid;rw[Q0];omega
  have hsum:(lo N).length+(up N).length=N.length:=by rw[← Qf,Zcc]
  have hmlo:∀x∈lo N,x∈ZA L:=fun x hx=>hmem x (Qab hx)
  have hmup:∀x∈up N,x∈ZA L:=fun x hx=>hmem x (Qac hx)
  refine⟨_,rfl,l,N,rfl,SqL.of hl,by omega,fun t f r H2 ht hf hr' nfr ht2 hf2 hr2 s2 ntf ntr=>?_⟩
  rw[if_pos rfl]at ht2
  rw[Zkb]at hf2
  rw[ZkO]at hr2
  refine⟨t,_,rfl,SqT.of ht2,rfl,_,_,rfl,_,_,rfl,rfl,?_⟩
  have M2:=M.same s2
  have hm2:=s2 _ _ hm
  have nfm:r≠m:=(Zd hm hr').symm
  have nfs:r≠sd:=(Zd M.stays hr').symm
  refine⟨_,rfl,m,dx,_,rfl,hm2,ZeX ..,_,rfl,m,rd,sd,L,s,nb,li,lo',best,f,lo N,rfl,M2,hf2,(ZcR hge).2,hlo.2,hn1,hlo.1,hmlo,Zeq hup,fun k hk=>hfree k ⟨hge,.inl hk⟩,by omega,fun w1 s1 k1 q1 H3 W1 S1 P1 o1 l1 M3 b3=>?_⟩
  have hr3:=b3 _ _ hr2 nfm nfs
  obtain⟨dx3,hm3⟩:=M3.ob
  refine⟨_,rfl,m,dx3,_,rfl,hm3,ZeX ..,_,rfl,m,rd,sd,L,s1,nb,_,_,best,r,up N,rfl,M3,hr3,(Zdy hge).2,hupl.2,hn1,hupl.1,hmup,ZeA hup,fun k hk=>?_,by omega,fun w2 s2' k2 q2 H4 W2 S2 P2 o2 l2 M4 b4=>?_⟩
  ·rw[o1 k ((Ziy hup hge hk).2 n)]
   exact hfree k ⟨hge,.inr (.inl hk)⟩
  have key_n:¬ Ze2 n (lo N) (ZS N)∧¬ Ze2 n (up N) (ZS N):=⟨fun z=>(ZiI hup hge z).1 rfl,fun z=>(Ziy hup hge z).1 rfl⟩
  have S1':ZeD (hdM L) s2' n (lo N):=S1.congr n _ (fun _ _=>rfl) (fun k hk=>o2 k ((ZiI hup hge hk).2 n))
  have hk2:Z0 s2' (ZS N)=none:=by rw[o2 _ key_n.2,o1 _ key_n.1];exact hfree _ ⟨hge,.inr (.inr rfl)⟩
  have oth:∀j,¬ Ze2 (n+1) N j→Z0 s2' j=Z0 s j:=fun j hj=>by
   rw[o2 j (fun z=>hj ⟨hge,.inr (.inl z)⟩),o1 j (fun z=>hj ⟨hge,.inl z⟩)]
  have b04:∀b o,H b=some o→b≠m→b≠sd→H4 b=some o:=fun b o hb n1 n2=>b4 b o (b3 b o (s2 b o hb) n1 n2) n1 n2
  have none':∀wn,Win (hdM L) N wn→(Win (hdM L) (lo N) none∨Win (hdM L) (up N) none)→Q (Zcg wn) H4:=fun wn hw hno=>by
   refine q wn s2' (k1+k2) (q1+q2) H4 hw (fun _=>⟨S1',S2,fun a b x y wa wb _ _=>?_,fun _=>.inl hk2⟩) (.none hge P1 P2 hno) oth (by omega) (M4.cast (by omega) (by omega)) b04
   rcases hno with z|z
   ·exact nomatch z.one wa
   ·exact nomatch z.one wb
  cases w1 with
  | none=>exact⟨_,rfl,rfl,_,rfl,Zcq rfl ⟨_,rfl,none' w2 (by have:=Win.right W1 W2;rwa [Zcc]at this) (.inl W1)⟩⟩
  | some a =>
  refine⟨_,rfl,rfl,_,rfl,Zbv (fun z=>nomatch z) ?_⟩
  cases w2 with
  | none=>exact⟨_,rfl,rfl,_,rfl,Zcq rfl ⟨_,rfl,none' (some a) (by have:=Win.left W1 W2;rwa [Zcc]at this) (.inr W2)⟩⟩
  | some b =>
  refine⟨_,rfl,rfl,_,rfl,Zbv (fun z=>nomatch z) ?_⟩
  obtain⟨ea,hea,ea'⟩:=Zd0 (hmlo a W1.1)
  obtain⟨eb,heb,eb'⟩:=Zd0 (hmup b W2.1)
  subst ea'
  subst eb'
  have hda:=ZeL M.nd hea
  have hdb:=ZeL M.nd heb
  cases hx:ea.ss[ea.g]? with
  | none=>obtain⟨_,z,hz,_⟩:=W1;rw[hda,hx]at hz;cases hz
  | some x =>
  cases hy:eb.ss[eb.g]? with
  | none=>obtain⟨_,z,hz,_⟩:=W2;rw[hdb,hy]at hz;cases hz
  | some y =>
  rw[hx]at hda
  rw[hy]at hdb
  obtain⟨dx4,hm4⟩:=M4.ob
  refine⟨_,rfl,m,dx4,_,rfl,hm4,Zhg ..,_,rfl,_,rfl,m,rd,sd,L,s2',nb,_,_,best,ea,eb,x,y,0,rfl,M4,hea,heb,hx,hy,Qv _,fun t5 wi lz H5 hw ht5 ht5' M5 b5=>?_⟩
  refine⟨t5,_,rfl,SqT.of ht5',rfl,_,_,rfl,_,_,rfl,_,_,rfl,rfl,?_⟩
  have sz2:2≤sizeLine:=by decide
  refine⟨_,rfl,_,rfl,sz2,fun t6 ht6=>?_⟩
  have s6:=Zh ht6 (.tup [.int lz,.int ((lcp (cds x) (cds y):Nat):Int)])
  have ht66:(upd H5 t6 (.tup [.int lz,.int ((lcp (cds x) (cds y):Nat):Int)])) t6=some (.tup [.int lz,.int ((lcp (cds x) (cds y):Nat):Int)]):=Zb
  have M6:=M5.same s6
  generalize upd H5 t6 (.tup [.int lz,.int ((lcp (cds x) (cds y):Nat):Int)])=H6 at s6 ht66 M6 ⊢
  obtain⟨dx6,hm6⟩:=M6.ob
  have hl6:H6 l=some (.lst (N.map V.int)):=s6 _ _ (b5 _ _ (b04 _ _ hl nml nsl) nml)
  refine⟨_,rfl,xw5 m cMerge dx6 _ _ ⟨rfl,hm6,T.cl_Merge,T.na_Merge_stays,Zdq ..,_,rfl,xw4 l _ _ _ ⟨rfl,rfl,SqL.of hl6,ZjV hN,_,rfl,_,rfl,xw4 l _ _ _ ⟨rfl,rfl,SqL.of hl6,ZjA hN,sz2,fun t7 ht7=>?_⟩⟩⟩⟩
  have s7:=Zh ht7 (.tup [.int (N.headD 0),.int (N.getLastD 0)])
  have ht77:(upd H6 t7 (.tup [.int (N.headD 0),.int (N.getLastD 0)])) t7=some (.tup ([.inl (ZS N).1,.inl (ZS N).2].map kV)):=Zb
  have M7:=M6.same s7
  generalize upd H6 t7 (.tup [.int (N.headD 0),.int (N.getLastD 0)])=H7 at s7 ht77 M7 ⊢
  have hsl:(kvS s2').length<sizeLine:=by unfold kvS;rw[Qa];exact ZB (by omega)
  refine⟨sd,_,rfl,Zb6.t (k:=[.inl (ZS N).1,.inl (ZS N).2]) M7.stays ht77 hsl,?_⟩
  rw[show V.ref t6=stV (some (t6,lz,((lcp (cds x) (cds y):Nat):Int))) from rfl,Zgm]
  have hpl:=ZnJ s2' (ZS N) (some (t6,lz,((lcp (cds x) (cds y):Nat):Int)))
  have l1':=(ZcR hge).2
  have M8:=M7.put (k:=ZS N) (v:=some (t6,lz,((lcp (cds x) (cds y):Nat):Int))) (fun t ht=>by injection ht with ht;rw[← ht];exact s7 _ _ ht66) (by omega)
  have hne:ea.n≠eb.n:=fun z=>by have:=ZM hup W1.1 W2.1;omega
  have b08:∀b o,H b=some o→b≠m→b≠sd→(upd H7 sd (.dT (kvS (ZcY s2' (ZS N) (some (t6,lz,((lcp (cds x) (cds y):Nat):Int))))))) b=some o:=fun b o hb n1 n2=>by
   rw[Zc n2];exact s7 _ _ (s6 _ _ (b5 _ _ (b04 _ _ hb n1 n2) n1))
  have hwin:Win (hdM L) N (some wi):=by
   rcases hw with⟨w0,rfl,_⟩|⟨w0,rfl,_⟩
   ·have:=Win.both W1 W2 hda hdb w0;rwa [Zcc]at this
   ·have:=Win.both' W1 W2 hda hdb ((Btr.total hne).resolve_left w0);rwa [Zcc]at this
  have hlz:lz=if ZQ (cds x) (cds y)<0∨(ZQ (cds x) (cds y)=0∧ea.n<eb.n) then eb.n else ea.n:=by
   rcases hw with⟨w0,_,rfl⟩|⟨w0,_,rfl⟩
   ·exact(if_pos (show ZQ (cds x) (cds y)<0∨(ZQ (cds x) (cds y)=0∧ea.n<eb.n) from w0)).symm
   ·exact(if_neg (show ¬ (ZQ (cds x) (cds y)<0∨(ZQ (cds x) (cds y)=0∧ea.n<eb.n)) from w0)).symm
  refine⟨_,rfl,q (some wi) _ (k1+k2+1) (q1+q2+(lcp (cds x) (cds y):Nat)+1) _ hwin (fun _=>⟨?_,?_,?_,fun hno=>?_⟩) (.both hge P1 P2 W1 W2 hda hdb) (fun j hj=>?_) (by omega) (M8.cast (by omega) (by omega)) b08⟩
  ·exact S1'.congr n _ (fun _ _=>rfl) (fun k hk=>by rw[Za3,if_neg (ZiI hup hge hk).1])
  ·exact S2.congr n _ (fun _ _=>rfl) (fun k hk=>by rw[Za3,if_neg (Ziy hup hge hk).1])
  ·intro a' b' x' y' wa wb hxa hyb
   have e1:=Ql (wa.one W1)
   have e2:=Ql (wb.one W2)
   subst e1
   subst e2
   have e3:=Ql (hxa.symm.trans hda)
   have e4:=Ql (hyb.symm.trans hdb)
   subst e3
   subst e4
   exact⟨t6,by rw[Za3,if_pos rfl,hlz]⟩
  ·rcases hno with z|z
   ·exact nomatch z.one W1
   ·exact nomatch z.one W2
  ·rw[Za3,if_neg (fun z=>hj ⟨hge,.inr (.inr z)⟩)]
   exact oth j hj
theorem ZdI.mono{C:Addr}{H H':Hp}{e:Zw}(h:ZdI C H e)(k:∀b o,H b=some o→b=e.p∨b=e.k∨b=e.f→H' b=some o):ZdI C H' e:=by
 obtain⟨dx,hd⟩:=h.at'.ob
 exact⟨⟨⟨dx,k _ _ hd (.inl rfl)⟩,k _ _ h.at'.ks (.inr (.inl rfl)),k _ _ h.at'.fs (.inr (.inr rfl))⟩,h.le,h.len,h.srt,h.str⟩
theorem ZmK(L:List Zw):(kvM L).map (fun kv=>kV kv.1)=(ZA L).map V.int:=by unfold kvM ZA;rw[Qj,Qj];rfl
theorem ZnM{n:Nat}{N:List Int}{k:Int×Int}(_:Ze2 n N k):Z0 [] k=none:=rfl
def Zdn(cR cM:Addr):Sp:=fun vs H Q _=>∃ (m rd sd:Addr) (L:List Zw) (s:StL) (nb li lo:Int) (best:V),vs=[.ref m]∧ZP cR cM H m rd sd L s nb li lo best ∧
 ∀ (sd':Addr) (s':StL) (w:Option Int) (k q:Int) (H':Hp),H sd'=none→Win (hdM L) (ZA L) w→ZeD (hdM L) s' 8 (ZA L)→ZbA (hdM L) 8 (ZA L) k q→ZP cR cM H' m rd sd' L s' nb (li+k) (lo+q) (Zcg w)→(∀b o,H b=some o→b≠m→H' b=some o)→Q .non H'
theorem Zi8(T:Zai K mg cRow cMerge)(f_Merge_play:Mf P w K mg base 12 cMerge "play" ["self", "numbers"] (ZnL K cRow cMerge 8)):Mf P w K mg base 13 cMerge "play_all" ["self"] (Zdn cRow cMerge):=by
 refine T.t_Merge_play_all.mf Ze6 (fun vs H Q E h=>?_) (fun cdv f A outer s H vs Q E hr h=>?_)
 ·obtain⟨m,rd,sd,L,s,nb,li,lo,best,rfl,_⟩:=h
  rfl
 obtain⟨m,rd,sd,L,s,nb,li,lo',best,rfl,M,q⟩:=h
 refine⟨_,#[Zf,#[ZbC,‹0›,(@Zlg _ _)],#[Zj,#[ZbC,‹0›,#[Zbu,#[Zo,ZfZ,#[Zk,ZrA,(by rfl),T.b.n_len,Qs,#[Za,#[ZO,‹0›],#[Ze]]],#[Zi],(Zs _)],#[ZcG,f_Merge_play,T.cl_Merge,hr,‹0›,#[Za,#[ZaT,Zrk,T.b.n_list,boot_list,#[Za,#[ZO,‹0›],#[Ze]]],#[Ze]]],#[ZW]]]]],?_⟩
 refine fun sd' hsd=>?_
 obtain⟨dx,hm⟩:=M.ob
 have s1:=Zh hsd (.dT [])
 have hs1:(upd H sd' (.dT [])) sd'=some (.dT (kvS [])):=Zb
 have M1:=M.same s1
 have hm1:=s1 _ _ hm
 have nms:m≠sd':=Zd hm hsd
 have nrs:rd≠sd':=Zd M.rows hsd
 generalize upd H sd' (.dT [])=H1 at s1 hs1 M1 hm1 ⊢
 refine⟨_,rfl,xw4 m cMerge dx _ ⟨rfl,hm1,T.cl_Merge,T.na_Merge_stays,Zch ..,?_⟩⟩
 rw[Zhs]
 obtain⟨n1,n2,n3⟩:=M.ne_m
 have M2:ZP cRow cMerge (upd H1 m (.ins cMerge dx (mgF rd nb li lo' sd' best))) m rd sd' L [] nb li lo' best:=by
  refine⟨⟨dx,Zb⟩,by rw[Zc n1.symm];exact M1.rows,by rw[Zc nms.symm];exact hs1,(fun e he=>by cases he),fun e he=>?_,M.up,M.pd,M.few,by decide⟩
  obtain⟨a,b,c⟩:=M1.ne_p he
  exact(M1.each e he).keep (Zc a.symm) (Zc b.symm) (Zc c.symm)
 have k2:∀b o,H b=some o→b≠m→(upd H1 m (.ins cMerge dx (mgF rd nb li lo' sd' best))) b=some o:=fun b o hb n=>by rw[Zc n];exact s1 b o hb
 generalize upd H1 m (.ins cMerge dx (mgF rd nb li lo' sd' best))=H2 at M2 k2 ⊢
 obtain⟨dx2,hm2⟩:=M2.ob
 have hlen:(((kvM L).length:Nat):Int)=(L.length:Int):=by unfold kvM;rw[Qa]
 have hnl:(ZA L).length=L.length:=by unfold ZA;rw[Qa]
 have hfew:=M.few
 refine⟨_,rfl,xw5 m cMerge dx2 _ _ ⟨rfl,hm2,T.cl_Merge,T.na_Merge_rows,ZaB ..,rd,_,rfl,M2.rows,_,_,rfl,rfl,_,rfl,Zbc (fun d=>?_) (fun d=>?_)⟩⟩
 ·have hpos:0<L.length:=by have:(0:Int)<(((kvM L).length:Nat):Int):=of_decide_eq_true d;omega
  refine⟨_,rfl,m,dx2,_,rfl,hm2,ZeX ..,_,rfl,xw5 m cMerge dx2 _ _ ⟨rfl,hm2,T.cl_Merge,T.na_Merge_rows,ZaB ..,rd,_,rfl,M2.rows,fun l hl=>?_⟩⟩
  rw[ZmK]
  have s3:=Zh hl (.lst ((ZA L).map V.int))
  have hl3:(upd H2 l (.lst ((ZA L).map V.int))) l=some (.lst ((ZA L).map V.int)):=Zb
  have M3:=M2.same s3
  generalize upd H2 l (.lst ((ZA L).map V.int))=H3 at s3 hl3 M3 ⊢
  refine⟨m,rd,sd',L,[],nb,li,lo',best,l,ZA L,rfl,M3,hl3,by omega,by omega,by decide,Qy (by omega:(ZA L).length≤60) (by decide),fun x hx=>hx,M.up,fun k hk=>ZnM hk,by show 0+_≤_;omega,fun w1 s' k q' H4 W S Pl _ _ M4 b4=>?_⟩
  obtain⟨dx4,hm4⟩:=M4.ob
  refine⟨_,rfl,xw4 m cMerge dx4 _ ⟨rfl,hm4,T.cl_Merge,T.na_Merge_best,Zch ..,?_⟩⟩
  rw[Zcf]
  exact q sd' s' w1 k q' _ hsd W S Pl M4.obj (fun b o hb n=>by rw[Zc n];exact b4 b o (s3 b o (k2 b o hb n)) n (Zd hb hsd))
 ·have hnil:L=[]:=by
   cases L with
   | nil=>rfl
   | cons e r=>exact absurd (decide_eq_true (show (0:Int)<(((kvM (e::r)).length:Nat):Int) by rw[hlen];simp only[List.length_cons];omega)) d
  subst hnil
  refine⟨_,rfl,xw4 m cMerge dx2 _ ⟨rfl,hm2,T.cl_Merge,T.na_Merge_best,Zch ..,?_⟩⟩
  rw[Zcf]
  exact q sd' [] none 0 0 _ hsd (Win.nil _) (fun h2=>absurd h2 (by decide)) (.few (by decide)) (M2.obj.cast (by omega) (by omega)) (fun b o hb n=>by rw[Zc n];exact k2 b o hb n)
def Zof(L:List Zw)(rs:List (Addr×List Str)):Prop:=ZA L=ZdQ 0 rs.length∧L.map (fun e=>(e.ss,e.g))=rs.map fun x=>(x.2,0)
def ZjN(cR cM:Addr):Sp:=fun vs H Q _=>∃ (m dx r:Addr) (rs:List (Addr×List Str)),vs=[.ref m,.ref r]∧H m=some (.ins cM dx [])∧ZcS H r rs∧(∀x∈rs,sortedS x.2=true) ∧
 ∀ (rd sd:Addr) (L:List Zw) (s:StL) (w:Option Int) (k q:Int) (H':Hp),ZP cR cM H' m rd sd L s (rs.length:Int) k q (Zcg w)→Zof L rs→Win (hdM L) (ZA L) w→ZeD (hdM L) s 8 (ZA L)→ZbA (hdM L) 8 (ZA L) k q→(∀b,Fp m rd sd L b→b=m∨H b=none)→(∀b o,H b=some o→b≠m→H' b=some o)→Q .non H'
theorem ZbE(rd:Addr)(nb li lo:Int)(sd:Addr)(best:V):(mgF rd nb li lo sd best).lookup ("play_all" : Str)=none:=Zba _ _ _ _ _ _ (by ac_rfl) (by ac_rfl) (by ac_rfl) (by ac_rfl) (by ac_rfl) (by ac_rfl)
theorem Ziz{ss:List Str}(h:sortedS ss=true):ZjG ss .non:=by
 refine .inl ⟨rfl,fun i x y hx hy=>?_⟩
 have:=ZhG h i y x hy hx
 have:=Zb2 (cds y) (cds x)
 omega
theorem Zhm(T:Zai K mg cRow cMerge)(f_refuse_break:Df P w K mg base 5 "refuse_break" ["number", "keys"] (Zej K))(f_Row_init:Cf P w K mg base 4 cRow "Row" ["self", "keys"] (Zfz cRow))(f_Merge_play_all:Mf P w K mg base 13 cMerge "play_all" ["self"] (Zdn cRow cMerge)):Cf P w K mg base 14 cMerge "Merge" ["self", "rows"] (ZjN cRow cMerge):=by
 refine T.t_Merge_init.cf ZcU (fun vs H Q E h=>?_) (fun cdv f A outer s H vs Q E hr h=>?_)
 ·obtain⟨m,dx,r,rs,rfl,_⟩:=h
  rfl
 obtain⟨m,dx,r,rs,rfl,hm,hrs,hsrt,q⟩:=h
 refine⟨_,#[Zf,#[ZbC,‹0›,(@Ze5 _ _)],#[Zf,#[ZbK,PassesOwn.never,#[iE,K,T.b.n_enumerate,#[Za,‹1›,#[Ze]]],#[gT,K,2,#[ZC,#[ZD,2,ZcU.nd,(Or.inl rfl)],#[ZC,#[ZD,3,ZcU.nd,(Or.inl rfl)],(@ZaF _)]]],#[Zf,#[Z8,#[Zv,f_refuse_break,hr,#[Za,‹2›,#[Za,‹3›,#[Ze]]],(by rfl)]],#[Zj,#[Z4,#[Zn2,f_Row_init,hr,#[Za,‹3›,#[Ze]]],#[ZaS,#[ZO,‹0›],‹2›,(ZdP hr)]]]]],#[Zf,#[ZbC,‹0›,#[Zk,(Zb1 K),(by rfl),T.b.n_len,Qs,#[Za,‹1›,#[Ze]]]],#[Zf,#[ZbC,‹0›,#[Zi]],#[Zf,#[ZbC,‹0›,#[Zi]],#[Zf,#[ZbC,‹0›,(@Zlg _ _)],#[Zf,#[ZbC,‹0›,#[ZW]],#[Zj,#[Z8,#[Zav,f_Merge_play_all,T.cl_Merge,hr,‹0›]]]]]]]]]],?_⟩
 refine fun rd hrd=>?_
 have nmr:m≠rd:=Zd hm hrd
 have s1:=Zh hrd (.dK [])
 have hr1:(upd H rd (.dK [])) rd=some (.dK (kvM [])):=Zb
 have hm1:=s1 _ _ hm
 generalize upd H rd (.dK [])=H1 at s1 hr1 hm1 ⊢
 refine⟨_,rfl,xw4 m cMerge dx _ ⟨rfl,hm1,T.cl_Merge,T.na_Merge_rows,(by show 0<1000;decide),?_⟩⟩
 have nrm:r≠m:=fun z=>by have:=hrs.at';rw[z,hm]at this;cases this
 have k2:∀b o,H b=some o→b≠m→(upd H1 m (.ins cMerge dx (Zt "rows" (.ref rd) []))) b=some o:=fun b o hb n=>by rw[Zc n];exact s1 b o hb
 have hm2:(upd H1 m (.ins cMerge dx (Zt "rows" (.ref rd) []))) m=some (.ins cMerge dx (Zt "rows" (.ref rd) [])):=Zb
 have hr2:(upd H1 m (.ins cMerge dx (Zt "rows" (.ref rd) []))) rd=some (.dK (kvM [])):=by rw[Zc nmr.symm];exact hr1
 generalize upd H1 m (.ins cMerge dx (Zt "rows" (.ref rd) []))=H2 at k2 hm2 hr2 ⊢
 have hfew:=hrs.few
 have lkr:(Zt "rows" (.ref rd) []).lookup ("rows" : Str)=some (V.ref rd):=by rw[Zl,if_pos rfl]
 refine⟨_,rfl,r,_,rfl,SqL.of (k2 _ _ hrs.at' nrm),?_⟩
 refine Zhe (K:=K) (a:=r) (xs:=rs.map fun x=>V.ref x.1) (fun i σ H5=>∃ (L:List Zw) (v2 v3:Option V),σ=[some (.ref m),some (.ref r),v2,v3]∧H5 m=some (.ins cMerge dx (Zt "rows" (.ref rd) []))∧H5 rd=some (.dK (kvM L))∧(∀e∈L,ZdI cRow H5 e)∧Zof L (rs.take i)∧(L.map (·.p)).Nodup∧(∀e∈L,H e.p=none∧H e.k=none∧H e.f=none)∧(∀b o,H b=some o→b≠m→H5 b=some o)) ⟨[],_,_,rfl,hm2,hr2,(fun e h=>by cases h),⟨rfl,rfl⟩,List.nodup_nil,(fun e h=>by cases h),k2⟩ (fun i σ H5 hq=>by obtain⟨_,_,_,_,_,_,_,_,_,_,k5⟩:=hq;exact SqL.of (k5 _ _ hrs.at' nrm)) ?_ ?_
 ·rintro i y σ H5 p hy ⟨L,v2,v3,rfl,hm5,hr5,each,⟨n1,n2⟩,pd,hfr,k5⟩ hp
  rw[Qn]at hy
  cases hz:rs[i]? with
  | none=>rw[hz]at hy;cases hy
  | some x =>
  rw[hz]at hy
  cases hy
  have hil:i<rs.length:=(Qi.mp hz).1
  have hxm:=Qw hz
  obtain⟨lx,l100,laz⟩:=hrs.lst x hxm
  have nxm:x.1≠m:=fun z=>by rw[z,hm]at lx;cases lx
  have hLl:L.length=i:=by have:=congrArg List.length n1;unfold ZA at this;rw[Qa,Zdf,QA]at this;omega
  have hlt:∀e∈L,e.n≠(i:Int):=fun e he z=>by
   have h1:e.n∈ZdQ 0 (rs.take i).length:=by rw[← n1];exact Qd (f:=fun e:Zw=>e.n) he
   unfold ZdQ at h1
   obtain⟨j,hj,ej⟩:=Qo.mp h1
   have:=Qag.mp hj
   rw[QA]at this
   omega
  have sp:=Zh hp (.tup [.int (i:Int),.ref x.1])
  have hp6:(upd H5 p (.tup [.int (i:Int),.ref x.1])) p=some (.tup [.int (i:Int),.ref x.1]):=Zb
  generalize upd H5 p (.tup [.int (i:Int),.ref x.1])=H6 at sp hp6 ⊢
  refine⟨p,_,rfl,SqT.of hp6,rfl,_,_,rfl,_,_,rfl,rfl,?_⟩
  have lx6:H6 x.1=some (.lst (x.2.map V.str)):=sp _ _ (k5 _ _ lx nxm)
  refine⟨_,rfl,_,rfl,(i:Int),x.1,x.2,rfl,SqL.of lx6,by omega,fun s hs=>(laz s hs).1,Ziz (hsrt x hxm),fun H7 s7=>?_⟩
  have s57:=sp.trans s7
  refine⟨_,rfl,fun u dy hu hdy ndu=>?_⟩
  have hu5:H5 u=none:=s57.free hu
  have lx8:(upd (upd H7 dy (.own u)) u (.ins cRow dy [])) x.1=some (.lst (x.2.map V.str)):=by
   have:=s7 _ _ lx6
   rw[Zc (Zd this hu),Zc (Zd this hdy)];exact this
  have s8:∀b o,H5 b=some o→(upd (upd H7 dy (.own u)) u (.ins cRow dy [])) b=some o:=fun b o hb=>by
   have:=s57 _ _ hb
   rw[Zc (Zd this hu),Zc (Zd this hdy)];exact this
  have hu8:(upd (upd H7 dy (.own u)) u (.ins cRow dy [])) u=some (.ins cRow dy []):=Zb
  generalize upd (upd H7 dy (.own u)) u (.ins cRow dy [])=H8 at lx8 s8 hu8 ⊢
  refine⟨u,dy,x.1,x.2,rfl,hu8,lx8,l100,fun s hs=>(laz s hs).1,fun k f H9 hk hf nkf R k9=>⟨rfl,?_⟩⟩
  have s9:∀b o,H5 b=some o→H9 b=some o:=fun b o hb=>k9 b o (s8 b o hb) (Zd hb hu5)
  have free5:∀b,H8 b=none→H5 b=none:=fun b hb=>by
   cases e:H5 b with
   | none=>rfl
   | some o=>rw[s8 b o e]at hb;cases hb
  have free0:∀b,b≠m→H5 b=none→H b=none:=fun b nb hb=>by
   cases e:H b with
   | none=>rfl
   | some o=>rw[k5 b o e nb]at hb;cases hb
  have num:u≠m:=fun z=>by rw[z,hm5]at hu5;cases hu5
  have nkm:k≠m:=fun z=>by have:=free5 k hk;rw[z,hm5]at this;cases this
  have nfm:f≠m:=fun z=>by have:=free5 f hf;rw[z,hm5]at this;cases this
  have nrd:rd≠u∧rd≠k∧rd≠f:=⟨Zd hr5 hu5,Zd hr5 (free5 k hk),Zd hr5 (free5 f hf)⟩
  have hsz:(kvM L).length<sizeLine:=by unfold kvM;rw[Qa];exact ZB (by omega)
  have hn1:Z1 (kvM L) (.inl (i:Int))=none:=by
   cases hv:Z1 (kvM L) (.inl (i:Int)) with
   | none=>rfl
   | some v=>obtain⟨e,he,z⟩:=Qo.mp (ZcA hv);injection z with z _;exact absurd (Sum.inl.inj z) (hlt e he)
  refine⟨_,rfl,xw5 m cMerge dx _ _ ⟨rfl,s9 _ _ hm5,T.cl_Merge,T.na_Merge_rows,lkr,_,rfl,rd,_,rfl,Zb6.k (k:=.inl (i:Int)) (s9 _ _ hr5) hsz,?_⟩⟩
  rw[Zb4 _ hn1,show kvM L++[((.inl (i:Int):Key),V.ref u)]=kvM (L++[⟨(i:Int),u,k,f,x.2,0⟩]) by unfold kvM;rw[Qe];rfl]
  refine⟨L++[⟨(i:Int),u,k,f,x.2,0⟩],_,_,rfl,by rw[Zc nmr];exact s9 _ _ hm5,Zb,fun e he=>?_,⟨?_,?_⟩,?_,fun e he=>?_,fun b o hb n=>?_⟩
  ·rcases Qk.mp he with he|he
   ·have re:=each e he
    obtain⟨de,hde⟩:=re.at'.ob
    refine re.mono fun b o hb hor=>?_
    have nb:b≠rd:=fun z=>by
     rw[z,hr5]at hb
     injection hb with hb
     subst hb
     rcases hor with z2|z2|z2
     ·rw[← z2,z,hr5]at hde;cases hde
     ·have:=re.at'.ks;rw[← z2,z,hr5]at this;cases this
     ·have:=re.at'.fs;rw[← z2,z,hr5]at this;cases this
    rw[Zc nb];exact s9 b o hb
   ·rw[Qp.mp he]
    refine ZdI.keep (H:=H9) ⟨R,Qv _,l100,hsrt x hxm,laz⟩ (Zc nrd.1.symm) (Zc nrd.2.1.symm) (Zc nrd.2.2.symm)
  ·unfold ZA at n1 ⊢
   rw[Qe,n1,QA,QA,Nat.min_eq_left (by omega),Nat.min_eq_left (by omega)]
   unfold ZdQ
   rw[List.range_succ,Qe]
   simp
  ·rw[Qe,n2,QH,hz,Qe];rfl
  ·rw[Qe]
   refine QaT.mpr ⟨pd,by simp,fun a ha b hb=>?_⟩
   obtain⟨e,he,rfl⟩:=Qo.mp ha
   have:b=u:=by simpa using hb
   rw[this]
   obtain⟨de,hde⟩:=(each e he).at'.ob
   exact Zd hde hu5
  ·rcases Qk.mp he with he|he
   ·exact hfr e he
   ·rw[Qp.mp he]
    exact⟨free0 u num hu5,free0 k nkm (free5 k hk),free0 f nfm (free5 f hf)⟩
  ·rw[Zc (Zd hb hrd)];exact s9 b o (k5 b o hb n)
 ·rintro σ H5 ⟨L,v2,v3,rfl,hm5,hr5,each,hnew,pd,hfr,k5⟩
  rw[Qa,QD (Qg _)]at hnew
  have p1:=Zb0 "rows" (V.ref rd) []
  have p2:=Zb0 "next_number" (V.int (rs.length:Int)) (Zt "rows" (.ref rd) [])
  have p3:=Zb0 "likened" (V.int 0) (Zt "next_number" (.int (rs.length:Int)) (Zt "rows" (.ref rd) []))
  have p4:=Zb0 "looked" (V.int 0) (Zt "likened" (.int 0) (Zt "next_number" (.int (rs.length:Int)) (Zt "rows" (.ref rd) [])))
  have p0:([]:List (Str×V)).length=0:=rfl
  refine⟨_,rfl,r,_,rfl,.inl (SqL.of (k5 _ _ hrs.at' nrm)),_,rfl,xw4 m cMerge dx _ ⟨rfl,hm5,T.cl_Merge,T.na_Merge_next_number,by omega,?_⟩⟩
  rw[Qa]
  refine⟨_,rfl,xw4 m cMerge dx _ ⟨rfl,Zb,T.cl_Merge,T.na_Merge_likened,by omega,?_⟩⟩
  refine⟨_,rfl,xw4 m cMerge dx _ ⟨rfl,Zb,T.cl_Merge,T.na_Merge_looked,by omega,?_⟩⟩
  have k8:∀b,b≠m→(upd (upd (upd H5 m (.ins cMerge dx (Zt "next_number" (.int (rs.length:Int)) (Zt "rows" (.ref rd) [])))) m (.ins cMerge dx (Zt "likened" (.int 0) (Zt "next_number" (.int (rs.length:Int)) (Zt "rows" (.ref rd) []))))) m (.ins cMerge dx (Zt "looked" (.int 0) (Zt "likened" (.int 0) (Zt "next_number" (.int (rs.length:Int)) (Zt "rows" (.ref rd) [])))))) b=H5 b:=fun b n=>by rw[Zc n,Zc n,Zc n]
  have hm8:(upd (upd (upd H5 m (.ins cMerge dx (Zt "next_number" (.int (rs.length:Int)) (Zt "rows" (.ref rd) [])))) m (.ins cMerge dx (Zt "likened" (.int 0) (Zt "next_number" (.int (rs.length:Int)) (Zt "rows" (.ref rd) []))))) m (.ins cMerge dx (Zt "looked" (.int 0) (Zt "likened" (.int 0) (Zt "next_number" (.int (rs.length:Int)) (Zt "rows" (.ref rd) [])))))) m=some (.ins cMerge dx (Zt "looked" (.int 0) (Zt "likened" (.int 0) (Zt "next_number" (.int (rs.length:Int)) (Zt "rows" (.ref rd) []))))):=Zb
  generalize (upd (upd (upd H5 m (.ins cMerge dx (Zt "next_number" (.int (rs.length:Int)) (Zt "rows" (.ref rd) [])))) m (.ins cMerge dx (Zt "likened" (.int 0) (Zt "next_number" (.int (rs.length:Int)) (Zt "rows" (.ref rd) []))))) m (.ins cMerge dx (Zt "looked" (.int 0) (Zt "likened" (.int 0) (Zt "next_number" (.int (rs.length:Int)) (Zt "rows" (.ref rd) []))))))=H8 at k8 hm8 ⊢
  refine fun sd hsd=>?_
  have nms:m≠sd:=Zd hm8 hsd
  have p5:=Zb0 "stays" (V.ref sd) (Zt "looked" (.int 0) (Zt "likened" (.int 0) (Zt "next_number" (.int (rs.length:Int)) (Zt "rows" (.ref rd) []))))
  refine⟨_,rfl,xw4 m cMerge dx _ ⟨rfl,by rw[Zc nms];exact hm8,T.cl_Merge,T.na_Merge_stays,by omega,?_⟩⟩
  refine⟨_,rfl,xw4 m cMerge dx _ ⟨rfl,Zb,T.cl_Merge,T.na_Merge_best,by omega,?_⟩⟩
  have hsd5:H5 sd=none:=by rw[← k8 sd nms.symm];exact hsd
  have hm9:(upd (upd (upd H8 sd (.dT [])) m (.ins cMerge dx (Zt "stays" (.ref sd) (Zt "looked" (.int 0) (Zt "likened" (.int 0) (Zt "next_number" (.int (rs.length:Int)) (Zt "rows" (.ref rd) []))))))) m (.ins cMerge dx (Zt "best" .non (Zt "stays" (.ref sd) (Zt "looked" (.int 0) (Zt "likened" (.int 0) (Zt "next_number" (.int (rs.length:Int)) (Zt "rows" (.ref rd) [])))))))) m=some (.ins cMerge dx (mgF rd (rs.length:Int) 0 0 sd .non)):=by rw[Zbz];exact Zb
  have hs9:(upd (upd (upd H8 sd (.dT [])) m (.ins cMerge dx (Zt "stays" (.ref sd) (Zt "looked" (.int 0) (Zt "likened" (.int 0) (Zt "next_number" (.int (rs.length:Int)) (Zt "rows" (.ref rd) []))))))) m (.ins cMerge dx (Zt "best" .non (Zt "stays" (.ref sd) (Zt "looked" (.int 0) (Zt "likened" (.int 0) (Zt "next_number" (.int (rs.length:Int)) (Zt "rows" (.ref rd) [])))))))) sd=some (.dT (kvS [])):=by rw[Zc nms.symm,Zc nms.symm];exact Zb
  have k9:∀b o,H5 b=some o→b≠m→(upd (upd (upd H8 sd (.dT [])) m (.ins cMerge dx (Zt "stays" (.ref sd) (Zt "looked" (.int 0) (Zt "likened" (.int 0) (Zt "next_number" (.int (rs.length:Int)) (Zt "rows" (.ref rd) []))))))) m (.ins cMerge dx (Zt "best" .non (Zt "stays" (.ref sd) (Zt "looked" (.int 0) (Zt "likened" (.int 0) (Zt "next_number" (.int (rs.length:Int)) (Zt "rows" (.ref rd) [])))))))) b=some o:=fun b o hb n=>by rw[Zc n,Zc n,Zc (Zd hb hsd5),k8 b n];exact hb
  generalize (upd (upd (upd H8 sd (.dT [])) m (.ins cMerge dx (Zt "stays" (.ref sd) (Zt "looked" (.int 0) (Zt "likened" (.int 0) (Zt "next_number" (.int (rs.length:Int)) (Zt "rows" (.ref rd) []))))))) m (.ins cMerge dx (Zt "best" .non (Zt "stays" (.ref sd) (Zt "looked" (.int 0) (Zt "likened" (.int 0) (Zt "next_number" (.int (rs.length:Int)) (Zt "rows" (.ref rd) []))))))))=H9 at hm9 hs9 k9 ⊢
  have hLl:L.length=rs.length:=by have:=congrArg List.length hnew.1;unfold ZA at this;rw[Qa,Zdf]at this;exact this
  have M9:ZP cRow cMerge H9 m rd sd L [] (rs.length:Int) 0 0 .non:=by
   refine⟨⟨dx,hm9⟩,k9 _ _ hr5 nmr.symm,hs9,(fun e he=>by cases he),fun e he=>?_,by rw[hnew.1];exact Zjl _,pd,by omega,by decide⟩
   have re:=each e he
   obtain⟨de,hde⟩:=re.at'.ob
   refine re.mono fun b o hb hor=>k9 b o hb fun z=>?_
   have hf:=hfr e he
   have hm':=hm
   rw[← z]at hm'
   rcases hor with z2|z2|z2
   ·rw[z2,hf.1]at hm';cases hm'
   ·rw[z2,hf.2.1]at hm';cases hm'
   ·rw[z2,hf.2.2]at hm';cases hm'
  refine⟨_,rfl,m,dx,_,rfl,hm9,ZbE ..,m,rd,sd,L,[],_,0,0,.non,rfl,M9,fun sd' s' w1 k q' H10 hsd' W S Pl M10 b10=>?_⟩
  have free0:∀b,b≠m→H9 b=none→H b=none:=fun b nb hb=>by
   cases e:H b with
   | none=>rfl
   | some o=>rw[k9 b o (k5 b o e nb) nb]at hb;cases hb
  refine q rd sd' L s' w1 k q' H10 (M10.cast (by omega) (by omega)) hnew W S Pl (fun b hb=>?_) (fun b o hb n=>b10 b o (k9 b o (k5 b o hb n) n) n)
  rcases hb with rfl|rfl|rfl|⟨e,he,hb⟩
  ·exact .inl rfl
  ·exact .inr hrd
  ·exact .inr (free0 _ (fun z=>by rw[z,hm9]at hsd';cases hsd') hsd')
  ·have hf:=hfr e he
   rcases hb with rfl|rfl|rfl
   ·exact .inr hf.1
   ·exact .inr hf.2.1
   ·exact .inr hf.2.2
theorem Zqp{c:Bool}{e:(Bool→Hp→Prop)→Prop}{T:Bool→Hp→Prop}{H7:Hp}(h1:c=true→∀T':Bool→Hp→Prop,(∀H8,ZH H7 H8→T' false H8)→e T')(h2:∀H8,ZH H7 H8→T false H8):if c=true then e T else T false H7:=by
 cases c with
 | true=>rw[if_pos rfl];exact h1 rfl T h2
 | false=>rw[if_neg (by decide)];exact h2 H7 (ZH.refl _)
def ZpS(cR cM:Addr):Sp:=fun vs H Q _=>∃ (m rd sd:Addr) (L:List Zw) (s:StL) (nb li lo:Int) (best:V),vs=[.ref m]∧ZP cR cM H m rd sd L s nb li lo best∧Q (.int li) H
def ZpU(cR cM:Addr):Sp:=fun vs H Q _=>∃ (m rd sd:Addr) (L:List Zw) (s:StL) (nb li lo:Int) (best:V),vs=[.ref m]∧ZP cR cM H m rd sd L s nb li lo best∧Q (.int lo) H
theorem Zi1(T:Zai K mg cRow cMerge):Mf P w K mg base 1 cMerge "likenings" ["self"] (ZpS cRow cMerge):=by
 refine T.t_Merge_likenings.mf ZeN (fun vs H Q E h=>?_) (fun cdv f A outer s H vs Q E hr h=>?_)
 ·obtain⟨m,rd,sd,L,s,nb,li,lo,best,rfl,_⟩:=h
  rfl
 obtain⟨m,rd,sd,L,s,nb,li,lo,best,rfl,M,q⟩:=h
 refine⟨_,#[Zj,#[Zr,#[ZO,‹0›]]],?_⟩
 obtain⟨dx,hm⟩:=M.ob
 exact⟨_,rfl,xw5 m cMerge dx _ _ ⟨rfl,hm,T.cl_Merge,T.na_Merge_likened,Zed ..,q⟩⟩
theorem ZnG(T:Zai K mg cRow cMerge):Mf P w K mg base 1 cMerge "looks" ["self"] (ZpU cRow cMerge):=by
 refine T.t_Merge_looks.mf ZgG (fun vs H Q E h=>?_) (fun cdv f A outer s H vs Q E hr h=>?_)
 ·obtain⟨m,rd,sd,L,s,nb,li,lo,best,rfl,_⟩:=h
  rfl
 obtain⟨m,rd,sd,L,s,nb,li,lo,best,rfl,M,q⟩:=h
 refine⟨_,#[Zj,#[Zr,#[ZO,‹0›]]],?_⟩
 obtain⟨dx,hm⟩:=M.ob
 exact⟨_,rfl,xw5 m cMerge dx _ _ ⟨rfl,hm,T.cl_Merge,T.na_Merge_looked,Zgy ..,q⟩⟩
def Zg8(cR cM:Addr):Sp:=fun vs H Q _=>∃ (m rd sd:Addr) (L:List Zw) (s:StL) (nb li lo:Int) (w:Option Int),vs=[.ref m]∧ZP cR cM H m rd sd L s nb li lo (Zcg w)∧Win (hdM L) (ZA L) w∧∀ (x:V) (H':Hp),Zg9 (L.map toL) H' x→ZH H H'→Q x H'
theorem ZlW(T:Zai K mg cRow cMerge)(f_Row_head:Mf P w K mg base 2 cRow "head" ["self"] (ZeO cRow)):Mf P w K mg base 3 cMerge "coming" ["self"] (Zg8 cRow cMerge):=by
 refine T.t_Merge_coming.mf ZdL (fun vs H Q E h=>?_) (fun cdv f A outer s H vs Q E hr h=>?_)
 ·obtain⟨m,rd,sd,L,s,nb,li,lo,w,rfl,_⟩:=h
  rfl
 obtain⟨m,rd,sd,L,s,nb,li,lo,w,rfl,M,W,q⟩:=h
 refine⟨_,#[Zf,#[Z3,#[Zo,Zbw,#[ZO,‹0›],#[ZW],(Zs _)],#[Zj,#[Zr,#[ZW]]],#[ZF]],#[Zf,#[Zy,1,ZdL.nd,(Or.inl rfl),#[Zm,(ixG hr),#[ZO,‹0›],#[ZO,‹0›]]],#[Zj,#[Zr,#[ZaC,#[Za,#[ZO,‹0›],#[Za,#[ZO,‹1›],#[Za,#[Zav,f_Row_head,T.cl_Row,hr,‹1›],#[Ze]]]]]]]]],?_⟩
 obtain⟨dx,hm⟩:=M.ob
 refine⟨_,rfl,xw5 m cMerge dx _ _ ⟨rfl,hm,T.cl_Merge,T.na_Merge_best,Zeg ..,rfl,_,rfl,?_⟩⟩
 have W':Win (hdL (L.map toL)) ((L.map toL).map (·.1)) w:=by rw[ZbB];exact W
 cases w with
 | none=>exact Zcq rfl (q _ H (.inl ⟨rfl,W'⟩) (ZH.refl H))
 | some a =>
  obtain⟨e,he,rfl⟩:=Zd0 W.1
  have R:=M.each e he
  obtain⟨dp,hp⟩:=R.at'.ob
  have hd:=ZeL M.nd he
  cases hx:e.ss[e.g]? with
  | none=>obtain⟨_,z,hz,_⟩:=W;rw[hd,hx]at hz;cases hz
  | some x =>
  refine Zbv (fun z=>nomatch z) ?_
  refine⟨_,rfl,xw5 m cMerge dx _ _ ⟨rfl,hm,T.cl_Merge,T.na_Merge_rows,ZaB ..,_,rfl,xw5 m cMerge dx _ _ ⟨rfl,hm,T.cl_Merge,T.na_Merge_best,Zeg ..,rd,_,rfl,ZL.k' (k:=.inl e.n) M.rows (Zd3 M.nd he),?_⟩⟩⟩
  refine⟨_,rfl,xw5 m cMerge dx _ _ ⟨rfl,hm,T.cl_Merge,T.na_Merge_best,Zeg ..,_,rfl,e.p,cRow,dp,_,_,rfl,hp,T.cl_Row,T.na_Row_gone,Zdl ..,_,rfl,e.p,dp,_,rfl,hp,Za9 ..,xw5 e.p e.k e.f e.ss e.g ⟨rfl,R.at',(by show 3≤sizeLine;decide),fun t ht=>?_⟩⟩⟩
  rw[ZdZ hx]
  exact q _ _ (.inr ⟨t,toL e,x,rfl,Qd he,hx,Zb,W'⟩) (Zh ht _)
def ZkS(cR cM:Addr):Sp:=fun vs H Q _=>∃ (m rd sd:Addr) (L:List Zw) (s:StL) (nb li lo:Int) (best:V),vs=[.ref m]∧ZP cR cM H m rd sd L s nb li lo best∧∀H':Hp,ZH H H'→Q (.int (Zat (L.map toL)).sum) H'
theorem ZiZ(k f:Addr)(g:Int):(Zbj k f g).lookup ("to_go" : Str)=none:=Zfb _ _ _ (by ac_rfl) (by ac_rfl) (by ac_rfl)
theorem Zm0(T:Zai K mg cRow cMerge)(f_Row_to_go:Mf P w K mg base 1 cRow "to_go" ["self"] (ZiS cRow)):Mf P w K mg base 2 cMerge "left" ["self"] (ZkS cRow cMerge):=by
 refine T.t_Merge_left.mf Zhp (fun vs H Q E h=>?_) (fun cdv f A outer s H vs Q E hr h=>?_)
 ·obtain⟨m,rd,sd,L,s,nb,li,lo,best,rfl,_⟩:=h
  rfl
 obtain⟨m,rd,sd,L,s,nb,li,lo,best,rfl,M,q⟩:=h
 refine⟨_,#[Zj,#[Zr,#[Zk,(ZrS K),(by rfl),T.b.n_sum,boot_sum,#[Za,(@ZiQ _ _ _ #[Zdw,Zq8,(@ZoV _ _ _ _ _ _ #[ZO,‹0›] (by rfl) (by rfl)),(fun _ _ _ _=>#[cg,1,Zq8]),(fun _ _ _ _=>(@ZcD _)),(fun _ _ _ _=>#[Zav,f_Row_to_go,T.cl_Row,hr,#[cw,1,Zq8]])]),#[Ze]]]]],?_⟩
 obtain⟨dx,hm⟩:=M.ob
 have hfew:=M.few
 refine⟨rd,_,M.rows,True.intro,_,rfl,xw5 m cMerge dx _ _ ⟨rfl,hm,T.cl_Merge,T.na_Merge_rows,ZaB ..,rd,_,rfl,M.rows,fun ob B hB=>?_⟩⟩
 have hfz:(upd H rd (.frz ob (.dK (kvM L)))) rd=some (.frz ob (.dK (kvM L))):=Zb
 have k1:∀b x,H b=some x→b≠rd→(upd H rd (.frz ob (.dK (kvM L)))) b=some x:=fun b x h n=>by rw[Zc n];exact h
 generalize upd H rd (.frz ob (.dK (kvM L)))=H1 at hfz k1 hB ⊢
 refine ZoB (d:=rd) (o:=ob) (kvs:=kvM L) (fun i zs σ H2=>(∃v:Option V,σ=[some (.ref m),v])∧zs=(Zat ((L.take i).map toL)).map V.int∧i≤L.length∧H2 B=some (.lst zs)∧ZH H1 H2) ?_ (fun _ _ _ _ h=>h.2.2.2.2 _ _ hfz) ?_ ?_
 ·exact⟨⟨none,rfl⟩,rfl,Qv _,Zb,Zh hB _⟩
 ·rintro i k x zs σ H2 hkx ⟨⟨v,rfl⟩,rfl,hi,hB2,s2⟩
  unfold kvM at hkx
  rw[Qn]at hkx
  cases hu:L[i]? with
  | none=>rw[hu]at hkx;cases hkx
  | some e =>
  rw[hu]at hkx
  cases hkx
  have hil:i<L.length:=(Qi.mp hu).1
  have he:=Qw hu
  have R:=M.each e he
  obtain⟨_,_,_,n1,n2,n3⟩:=M.ne_sd he
  have R2:ZdI cRow H2 e:=R.mono fun b o hb hor=>s2 _ _ (k1 b o hb (by rcases hor with z|z|z<;>rw[z];exact n1.symm;exact n2.symm;exact n3.symm))
  obtain⟨dp,hp⟩:=R2.at'.ob
  refine⟨_,rfl,e.p,dp,_,rfl,hp,ZiZ ..,xw5 e.p e.k e.f e.ss e.g ⟨rfl,R2.at',hB2,(by unfold Zat;rw[Qa,Qa,Qa,QA];exact ZB (by omega)),⟨_,rfl⟩,?_,hil,Zb,fun b x hb=>?_⟩⟩
  ·rw[QH,hu,Qe]
   unfold Zat
   rw[Qe,Qe];rfl
  ·rw[Zc (Zd hb hB)];exact s2 b x hb
 rintro zs σ H2 ⟨⟨v,rfl⟩,rfl,_,hB2,s2⟩
 have hkl:(kvM L).length=L.length:=by unfold kvM;rw[Qa]
 rw[hkl,QD (Qg _)]at hB2
 refine⟨ob,s2 _ _ hfz,?_⟩
 have hB3:(upd H2 rd (.dK (kvM L))) B=some (.lst ((Zat (L.map toL)).map V.int)):=by rw[Zc (Zd hfz hB).symm];exact hB2
 have s3:ZH H (upd H2 rd (.dK (kvM L))):=fun b x hb=>by
  by_cases e:b=rd
  ·rw[e,M.rows]at hb;rw[e,Zb];exact hb
  ·rw[Zc e];exact s2 _ _ (k1 b x hb e)
 generalize upd H2 rd (.dK (kvM L))=H3 at hB3 s3 ⊢
 refine⟨B,Zat (L.map toL),rfl,SqL.of hB3,(by unfold Zat;rw[Qa,Qa];omega),fun n hn=>?_,q H3 s3⟩
 unfold Zat at hn
 obtain⟨e',he',rfl⟩:=Qo.mp hn
 obtain⟨e,he,rfl⟩:=Qo.mp he'
 have R:=M.each e he
 have a1:=R.le
 have a2:=R.len
 show 0≤((e.ss.length:Int)-(e.g:Int))∧((e.ss.length:Int)-(e.g:Int))≤_
 omega
def Zhu(L:List Zx):List (Int×Option Str):=L.map fun e=>(e.1,e.2.2.1[e.2.2.2]?)
def Zf2(H:Hp)(l:Addr)(E:List (Int×Option Str)):Prop:=∃ts:List (Addr×Int×Option Str),ts.map (·.2)=E∧H l=some (.lst (ts.map fun t=>V.ref t.1))∧∀t∈ts,H t.1=some (.tup [.int t.2.1,oV t.2.2])
theorem Zjn(ss:List Str)(g:Nat):ZdM ss g=oV ss[g]?:=by unfold ZdM oV;cases ss[g]?<;>rfl
def ZjD(cR cM:Addr):Sp:=fun vs H Q _=>∃ (m rd sd:Addr) (L:List Zw) (s:StL) (nb li lo:Int) (best:V),vs=[.ref m]∧ZP cR cM H m rd sd L s nb li lo best∧∀ (l:Addr) (H':Hp),H l=none→Zf2 H' l (Zhu (L.map toL))→ZH H H'→Q (.ref l) H'
theorem ZlN(T:Zai K mg cRow cMerge)(f_Row_head:Mf P w K mg base 2 cRow "head" ["self"] (ZeO cRow)):Mf P w K mg base 3 cMerge "heads" ["self"] (ZjD cRow cMerge):=by
 refine T.t_Merge_heads.mf ZgR (fun vs H Q E h=>?_) (fun cdv f A outer s H vs Q E hr h=>?_)
 ·obtain⟨m,rd,sd,L,s,nb,li,lo,best,rfl,_⟩:=h
  rfl
 obtain⟨m,rd,sd,L,s,nb,li,lo,best,rfl,M,q⟩:=h
 refine⟨_,#[Zj,#[Zr,(@ZiQ _ _ _ #[Zdw,ZmC,(@Zn3 _ _ _ _ _ _ _ _ #[ZO,‹0›] (by rfl) (by rfl)),(fun _ _ _ _=>#[gT,K,2,#[ZC,#[cg,1,ZmC],#[ZC,#[cg,2,ZmC],(@ZaF _)]]]),(fun _ _ _ _=>(@ZcD _)),(fun _ _ _ _=>#[ZaC,#[Za,#[cw,1,ZmC],#[Za,#[Zav,f_Row_head,T.cl_Row,hr,#[cw,2,ZmC]],#[Ze]]]])])]],?_⟩
 obtain⟨dx,hm⟩:=M.ob
 have hfew:=M.few
 refine⟨rd,_,M.rows,True.intro,_,rfl,xw5 m cMerge dx _ _ ⟨rfl,hm,T.cl_Merge,T.na_Merge_rows,ZaB ..,rd,_,rfl,M.rows,fun ob B hB=>?_⟩⟩
 have hfz:(upd H rd (.frz ob (.dK (kvM L)))) rd=some (.frz ob (.dK (kvM L))):=Zb
 have k1:∀b x,H b=some x→b≠rd→(upd H rd (.frz ob (.dK (kvM L)))) b=some x:=fun b x h n=>by rw[Zc n];exact h
 have hB0:H B=none:=by
  cases e:H B with
  | none=>rfl
  | some o =>
   by_cases z:B=rd
   ·rw[z]at hB;rw[show (upd H rd (.frz ob (.dK (kvM L)))) rd=some (.frz ob (.dK (kvM L))) from Zb]at hB;cases hB
   ·rw[k1 B o e z]at hB;cases hB
 generalize upd H rd (.frz ob (.dK (kvM L)))=H1 at hfz k1 hB ⊢
 refine ZoM (d:=rd) (o:=ob) (kvs:=kvM L) (fun i zs σ H2=>(∃v1 v2:Option V,σ=[some (.ref m),v1,v2])∧(∃ts:List (Addr×Int×Option Str),ts.map (·.2)=Zhu ((L.take i).map toL)∧zs=(ts.map fun t=>V.ref t.1)∧∀t∈ts,H2 t.1=some (.tup [.int t.2.1,oV t.2.2])∧t.1≠B∧t.1≠rd)∧i≤L.length∧H2 B=some (.lst zs)∧ZH H1 H2) ?_ (fun _ _ _ _ h=>h.2.2.2.2 _ _ hfz) ?_ ?_
 ·exact⟨⟨none,none,rfl⟩,⟨[],rfl,rfl,(fun t h=>by cases h)⟩,Qv _,Zb,Zh hB _⟩
 ·rintro i k x zs σ H2 p hkx ⟨⟨v1,v2,rfl⟩,⟨ts,hts,rfl,hall⟩,hi,hB2,s2⟩ hp0
  unfold kvM at hkx
  rw[Qn]at hkx
  cases hu:L[i]? with
  | none=>rw[hu]at hkx;cases hkx
  | some e =>
  rw[hu]at hkx
  cases hkx
  have hil:i<L.length:=(Qi.mp hu).1
  have he:=Qw hu
  have R:=M.each e he
  obtain⟨_,_,_,n1,n2,n3⟩:=M.ne_sd he
  have s3:=Zh hp0 (.tup [kV (.inl e.n),.ref e.p])
  have hp3:(upd H2 p (.tup [kV (.inl e.n),.ref e.p])) p=some (.tup [.int e.n,.ref e.p]):=Zb
  generalize upd H2 p (.tup [kV (.inl e.n),.ref e.p])=H3 at s3 hp3 ⊢
  have R2:ZdI cRow H3 e:=R.mono fun b o hb hor=>s3 _ _ (s2 _ _ (k1 b o hb (by rcases hor with z|z|z<;>rw[z];exact n1.symm;exact n2.symm;exact n3.symm)))
  obtain⟨dp,hp⟩:=R2.at'.ob
  have hB3:=s3 _ _ hB2
  have hf3:=s3 _ _ (s2 _ _ hfz)
  have hlen:ts.length=i:=by have:=congrArg List.length hts;unfold Zhu at this;rw[Qa,Qa,Qa,QA]at this;omega
  refine⟨p,_,rfl,SqT.of hp3,rfl,_,_,rfl,_,_,rfl,rfl,_,rfl,_,rfl,e.p,dp,_,rfl,hp,Za9 ..,xw5 e.p e.k e.f e.ss e.g ⟨rfl,R2.at',(by show 2≤sizeLine;decide),fun t ht=>?_⟩⟩
  rw[Zjn]
  have nBt:B≠t:=Zd hB3 ht
  have nrt:rd≠t:=Zd hf3 ht
  refine⟨by rw[Zc nBt];exact hB3,(by rw[Qa];exact ZB (by omega)),⟨_,_,rfl⟩,⟨ts++[(t,e.n,e.ss[e.g]?)],?_,by rw[Qe];rfl,fun u hu'=>?_⟩,hil,Zb,fun b x hb=>?_⟩
  ·rw[Qe,hts,QH,hu,Qe]
   unfold Zhu
   rw[Qe];rfl
  ·rcases Qk.mp hu' with hu'|hu'
   ·obtain⟨g1,g2,g3⟩:=hall u hu'
    have:=s3 _ _ g1
    exact⟨by rw[Zc g2,Zc (Zd this ht)];exact this,g2,g3⟩
   ·rw[Qp.mp hu']
    exact⟨by rw[Zc nBt.symm];exact Zb,nBt.symm,nrt.symm⟩
  ·have:=s3 b x (s2 b x hb)
   rw[Zc (Zd hb hB),Zc (Zd this ht)];exact this
 rintro zs σ H2 ⟨⟨v1,v2,rfl⟩,⟨ts,hts,rfl,hall⟩,_,hB2,s2⟩
 have hkl:(kvM L).length=L.length:=by unfold kvM;rw[Qa]
 rw[hkl,QD (Qg _)]at hts
 refine⟨ob,s2 _ _ hfz,?_⟩
 have nBr:B≠rd:=(Zd hfz hB).symm
 refine q B _ hB0 ⟨ts,hts,by rw[Zc nBr];exact hB2,fun t ht=>?_⟩ (fun b x hb=>?_)
 ·obtain⟨g1,g2,g3⟩:=hall t ht
  rw[Zc g3];exact g1
 ·by_cases e:b=rd
  ·rw[e,M.rows]at hb;rw[e,Zb];exact hb
  ·rw[Zc e];exact s2 _ _ (k1 b x hb e)
def Agr(Lo:List Zx)(L:List Zw):Prop:=Lo.map (fun e=>(e.1,e.2.2))=L.map (fun e=>(e.n,(e.ss,e.g)))
theorem Zfj{Lo:List Zx}{L:List Zw}(h:Agr Lo L){α:Type}(F:Int×List Str×Nat→α):Lo.map (fun e=>F (e.1,e.2.2))=(L.map toL).map (fun e=>F (e.1,e.2.2)):=by
 have:=congrArg (List.map F) h
 rw[Qj,Qj]at this
 rw[Qj]
 exact this
theorem Zbb{Lo:List Zx}{L:List Zw}(h:Agr Lo L):Lo.map (·.1)=ZA L:=by
 have:=Zfj h (fun x=>x.1)
 rw[show (L.map toL).map (fun e=>e.1)=ZA L from ZbB L]at this
 exact this
theorem Zgl:∀ (A B:List Zx),A.map (fun e=>(e.1,e.2.2))=B.map (fun e=>(e.1,e.2.2))→hdL A=hdL B
 | [],[],_=>rfl
 | [],_::_,h=>by cases h
 | _::_,[],h=>by cases h
 | a::A,b::B,h=>by
  rw[Qh,Qh]at h
  injection h with h1 h2
  injection h1 with h3 h4
  have ih:=Zgl A B h2
  funext n
  have ihn:=congrFun ih n
  unfold hdL at ihn ⊢
  rw[Q8,Q8,h3]
  split
  ·simp only[Option.bind_some];rw[h4]
  ·exact ihn
theorem Zhf{Lo:List Zx}{L:List Zw}(h:Agr Lo L):hdL Lo=hdM L:=Zgl _ _ (Zfj h (fun x=>x))
theorem Zo8{Lo:List Zx}{L:List Zw}(h:Agr Lo L):Zhu Lo=Zhu (L.map toL):=Zfj h (fun x=>(x.1,x.2.1[x.2.2]?))
theorem ZmN{Lo:List Zx}{L:List Zw}(h:Agr Lo L):Zat Lo=Zat (L.map toL):=Zfj h (fun x=>(x.2.1.length:Int)-(x.2.2:Int))
theorem Zjs{α β γ δ:Type}{f:α→γ}{f':β→γ}{g:α→δ}{g':β→δ}:∀ (xs:List α) (ys:List β),xs.map f=ys.map f'→xs.map g=ys.map g'→xs.map (fun x=>(f x,g x))=ys.map (fun y=>(f' y,g' y))
 | [],[],_,_=>rfl
 | [],_::_,h,_=>by cases h
 | _::_,[],h,_=>by cases h
 | a::A,b::B,h,k=>by
  rw[Qh,Qh]at h k
  injection h with h1 h2
  injection k with k1 k2
  rw[Qh,Qh,Zjs A B h2 k2,h1,k1]
theorem Zo2{Lo:List Zx}{L:List Zw}{rs rs':List (Addr×List Str)}(h:ZoS Lo rs)(k:Zof L rs')(e:rs.map (·.2)=rs'.map (·.2)):Agr Lo L:=by
 have hl:rs.length=rs'.length:=by have:=congrArg List.length e;rw[Qa,Qa]at this;exact this
 have e2:rs.map (fun x=>(x.2,0))=rs'.map (fun x=>(x.2,0)):=by
  have:=congrArg (List.map fun y:List Str=>(y,0)) e
  rw[Qj,Qj]at this
  exact this
 exact Zjs Lo L (by rw[h.1,hl];exact k.1.symm) (by rw[h.2,e2];exact k.2.symm)
theorem ZbD{α β:Type}:∀ {P:List (α×β)},(P.map (·.1)).Nodup→∀ {p q:α×β},p∈P→q∈P→p.1=q.1→p=q
 | [],_,_,_,h,_,_=>by cases h
 | x::r,nd,p,q,hp,hq,e=>by
  rw[Qh,QV]at nd
  rcases QI.mp hp with h1|h1
  ·rcases QI.mp hq with h2|h2
   ·rw[h1,h2]
   ·exact absurd (show x.1∈r.map (·.1) by rw[← h1,e];exact Qd (f:=fun x:α×β=>x.1) h2) nd.1
  ·rcases QI.mp hq with h2|h2
   ·exact absurd (show x.1∈r.map (·.1) by rw[← h2,← e];exact Qd (f:=fun x:α×β=>x.1) h1) nd.1
   ·exact ZbD nd.2 h1 h2 e
def ZrX(x:V):Prop:=x=.non∨(∃b,x=.bl b)∨(∃i,x=.int i)∨∃s,x=.str s
structure F2 (R:V→V→Prop) (xs ys:List V):Prop where
 len:xs.length=ys.length
 at':∀ (i:Nat) (x y:V),xs[i]? = some x→ys[i]? = some y→R x y
theorem F2.nil{R:V→V→Prop}:F2 R [] []:=⟨rfl,fun i x y h=>by simp at h⟩
theorem F2.cons{R:V→V→Prop}{x y:V}{xs ys:List V}(h:R x y)(t:F2 R xs ys):F2 R (x::xs) (y::ys):=by
 refine⟨by rw[QK,QK,t.len],fun i a b ha hb=>?_⟩
 cases i with
 | zero=>simp at ha hb;rw[← ha,← hb];exact h
 | succ i=>exact t.at' i a b (by simpa using ha) (by simpa using hb)
theorem ZbZ{H:Hp}{n:Nat}{x:V}(h:ZrX x):IsD H (n+1) x x:=.inl ⟨rfl,h⟩
theorem Za6{H:Hp}{n:Nat}(i:Int):IsD H (n+1) (.int i) (.int i):=ZbZ (.inr (.inr (.inl ⟨i,rfl⟩)))
theorem Zp8{H:Hp}{n:Nat}(o:Option Str):IsD H (n+1) (oV o) (oV o):=by
 cases o with
 | none=>exact ZbZ (.inl rfl)
 | some s=>exact ZbZ (.inr (.inr (.inr ⟨s,rfl⟩)))
theorem Zgj{H:Hp}{n:Nat}{p q:Addr}{xs ys:List V}(hp:H p=some (.lst xs))(hq:H q=some (.lst ys))(h:xs.length≤1000)(f:F2 (IsD H n) xs ys):IsD H (n+1) (.ref p) (.ref q):=.inr ⟨p,q,xs,ys,rfl,rfl,.inl ⟨hp,hq⟩,f.len,h,f.at'⟩
theorem Zgg{H:Hp}{n:Nat}{p q:Addr}{xs ys:List V}(hp:H p=some (.tup xs))(hq:H q=some (.tup ys))(h:xs.length≤1000)(f:F2 (IsD H n) xs ys):IsD H (n+1) (.ref p) (.ref q):=.inr ⟨p,q,xs,ys,rfl,rfl,.inr ⟨hp,hq⟩,f.len,h,f.at'⟩
theorem Zf2.same{H H':Hp}{l:Addr}{E:List (Int×Option Str)}(h:Zf2 H l E)(s:ZH H H'):Zf2 H' l E:=by
 obtain⟨ts,h1,h2,h3⟩:=h
 exact⟨ts,h1,s _ _ h2,fun t ht=>s _ _ (h3 t ht)⟩
theorem ZoY{H:Hp}{l l':Addr}{E:List (Int×Option Str)}{n:Nat}(h:Zf2 H l E)(k:Zf2 H l' E)(few:E.length≤1000):IsD H (n+3) (.ref l) (.ref l'):=by
 obtain⟨ts,h1,h2,h3⟩:=h
 obtain⟨us,k1,k2,k3⟩:=k
 have lt:ts.length=E.length:=by rw[← h1,Qa]
 have lu:us.length=E.length:=by rw[← k1,Qa]
 refine Zgj h2 k2 (by rw[Qa];omega) ⟨by rw[Qa,Qa];omega,fun i x y hx hy=>?_⟩
 rw[Qn]at hx hy
 cases ht:ts[i]? with
 | none=>rw[ht]at hx;cases hx
 | some t =>
 cases hu:us[i]? with
 | none=>rw[hu]at hy;cases hy
 | some u =>
 rw[ht]at hx
 rw[hu]at hy
 cases hx
 cases hy
 have e:t.2=u.2:=by
  have a:=congrArg (fun z=>z[i]?) (h1.trans k1.symm)
  simp only[List.getElem?_map,ht,hu,Option.map_some]at a
  exact Ql a
 have q1:=h3 t (Qw ht)
 have q2:=k3 u (Qw hu)
 rw[← e]at q2
 exact Zgg q1 q2 (by show 2≤1000;decide) (.cons (Za6 _) (.cons (Zp8 _) .nil))
theorem Zg9.same{L:List Zx}{H H':Hp}{x:V}(h:Zg9 L H x)(s:ZH H H'):Zg9 L H' x:=by
 rcases h with h|⟨t,e,z,h1,h2,h3,h4,h5⟩
 ·exact .inl h
 ·exact .inr ⟨t,e,z,h1,h2,h3,s _ _ h4,h5⟩
theorem Zpr{Lo:List Zx}{L:List Zw}{H:Hp}{x y:V}{n:Nat}(ag:Agr Lo L)(nd:(ZA L).Nodup)(h:Zg9 (L.map toL) H x)(k:Zg9 Lo H y):IsD H (n+2) x y:=by
 have eh:=Zhf ag
 have en:=Zbb ag
 have e1:hdL (L.map toL)=hdM L:=rfl
 rcases h with⟨rfl,hw⟩|⟨t,e,z,rfl,he,hz,ht,hw⟩
 ·rcases k with⟨rfl,kw⟩|⟨t',e',z',rfl,he',hz',ht',kw⟩
  ·exact ZbZ (.inl rfl)
  ·rw[eh,en]at kw
   rw[e1,ZbB]at hw
   exact nomatch hw.one kw
 ·rcases k with⟨rfl,kw⟩|⟨t',e',z',rfl,he',hz',ht',kw⟩
  ·rw[eh,en]at kw
   rw[e1,ZbB]at hw
   exact nomatch hw.one kw
  ·rw[eh,en]at kw
   rw[e1,ZbB]at hw
   have ee:e.1=e'.1:=Ql (hw.one kw)
   have m1:(e.1,e.2.2)∈(L.map toL).map (fun e=>(e.1,e.2.2)):=Qd (f:=fun e:Zx=>(e.1,e.2.2)) he
   have m2:(e'.1,e'.2.2)∈(L.map toL).map (fun e=>(e.1,e.2.2)):=by rw[← Zfj ag (fun x=>x)];exact Qd (f:=fun e:Zx=>(e.1,e.2.2)) he'
   have n2:(((L.map toL).map (fun e=>(e.1,e.2.2))).map (·.1)).Nodup:=by rw[Qj];exact(ZbB L) ▸ nd
   have e2:=ZbD n2 m1 m2 ee
   injection e2 with _ e3
   rw[e3,hz']at hz
   cases hz
   rw[ee,e3]at ht
   exact Zgg ht ht' (by show 3≤1000;decide) (.cons (Za6 _) (.cons (Za6 _) (.cons (ZbZ (.inr (.inr (.inr ⟨_,rfl⟩)))) .nil)))
theorem Zo7{L:List Zx}{E:List (Int×Option Str)}(h:ZpL L E)(up:(L.map (·.1)).Pairwise (·<·)):E=Zhu L:=by
 have ek:E.map (·.1)=L.map (·.1):=ZgW h.per h.up up
 have nd:(E.map (·.1)).Nodup:=by rw[ek];exact ZcX up
 apply List.ext_getElem?
 intro i
 unfold Zhu
 rw[Qn]
 cases he:L[i]? with
 | none =>
  have:E[i]? = none:=by
   rw[Q9]at he ⊢
   have:=congrArg List.length ek
   rw[Qa,Qa]at this
   omega
  rw[this];rfl
 | some e =>
  have hm:=h.hd e (Qw he)
  have hk:(E.map (·.1))[i]? = some e.1:=by rw[ek,Qn,he];rfl
  rw[Qn]at hk
  cases hx:E[i]? with
  | none=>rw[hx]at hk;cases hk
  | some x =>
   rw[hx]at hk
   have e1:x.1=e.1:=Ql hk
   rw[ZbD nd (Qw hx) hm e1]
   rfl
theorem Zh1{H:Hp}:∀ (ts:List (Addr×Key×V)) (E:List (Int×Option Str)),ts.map (·.2)=kvH E→(∀t∈ts,H t.1=some (.tup [kV t.2.1,t.2.2]))→∃us:List (Addr×Int×Option Str),us.map (·.2)=E∧us.map (·.1)=ts.map (·.1)∧∀t∈us,H t.1=some (.tup [.int t.2.1,oV t.2.2])
 | [],[],_,_=>⟨[],rfl,rfl,fun t h=>by cases h⟩
 | [],_::_,h,_=>by unfold kvH at h;cases h
 | _::_,[],h,_=>by unfold kvH at h;cases h
 | t::ts,e::E,h,k=>by
  unfold kvH at h
  rw[Qh,Qh]at h
  injection h with h1 h2
  obtain⟨us,a,b,c⟩:=Zh1 ts E h2 fun x hx=>k x (Qu _ hx)
  refine⟨(t.1,e)::us,by rw[Qh,a],by rw[Qh,Qh,b],fun u hu=>?_⟩
  rcases QI.mp hu with rfl|hu
  ·have:=k t (by simp)
   rw[h1]at this
   exact this
  ·exact c u hu
theorem Zj5{H:Hp}{l:Addr}{ts:List (Addr×Key×V)}{E:List (Int×Option Str)}(h:ts.map (·.2)=kvH E)(k:∀t∈ts,H t.1=some (.tup [kV t.2.1,t.2.2]))(hl:H l=some (.lst (ts.map fun t=>V.ref t.1))):Zf2 H l E:=by
 obtain⟨us,a,b,c⟩:=Zh1 ts E h k
 refine⟨us,a,?_,c⟩
 rw[hl]
 have:=congrArg (List.map V.ref) b
 rw[Qj,Qj]at this
 exact congrArg (fun z=>some (HO.lst z)) this.symm
theorem ZdK(rd:Addr)(nb li lo:Int)(sd:Addr)(best:V):(mgF rd nb li lo sd best).lookup ("likenings" : Str)=none:=Zba _ _ _ _ _ _ (by ac_rfl) (by ac_rfl) (by ac_rfl) (by ac_rfl) (by ac_rfl) (by ac_rfl)
theorem ZfX(rd:Addr)(nb li lo:Int)(sd:Addr)(best:V):(mgF rd nb li lo sd best).lookup ("looks" : Str)=none:=Zba _ _ _ _ _ _ (by ac_rfl) (by ac_rfl) (by ac_rfl) (by ac_rfl) (by ac_rfl) (by ac_rfl)
theorem Ze4(rd:Addr)(nb li lo:Int)(sd:Addr)(best:V):(mgF rd nb li lo sd best).lookup ("coming" : Str)=none:=Zba _ _ _ _ _ _ (by ac_rfl) (by ac_rfl) (by ac_rfl) (by ac_rfl) (by ac_rfl) (by ac_rfl)
theorem Zkz(rd:Addr)(nb li lo:Int)(sd:Addr)(best:V):(mgF rd nb li lo sd best).lookup ("left" : Str)=none:=Zba _ _ _ _ _ _ (by ac_rfl) (by ac_rfl) (by ac_rfl) (by ac_rfl) (by ac_rfl) (by ac_rfl)
theorem Zju(rd:Addr)(nb li lo:Int)(sd:Addr)(best:V):(mgF rd nb li lo sd best).lookup ("heads" : Str)=none:=Zba _ _ _ _ _ _ (by ac_rfl) (by ac_rfl) (by ac_rfl) (by ac_rfl) (by ac_rfl) (by ac_rfl)
def ZmH(cR cM:Addr):Sp:=fun vs H Q _=>∃ (m rd sd:Addr) (L:List Zw) (s:StL) (nb li lo:Int) (w:Option Int) (o ra ga:Addr) (Lo:List Zx) (nb':Int),vs=[.ref m,.ref o]∧ZP cR cM H m rd sd L s nb li lo (Zcg w)∧Win (hdM L) (ZA L) w∧Own H o ra ga Lo nb' li lo∧Agr Lo L∧∀H',ZH H H'→Q (.bl true) H'
theorem ZlB(T:Zai K mg cRow cMerge)(f_l_heads:Df P w K mg base 1 "_law_heads" ["_law_own"] Zff)(f_l_same:Df P w K mg base 5 "_law_same" ["_law_found", "_law_due"] (Ziw 4))(f_l_coming:Df P w K mg base 2 "_law_coming" ["_law_own"] Zke)(f_l_left_of:Df P w K mg base 1 "_law_left_of" ["_law_own"] Zle)
  (f_Merge_likenings:Mf P w K mg base 1 cMerge "likenings" ["self"] (ZpS cRow cMerge)) (f_Merge_looks:Mf P w K mg base 1 cMerge "looks" ["self"] (ZpU cRow cMerge)) (f_Merge_coming:Mf P w K mg base 3 cMerge "coming" ["self"] (Zg8 cRow cMerge)) (f_Merge_left:Mf P w K mg base 2 cMerge "left" ["self"] (ZkS cRow cMerge)) (f_Merge_heads:Mf P w K mg base 3 cMerge "heads" ["self"] (ZjD cRow cMerge)) :
  Df P w K mg base 6 "_law_stands" ["_law_merge", "_law_own"] (ZmH cRow cMerge):=by
 refine T.t_l_stands.df ZcM (fun vs H Q E h=>?_) (fun cdv f A outer s H vs Q E hr h=>?_)
 ·obtain⟨m,rd,sd,L,s,nb,li,lo,w,o,ra,ga,Lo,nb',rfl,_⟩:=h
  rfl
 obtain⟨m,rd,sd,L,s,nb,li,lo,w,o,ra,ga,Lo,nb',rfl,M,W,ow,ag,q⟩:=h
 refine⟨_,#[Zf,#[Zy,2,ZcM.nd,(Or.inl rfl),(@Zi5 _ _ _ _ _ _ _ rfl (by rfl) T.b.n_list #[Zv,f_l_heads,hr,#[Za,‹1›,#[Ze]],(by rfl)] (by rfl) (by rfl) (by rfl))],#[Zf,#[Zy,3,ZcM.nd,(Or.inl rfl),#[Zab,#[Za,#[Zm,(ixG hr),‹1›,#[Zz]],#[Za,#[Zm,(ixG hr),‹1›,#[Zz]],#[Ze]]]]],#[Zf,#[Z3,(@PW.pt _ _ _ #[ZbQ,#[Zo,Za7,#[ZE,ZeQ,#[ZE,Zah,#[Zm,(ixG hr),‹1›,#[Zz]],#[Zm,(ixG hr),‹1›,#[Zz]]],#[Zi]],#[Zi],(Zs _)],#[ZbH,#[Zd4,#[ZbP,#[Zv,f_l_same,hr,#[Za,#[Zab,#[Za,#[Zav,f_Merge_likenings,T.cl_Merge,hr,‹0›],#[Za,#[Zav,f_Merge_looks,T.cl_Merge,hr,‹0›],#[Ze]]]],#[Za,‹3›,#[Ze]]],(by rfl)]]]]]),#[Zj,#[Zr,#[Zf1]]],#[ZF]],#[Zf,#[Zy,4,ZcM.nd,(Or.inl rfl),#[Zab,#[Za,#[Zav,f_Merge_coming,T.cl_Merge,hr,‹0›],#[Za,#[Zav,f_Merge_left,T.cl_Merge,hr,‹0›],#[Za,#[Zav,f_Merge_heads,T.cl_Merge,hr,‹0›],#[Za,#[Zav,f_Merge_likenings,T.cl_Merge,hr,‹0›],#[Za,#[Zav,f_Merge_looks,T.cl_Merge,hr,‹0›],#[Ze]]]]]]]],#[Zj,#[Zr,#[Zv,f_l_same,hr,#[Za,‹4›,#[Za,#[ZE,ZcT,#[Zab,#[Za,#[Zv,f_l_coming,hr,#[Za,‹1›,#[Ze]],(by rfl)],#[Za,#[Zv,f_l_left_of,hr,#[Za,‹1›,#[Ze]],(by rfl)],#[Za,‹2›,#[Ze]]]]],‹3›],#[Ze]]],(by rfl)]]]]]]],?_⟩
 have hup:(Lo.map (·.1)).Pairwise (·<·):=by rw[Zbb ag];exact M.up
 have sz2:2≤sizeLine:=by decide
 refine⟨_,rfl,o,ra,ga,Lo,nb',li,lo,rfl,ow,fun D E' H1 hD hds ho s1=>?_⟩
 refine⟨D,_,rfl,hds.at',fun l ts H2 hl hts hat s2 hl2=>?_⟩
 have eE:=Zo7 ho hup
 have hl2':Zf2 H2 l (Zhu (L.map toL)):=by
  rw[← Zo8 ag,← eE]
  exact Zj5 hts (fun t ht=>(hat t ht).2) hl2
 have s02:ZH H H2:=s1.trans s2
 have ow2:=ow.same s02
 refine⟨_,rfl,o,_,rfl,ZL.k' (k:=.inr "likenings") ow2.at' (ZbU ..),_,rfl,o,_,rfl,ZL.k' (k:=.inr "looks") ow2.at' (ZfO ..),sz2,fun sf hsf=>?_⟩
 have s3:=Zh hsf (.lst [.int li,.int lo])
 have hsf3:(upd H2 sf (.lst [.int li,.int lo])) sf=some (.lst [.int li,.int lo]):=Zb
 generalize upd H2 sf (.lst [.int li,.int lo])=H3 at s3 hsf3 ⊢
 have ow3:=ow2.same s3
 have s03:=s02.trans s3
 refine⟨_,rfl,o,_,rfl,ZL.k' (k:=.inr "number") ow3.at' (Zkr ..),_,rfl,o,_,rfl,ZL.k' (k:=.inr "likenings") ow3.at' (ZbU ..),_,_,rfl,rfl,_,_,rfl,rfl,(by show (0:Int)<2;decide),rfl,_,rfl,?_⟩
 refine Zqp (fun _ T' hT'=>?_) (fun H4 s4=>?_)
 ·have M3:=M.same s03
  obtain⟨dx,hm3⟩:=M3.ob
  refine⟨_,rfl,m,dx,_,rfl,hm3,ZdK ..,xw9 m rd sd L s nb li lo _ ⟨rfl,M3,?_⟩⟩
  refine⟨_,rfl,m,dx,_,rfl,hm3,ZfX ..,xw9 m rd sd L s nb li lo _ ⟨rfl,M3,sz2,fun t ht=>?_⟩⟩
  have s4:=Zh ht (.lst [.int li,.int lo])
  refine⟨_,rfl,.ref t,.ref sf,rfl,Zgj Zb (s4 _ _ hsf3) (by show 2≤1000;decide) (.cons (Za6 _) (.cons (Za6 _) .nil)),fun H5 s5=>⟨_,rfl,hT' H5 (s4.trans s5)⟩⟩
 have s04:=s03.trans s4
 have M4:=M.same s04
 obtain⟨dx4,hm4⟩:=M4.ob
 refine Zbr ?_
 refine⟨_,rfl,m,dx4,_,rfl,hm4,Ze4 ..,xw9 m rd sd L s nb li lo w ⟨rfl,M4,W,fun xc H5 hc s5=>?_⟩⟩
 have s05:=s04.trans s5
 have M5:=M.same s05
 obtain⟨dx5,hm5⟩:=M5.ob
 refine⟨_,rfl,m,dx5,_,rfl,hm5,Zkz ..,xw9 m rd sd L s nb li lo _ ⟨rfl,M5,fun H6 s6=>?_⟩⟩
 have s06:=s05.trans s6
 have M6:=M.same s06
 obtain⟨dx6,hm6⟩:=M6.ob
 refine⟨_,rfl,m,dx6,_,rfl,hm6,Zju ..,xw9 m rd sd L s nb li lo _ ⟨rfl,M6,fun lh H7 hlh hh7 s7=>?_⟩⟩
 have s07:=s06.trans s7
 have M7:=M.same s07
 obtain⟨dx7,hm7⟩:=M7.ob
 refine⟨_,rfl,m,dx7,_,rfl,hm7,ZdK ..,xw9 m rd sd L s nb li lo _ ⟨rfl,M7,?_⟩⟩
 refine⟨_,rfl,m,dx7,_,rfl,hm7,ZfX ..,xw9 m rd sd L s nb li lo _ ⟨rfl,M7,(by show 5≤sizeLine;decide),fun tt htt=>?_⟩⟩
 have s8:=Zh htt (.lst [xc,.int (Zat (L.map toL)).sum,.ref lh,.int li,.int lo])
 have htt8:(upd H7 tt (.lst [xc,.int (Zat (L.map toL)).sum,.ref lh,.int li,.int lo])) tt=some (.lst [xc,.int (Zat (L.map toL)).sum,.ref lh,.int li,.int lo]):=Zb
 generalize upd H7 tt (.lst [xc,.int (Zat (L.map toL)).sum,.ref lh,.int li,.int lo])=H8 at s8 htt8 ⊢
 have s08:=s07.trans s8
 refine⟨_,rfl,_,rfl,o,ra,ga,Lo,nb',li,lo,rfl,ow.same s08,fun yc H9 hyc s9=>?_⟩
 have s09:=s08.trans s9
 refine⟨_,rfl,o,ra,ga,Lo,nb',li,lo,rfl,ow.same s09,fun H10 s10=>?_⟩
 refine⟨_,rfl,(by show 3≤sizeLine;decide),fun c3 hc3=>?_⟩
 have s11:=Zh hc3 (.lst [yc,.int (Zat Lo).sum,.ref l])
 have hc11:(upd H10 c3 (.lst [yc,.int (Zat Lo).sum,.ref l])) c3=some (.lst [yc,.int (Zat Lo).sum,.ref l]):=Zb
 generalize upd H10 c3 (.lst [yc,.int (Zat Lo).sum,.ref l])=H11 at s11 hc11 ⊢
 have s911:ZH H9 H11:=s10.trans s11
 have s311:ZH H3 H11:=(((((s4.trans s5).trans s6).trans s7).trans s8).trans s9).trans s911
 refine⟨_,rfl,c3,sf,_,_,rfl,rfl,hc11,s311 _ _ hsf3,(by show 3+2≤sizeLine;decide),fun c4 hc4=>?_⟩
 have s12:=Zh hc4 (.lst ([yc,.int (Zat Lo).sum,.ref l]++[.int li,.int lo]))
 have hc12:(upd H11 c4 (.lst ([yc,.int (Zat Lo).sum,.ref l]++[.int li,.int lo]))) c4=some (.lst ([yc,.int (Zat Lo).sum,.ref l]++[.int li,.int lo])):=Zb
 generalize upd H11 c4 (.lst ([yc,.int (Zat Lo).sum,.ref l]++[.int li,.int lo]))=H12 at s12 hc12 ⊢
 have s912:=s911.trans s12
 have s812:=s9.trans s912
 have s712:=s8.trans s812
 have s212:=s3.trans (s311.trans s12)
 have sl5:=s6.trans (s7.trans s712)
 rw[ZmN ag]at hc12
 refine⟨.ref tt,.ref c4,rfl,Zgj (s812 _ _ htt8) hc12 (by show 5≤1000;decide) (.cons (Zpr ag M.nd (hc.same sl5) (hyc.same s912)) (.cons (Za6 _) (.cons (ZoY (hh7.same s712) (hl2'.same s212) ?_) (.cons (Za6 _) (.cons (Za6 _) .nil))))),fun H13 s13=>q H13 (s08.trans (s812.trans s13))⟩
 unfold Zhu
 have:=M.few
 rw[Qa,Qa];omega
def ZeI(rs:List (Addr×List Str)):PyData:=.list (rs.map fun x=>.list (x.2.map PyData.str))
theorem Zjr:∀rs:List (Addr×List Str),(∀x∈rs,∀s∈x.2,AZ s)→PyData.canLayAll0 (rs.map fun x=>PyData.list (x.2.map PyData.str))=true∧PyData.depthAll (rs.map fun x=>PyData.list (x.2.map PyData.str))≤1
 | [],_=>⟨rfl,by simp[PyData.depthAll]⟩
 | x::r,h=>by
  obtain⟨a,b⟩:=Zjr r fun y hy=>h y (Qu _ hy)
  have hz:=Zhb x.2 (h x (by simp))
  refine⟨by simp[PyData.canLayAll0,PyData.canLay0,hz,a],?_⟩
  rw[Qh]
  simp only[PyData.depthAll,PyData.depth,ZeV]
  omega
theorem Zf3(rs:List (Addr×List Str))(h:∀x∈rs,∀s∈x.2,AZ s):SeqAt.shaped (ZeI rs)=true:=by
 obtain⟨a,b⟩:=Zjr rs h
 have h1:PyData.canLay0 (ZeI rs)=true:=by unfold ZeI;simp only[PyData.canLay0,a]
 have h2:PyData.depth (ZeI rs)≤64:=by unfold ZeI;simp only[PyData.depth];omega
 unfold SeqAt.shaped
 rw[h1,decide_eq_true h2];rfl
theorem dv_rows'{K:PySem.W.Frag}{H:Hp}:∀rs:List (Addr×List Str),(∀x∈rs,H x.1=some (.lst (x.2.map V.str)))→DVs K H (rs.map fun x=>V.ref x.1) (rs.map fun x=>PyData.list (x.2.map PyData.str))
 | [],_=>.nil
 | x::r,h=>.cons (.lst (SqL.of (h x (by simp))) (ZcI _)) (dv_rows' r fun y hy=>h y (Qu _ hy))
theorem Zls{K:PySem.W.Frag}{H:Hp}{r:Addr}{rs:List (Addr×List Str)}(h:ZcS H r rs):DV K H (.ref r) (ZeI rs):=.lst (SqL.of h.at') (dv_rows' rs fun x hx=>(h.lst x hx).1)
def ZT(M:List Int)(n:Int):List Int:=if n∈lo M then lo M else up M
def Zaf(M:List Int)(n:Int):List Int:=if n∈lo M then up M else lo M
def ZK:Nat→List Int→Int→List (List Int)
 | 0,_,_=>[]
 | k+1,M,n=>if 2≤M.length then ZK k (ZT M n) n++[M] else []
inductive Sub (N:List Int):List Int→Prop
 | top:Sub N N
 | lo {M:List Int}:Sub N M→2≤M.length→Sub N (lo M)
 | up {M:List Int}:Sub N M→2≤M.length→Sub N (up M)
theorem Sub.trans{A B C:List Int}(h:Sub A B)(k:Sub B C):Sub A C:=by
 induction k with
 | top=>exact h
 | lo _ h2 ih=>exact ih.lo h2
 | up _ h2 ih=>exact ih.up h2
theorem Sub.rise{N M:List Int}(h:Sub N M)(r:Zag N):Zag M:=by
 induction h with
 | top=>exact r
 | lo _ _ ih=>exact Zeq ih
 | up _ _ ih=>exact ZeA ih
theorem Sub.mem{N M:List Int}(h:Sub N M){x:Int}(hx:x∈M):x∈N:=by
 induction h with
 | top=>exact hx
 | lo _ _ ih=>exact ih (Qab hx)
 | up _ _ ih=>exact ih (Qac hx)
theorem Sub.len{N M:List Int}(h:Sub N M):M.length≤N.length:=by
 induction h with
 | top=>exact Qg _
 | lo _ h2 ih=>exact Qy (Qam (ZcR h2).1) ih
 | up _ h2 ih=>exact Qy (Qam (Zdy h2).1) ih
theorem ZgQ{M:List Int}(h:2≤M.length)(n:Int):Sub M (ZT M n):=by
 unfold ZT
 split
 ·exact Sub.top.lo h
 ·exact Sub.top.up h
theorem ZeR{M:List Int}(h:2≤M.length)(n:Int):(ZT M n).length<M.length:=by
 unfold ZT
 split
 ·exact(ZcR h).1
 ·exact(Zdy h).1
theorem Zdr{M:List Int}{n:Int}(h:n∈M):n∈ZT M n:=by
 unfold ZT
 split
 ·assumption
 ·rename_i hn
  rw[← Zcc M]at h
  exact(Qk.mp h).resolve_left hn
theorem Zg5{M:List Int}(r:Zag M){n:Int}(hn:n∈ZT M n):n ∉ Zaf M n:=by
 intro h
 unfold Zaf ZT at *
 split at h
 ·rename_i hl
  have:=ZM r hl h
  omega
 ·rename_i hl;exact hl h
theorem Zeo(M:List Int)(n:Int):(ZT M n++Zaf M n).Perm M:=by
 unfold ZT Zaf
 split
 ·rw[Zcc]
 ·exact List.perm_append_comm.trans (by rw[Zcc])
def Kys(M:List Int)(k:Int×Int):Prop:=∃M',Sub M M'∧2≤M'.length∧k=ZS M'
theorem Zi4{M:List Int}{k:Int×Int}(h:Kys M k):k.1∈M∧k.2∈M:=by
 obtain⟨M',s,h2,rfl⟩:=h
 have hn:M'≠[]:=Zak (by omega)
 exact⟨s.mem (Zcl hn),s.mem (Zcn hn)⟩
theorem ZmO{M:List Int}(r:Zag M)(h2:2≤M.length){k:Int×Int}(h:Kys (lo M) k):k≠ZS M∧¬ Kys (up M) k:=by
 have:=Zi4 h
 refine⟨fun z=>?_,fun m=>?_⟩
 ·have h1:=ZfJ h2
  rw[z,h1]at this
  have:=ZM r this.2 (Zcn (Zak (Zdy h2).2))
  omega
 ·have:=ZM r this.1 (Zi4 m).1
  omega
theorem Zmz{M:List Int}(r:Zag M)(h2:2≤M.length){k:Int×Int}(h:Kys (up M) k):k≠ZS M∧¬ Kys (lo M) k:=by
 have:=Zi4 h
 refine⟨fun z=>?_,fun m=>?_⟩
 ·have h1:=ZfV h2
  rw[z,h1]at this
  have:=ZM r (Zcl (Zak (ZcR h2).2)) this.1
  omega
 ·have:=ZM r (Zi4 m).1 this.1
  omega
theorem Zj1{M:List Int}(r:Zag M)(h2:2≤M.length){n:Int}{k:Int×Int}(h:Kys (ZT M n) k):k≠ZS M∧¬ Kys (Zaf M n) k:=by
 unfold ZT at h
 unfold Zaf
 split
 ·rename_i hl;rw[if_pos hl]at h;exact ZmO r h2 h
 ·rename_i hl;rw[if_neg hl]at h;exact Zmz r h2 h
theorem ZjS{M:List Int}(r:Zag M)(h2:2≤M.length){n:Int}{k:Int×Int}(h:Kys (Zaf M n) k):k≠ZS M∧¬ Kys (ZT M n) k:=by
 unfold Zaf at h
 unfold ZT
 split
 ·rename_i hl;rw[if_pos hl]at h;exact Zmz r h2 h
 ·rename_i hl;rw[if_neg hl]at h;exact ZmO r h2 h
theorem ZfM{M M':List Int}(h:Sub M M'):M'=M∨(2≤M.length∧(Sub (lo M) M'∨Sub (up M) M')):=by
 induction h with
 | top=>exact .inl rfl
 | lo h h2 ih =>
  rcases ih with rfl|⟨g,ih⟩
  ·exact .inr ⟨h2,.inl .top⟩
  ·exact .inr ⟨g,ih.imp (fun z=>z.lo h2) (fun z=>z.lo h2)⟩
 | up h h2 ih =>
  rcases ih with rfl|⟨g,ih⟩
  ·exact .inr ⟨h2,.inr .top⟩
  ·exact .inr ⟨g,ih.imp (fun z=>z.up h2) (fun z=>z.up h2)⟩
theorem Znr{M M':List Int}(n:Int)(h:Sub M M'):M'=M∨(2≤M.length∧(Sub (ZT M n) M'∨Sub (Zaf M n) M')):=by
 rcases ZfM h with h|⟨g,h⟩
 ·exact .inl h
 ·refine .inr ⟨g,?_⟩
  unfold ZT Zaf
  split
  ·exact h
  ·exact h.symm
def ZeK(hd:Hd)(s:StL)(A B:List Int)(k:Int×Int):Prop :=
 (∀a b x y,Win hd A (some a)→Win hd B (some b)→hd a=some x→hd b=some y→∃t lz,Z0 s k=some (some (t,lz,((lcp x y:Nat):Int)))∧((Btr x a y b∧lz=b)∨(Btr y b x a∧lz=a))) ∧
 ((Win hd A none∨Win hd B none)→Z0 s k=none∨Z0 s k=some none)
theorem ZeK.swap{hd:Hd}{s:StL}{A B:List Int}{k:Int×Int}(h:ZeK hd s A B k):ZeK hd s B A k:=by
 refine⟨fun a b x y wa wb hx hy=>?_,fun hw=>h.2 hw.symm⟩
 obtain⟨t,lz,e,o⟩:=h.1 b a y x wb wa hy hx
 exact⟨t,lz,by rw[Zcu x y];exact e,o.symm⟩
def ZR(hd:Hd)(s:StL)(N:List Int):Prop:=∀M,Sub N M→2≤M.length→ZeK hd s (lo M) (up M) (ZS M)
theorem ZR.sub{hd:Hd}{s:StL}{N M:List Int}(h:ZR hd s N)(k:Sub N M):ZR hd s M:=fun M' h' h2=>h M' (k.trans h') h2
theorem ZR.at_side{hd:Hd}{s:StL}{M:List Int}(h:ZR hd s M)(h2:2≤M.length)(n:Int):ZeK hd s (ZT M n) (Zaf M n) (ZS M):=by
 have:=h M .top h2
 unfold ZT Zaf
 split
 ·exact this
 ·exact this.swap
theorem Zc0:∀ (n:Nat) (hd:Hd) (s:StL) (N:List Int),Zag N→N.length≤2 ^ (n-1)→0<n→ZeD hd s n N→ZR hd s N
 | 0,_,_,_,_,_,h,_=>absurd h (by omega)
 | n+1,hd,s,N,r,hl,_,h=>fun M hM h2=>by
  rw[Qaa]at hl
  rcases ZfM hM with rfl|⟨g,hM⟩
  ·obtain⟨_,_,c1,c2⟩:=h h2
   refine⟨fun a b x y wa wb hx hy=>?_,c2⟩
   obtain⟨t,e⟩:=c1 a b x y wa wb hx hy
   have hab:=ZM r wa.1 wb.1
   by_cases hb:ZQ x y<0∨(ZQ x y=0∧a<b)
   ·rw[if_pos hb]at e;exact⟨t,b,e,.inl ⟨hb,rfl⟩⟩
   ·rw[if_neg hb]at e;exact⟨t,a,e,.inr ⟨(Btr.total (show a≠b by omega)).resolve_left hb,rfl⟩⟩
  ·obtain⟨h1,h3,_⟩:=h g
   have hn:1≤n:=by
    cases n with
    | zero=>simp at hl;omega
    | succ m=>omega
   have hp:2 ^ n=2*2 ^ (n-1):=by
    obtain⟨m,rfl⟩:∃m,n=m+1:=⟨n-1,by omega⟩
    rw[QaR,Qaa];omega
   rcases hM with hM|hM
   ·exact Zc0 n hd s (lo N) (Zeq r) (by unfold lo mid;rw[QA];omega) hn h1 M hM h2
   ·exact Zc0 n hd s (up N) (ZeA r) (by unfold up mid;rw[Q0];omega) hn h3 M hM h2
theorem ZeK.congr{hd hd':Hd}{s s':StL}{A B:List Int}{k:Int×Int}(h:ZeK hd s A B k)(ha:∀m∈A,hd' m=hd m)(hb:∀m∈B,hd' m=hd m)(hk:Z0 s' k=Z0 s k):ZeK hd' s' A B k:=by
 refine⟨fun a b x y wa wb hx hy=>?_,fun hw=>?_⟩
 ·rw[hk]
  exact h.1 a b x y (wa.congr fun m hm=>(ha m hm).symm) (wb.congr fun m hm=>(hb m hm).symm) (by rw[← ha a wa.1];exact hx) (by rw[← hb b wb.1];exact hy)
 ·rw[hk]
  exact h.2 (hw.imp (fun w=>w.congr fun m hm=>(ha m hm).symm) (fun w=>w.congr fun m hm=>(hb m hm).symm))
theorem ZR.congr{hd hd':Hd}{s s':StL}{M:List Int}(h:ZR hd s M)(hh:∀m∈M,hd' m=hd m)(hk:∀k,Kys M k→Z0 s' k=Z0 s k):ZR hd' s' M:=fun M' hM h2 =>
 (h M' hM h2).congr (fun m hm=>hh m (hM.mem (Qab hm))) (fun m hm=>hh m (hM.mem (Qac hm))) (hk _ ⟨M',hM,h2,rfl⟩)
theorem Zme{hd:Hd}{s:StL}{M:List Int}{n:Int}(h1:ZR hd s (ZT M n))(h3:ZR hd s (Zaf M n))(h:ZeK hd s (ZT M n) (Zaf M n) (ZS M)):ZR hd s M:=fun M' hM h2=>by
 rcases Znr n hM with rfl|⟨g,hM|hM⟩
 ·unfold ZT Zaf at h
  split at h
  ·exact h
  ·exact h.swap
 ·exact h1 M' hM h2
 ·exact h3 M' hM h2
def low(n:Int)(C:List (List Int)):Nat→List Int
 | 0=>[n]
 | i+1=>C.getD i []
theorem Ze3:∀ (k:Nat) (M:List Int) (n:Int),n∈M→M.length≤2 ^ k→(∀i X,(ZK k M n)[i]? = some X→Sub M X∧2≤X.length∧n∈X∧ZT X n=low n (ZK k M n) i)∧low n (ZK k M n) (ZK k M n).length=M∧(ZK k M n).length≤k
 | 0,M,n,hn,hl=>by
  refine⟨fun i X h=>by unfold ZK at h;simp at h,?_,Qg _⟩
  have h1:M.length=1:=by
   have:=QaV hn
   simp at hl;omega
  obtain⟨x,rfl⟩:=QaU.mp h1
  have:n=x:=by simpa using hn
  rw[this];rfl
 | k+1,M,n,hn,hl=>by
  unfold ZK
  by_cases h2:2≤M.length
  ·rw[if_pos h2]
   have hs:(ZT M n).length≤2 ^ k:=by
    rw[QaR]at hl
    unfold ZT
    split
    ·unfold lo mid;rw[QA];omega
    ·unfold up mid;rw[Q0];omega
   obtain⟨a,b,c⟩:=Ze3 k (ZT M n) n (Zdr hn) hs
   refine⟨fun i X h=>?_,?_,by rw[Qf,Qt];omega⟩
   ·have lw:∀j,j≤(ZK k (ZT M n) n).length→low n (ZK k (ZT M n) n++[M]) j=low n (ZK k (ZT M n) n) j:=fun j hj=>by
     cases j with
     | zero=>rfl
     | succ j =>
      show (ZK k (ZT M n) n++[M]).getD j []=(ZK k (ZT M n) n).getD j []
      rw[QF,QF,QO (by omega)]
    by_cases hi:i<(ZK k (ZT M n) n).length
    ·rw[QO hi]at h
     obtain⟨g1,g2,g3,g4⟩:=a i X h
     exact⟨(ZgQ h2 n).trans g1,g2,g3,by rw[lw i (by omega)];exact g4⟩
    ·have hi':i=(ZK k (ZT M n) n).length:=by
      have:=(Qi.mp h).1
      rw[Qf,Qt]at this
      omega
     subst hi'
     rw[QP (Qg _),QaS]at h
     cases h
     exact⟨.top,h2,hn,by rw[lw _ (Qg _),b]⟩
   ·rw[Qf,Qt]
    show (ZK k (ZT M n) n++[M]).getD _ []=M
    rw[QF,QP (Qg _),QaS];rfl
  ·rw[if_neg h2]
   refine⟨fun i X h=>by simp at h,?_,Qv _⟩
   have h1:M.length=1:=by have:=QaV hn;omega
   obtain⟨x,rfl⟩:=QaU.mp h1
   have:n=x:=by simpa using hn
   rw[this];rfl
structure Tk (hd hd':Hd) (N:List Int) (n:Int) (z:List Nat):Prop where
 win:Win hd N (some n)
 key:hd n=some z
 oth:∀b,b≠n→hd' b=hd b
 nxt:∀x,hd' n=some x→ZQ z x≤0
 up:Zag N
theorem Tk.ge{hd hd':Hd}{N:List Int}{n:Int}{z:List Nat}(h:Tk hd hd' N n z){b:Int}(hb:b∈N){y:List Nat}(hy:hd' b=some y):ZQ z y≤0:=by
 by_cases e:b=n
 ·exact h.nxt y (by rw[← e];exact hy)
 ·obtain⟨_,x,hx,hw⟩:=h.win
  rw[h.key]at hx
  cases hx
  rw[h.oth b e]at hy
  rcases hw b hb y hy with z|z
  ·exact absurd z e
  ·rcases z with z|z<;>omega
inductive Ag (hd:Hd) (z:List Nat):List (List Int×List Int)→Int→Int→Prop
 | nil:Ag hd z [] 0 0
 | no {C:List (List Int×List Int)} {A B:List Int} {k q:Int}:Ag hd z C k q→(Win hd A none∨Win hd B none)→Ag hd z (C++[(A,B)]) k q
 | eq {C:List (List Int×List Int)} {A B:List Int} {k q:Int} {a b:Int} {x y:List Nat}:Ag hd z C k q→Win hd A (some a)→Win hd B (some b)→hd a=some x→hd b=some y→lcp x z=lcp y z→Ag hd z (C++[(A,B)]) (k+1) (q+((lcp x y:Nat)-(lcp x z:Nat)+1))
 | ne {C:List (List Int×List Int)} {A B:List Int} {k q:Int} {a b:Int} {x y:List Nat}:Ag hd z C k q→Win hd A (some a)→Win hd B (some b)→hd a=some x→hd b=some y→lcp x z≠lcp y z→Ag hd z (C++[(A,B)]) (k+1) q
theorem ZgL{α:Type}{C D:List α}{c d:α}(h:C++[c]=D++[d]):C=D∧c=d:=by
 have:=List.append_inj' h rfl
 exact⟨this.1,by simpa using this.2⟩
theorem Ag.last{hd:Hd}{z:List Nat}{D:List (List Int×List Int)}{k q:Int}(h:Ag hd z D k q):∀ {C:List (List Int×List Int)} {A B:List Int},D=C++[(A,B)]→∃k0 q0,Ag hd z C k0 q0∧(((Win hd A none∨Win hd B none)∧k=k0∧q=q0)∨(∃a b x y,Win hd A (some a)∧Win hd B (some b)∧hd a=some x∧hd b=some y∧k=k0+1∧q=if lcp x z=lcp y z then q0+((lcp x y:Nat)-(lcp x z:Nat)+1) else q0)):=by
 intro C A B e
 cases h with
 | nil=>simp at e
 | no g hw=>obtain⟨rfl,e2⟩:=ZgL e;cases e2;exact⟨_,_,g,.inl ⟨hw,rfl,rfl⟩⟩
 | eq g wa wb hx hy he=>obtain⟨rfl,e2⟩:=ZgL e;cases e2;exact⟨_,_,g,.inr ⟨_,_,_,_,wa,wb,hx,hy,rfl,by rw[if_pos he]⟩⟩
 | ne g wa wb hx hy he=>obtain⟨rfl,e2⟩:=ZgL e;cases e2;exact⟨_,_,g,.inr ⟨_,_,_,_,wa,wb,hx,hy,rfl,by rw[if_neg he]⟩⟩
theorem Ag.one{hd:Hd}{z:List Nat}{C:List (List Int×List Int)}{k q:Int}(h:Ag hd z C k q):∀ {k' q':Int},Ag hd z C k' q'→k=k'∧q=q':=by
 induction h with
 | nil =>
  intro k' q' g
  generalize hC:([]:List (List Int×List Int))=C at g
  cases g with
  | nil=>exact⟨rfl,rfl⟩
  | no _ _=>simp at hC
  | eq _ _ _ _ _ _=>simp at hC
  | ne _ _ _ _ _ _=>simp at hC
 | no g hw ih =>
  intro k' q' g'
  obtain⟨k0,q0,g0,o⟩:=g'.last rfl
  obtain⟨e1,e2⟩:=ih g0
  rcases o with⟨_,rfl,rfl⟩|⟨a,b,x,y,wa,wb,_⟩
  ·exact⟨e1,e2⟩
  ·rcases hw with hw|hw
   ·exact nomatch hw.one wa
   ·exact nomatch hw.one wb
 | eq g wa wb hx hy he ih =>
  intro k' q' g'
  obtain⟨k0,q0,g0,o⟩:=g'.last rfl
  obtain⟨e1,e2⟩:=ih g0
  rcases o with⟨hw,_⟩|⟨a,b,x,y,wa',wb',hx',hy',rfl,rfl⟩
  ·rcases hw with hw|hw
   ·exact nomatch hw.one wa
   ·exact nomatch hw.one wb
  ·have ea:=Ql (wa.one wa')
   have eb:=Ql (wb.one wb')
   subst ea;subst eb
   rw[hx]at hx';cases hx'
   rw[hy]at hy';cases hy'
   rw[if_pos he]
   exact⟨by rw[e1],by rw[e2]⟩
 | ne g wa wb hx hy he ih =>
  intro k' q' g'
  obtain⟨k0,q0,g0,o⟩:=g'.last rfl
  obtain⟨e1,e2⟩:=ih g0
  rcases o with⟨hw,_⟩|⟨a,b,x,y,wa',wb',hx',hy',rfl,rfl⟩
  ·rcases hw with hw|hw
   ·exact nomatch hw.one wa
   ·exact nomatch hw.one wb
  ·have ea:=Ql (wa.one wa')
   have eb:=Ql (wb.one wb')
   subst ea;subst eb
   rw[hx]at hx';cases hx'
   rw[hy]at hy';cases hy'
   rw[if_neg he]
   exact⟨by rw[e1],e2⟩
theorem Zlh:∀ (x z y:List Nat),lcp z y<lcp x z→ZQ x y=ZQ z y
 | [],z,y,h=>by rw[lcp_nil']at h;omega
 | _::_,[],y,h=>by rw[Zer]at h;omega
 | a::x,b::z,[],h=>by unfold ZQ;rfl
 | a::x,b::z,c::y,h=>by
  unfold lcp at h
  by_cases e:a=b
  ·subst e
   rw[if_pos rfl]at h
   by_cases e2:a=c
   ·subst e2
    rw[if_pos rfl]at h
    unfold ZQ
    rw[if_pos rfl,if_pos rfl]
    exact Zlh x z y (by omega)
   ·unfold ZQ
    rw[if_neg e2,if_neg e2]
  ·rw[if_neg e]at h;omega
theorem ZoO{x z y:List Nat}(h:lcp z y<lcp x z):lcp x y=lcp z y:=by
 have:=ZfR x y z
 rw[Zcu y z]at this
 omega
theorem Zqa{x z y:List Nat}(h:lcp x z=lcp y z):lcp x z≤lcp x y:=by
 have:=ZfR x y z
 omega
theorem Zjh{x z y:List Nat}{a b:Int}(h:lcp y z<lcp x z)(hz:ZQ z y≤0):Btr x a y b∧lcp x y=lcp y z:=by
 rw[Zcu y z]at h ⊢
 refine⟨.inl ?_,ZoO h⟩
 rw[Zlh x z y h]
 rcases Int.lt_or_eq_of_le hz with g|g
 ·exact g
 ·have e:=Zfq _ _ g
  subst e
  rw[Zjj]at h
  have:=(ZfK x z).2
  omega
abbrev Com:=Option (Int×Int)
def Zjq(hd:Hd)(z:List Nat)(M:List Int)(c:Com):Prop:=Win hd M (c.map (·.1))∧∀p,c=some p→∃x,hd p.1=some x∧p.2=((lcp x z:Nat):Int)
theorem ZmI{hd hd':Hd}{N M:List Int}{n:Int}{z:List Nat}{s:StL}(T:Tk hd hd' N n z)(hM:Sub N M)(h2:2≤M.length)(hn:n∈M)(ok:ZR hd s N) :
  (Win hd' (Zaf M n) none∧(Z0 s (ZS M)=none∨Z0 s (ZS M)=some none))∨∃t b y,Win hd' (Zaf M n) (some b)∧hd' b=some y∧b∈N∧Z0 s (ZS M)=some (some (t,b,((lcp y z:Nat):Int))):=by
 have r:=hM.rise T.up
 have nd:=ZcX r
 have hno:=Zg5 r (Zdr hn)
 have nS:=(ok.sub hM).at_side h2 n
 have hoN:∀b∈Zaf M n,b∈M:=fun b hb=>(Zeo M n).mem_iff.mp (Qz _ hb)
 have hsN:∀b∈ZT M n,b∈M:=fun b hb=>(Zeo M n).mem_iff.mp (QJ _ hb)
 have wS:Win hd (ZT M n) (some n):=by
  obtain⟨_,x,hx,hw⟩:=T.win
  exact⟨Zdr hn,x,hx,fun b hb y hy=>hw b (hM.mem (hsN b hb)) y hy⟩
 have cO:∀m∈Zaf M n,hd' m=hd m:=fun m hm=>T.oth m fun e=>hno (e ▸ hm)
 have ndO:(Zaf M n).Nodup:=by unfold Zaf;split;exact ZcX (ZeA r);exact ZcX (Zeq r)
 obtain⟨w,hw⟩:=Win.ex hd (Zaf M n) ndO
 cases w with
 | none=>exact .inl ⟨hw.congr cO,nS.2 (.inr hw)⟩
 | some b =>
  obtain⟨y,hy⟩:∃y,hd b=some y:=by obtain⟨_,y,hy,_⟩:=hw;exact⟨y,hy⟩
  obtain⟨t,lz,e,o⟩:=nS.1 n b z y wS hw T.key hy
  have hbM:=hoN b hw.1
  have hbn:b≠n:=fun z=>hno (z ▸ hw.1)
  have hB:Btr z n y b:=by
   obtain⟨_,x,hx,hww⟩:=T.win
   rw[T.key]at hx;cases hx
   exact(hww b (hM.mem hbM) y hy).resolve_left hbn
  have el:lz=b:=by
   rcases o with⟨_,e⟩|⟨e,_⟩
   ·exact e
   ·exact(hB.asym e).elim
  subst el
  exact .inr ⟨t,lz,y,hw.congr cO,by rw[cO lz hw.1];exact hy,hM.mem hbM,by rw[Zcu y z];exact e⟩
theorem Zlp(ns:List Int):(ZeC ns).length=(ns.length+1) / 2:=by unfold ZeC mid;rw[QA];omega
theorem Zln(ns:List Int):(Zhh ns).length=ns.length / 2:=by unfold Zhh mid;rw[Q0];omega
def Zhv:Nat→List Int→Int→List (List Int)
 | 0,_,_=>[]
 | f+1,ns,n=>if ns.length≤1 then [] else if n∈ZeC ns then Zhh ns::Zhv f (ZeC ns) n else ZeC ns::Zhv f (Zhh ns) n
def Zcb(ns:List Int)(n:Int):List Int:=if n∈ZeC ns then ZeC ns else Zhh ns
def Zdt(ns:List Int)(n:Int):List Int:=if n∈ZeC ns then Zhh ns else ZeC ns
theorem Zfg{ns:List Int}{n:Int}(h:1<ns.length):(Zcb ns n).length<ns.length:=by
 unfold Zcb
 split
 ·rw[Zlp];omega
 ·rw[Zln];omega
theorem ZnO{ns:List Int}{n:Int}(h:1<ns.length):0<(Zcb ns n).length:=by
 unfold Zcb
 split
 ·rw[Zlp];omega
 ·rw[Zln];omega
theorem ZfQ{f:Nat}{ns:List Int}{n:Int}(h:1<ns.length):Zhv (f+1) ns n=Zdt ns n::Zhv f (Zcb ns n) n:=by
 conv=>lhs;unfold Zhv
 rw[if_neg (by omega)]
 unfold Zdt Zcb
 split<;>rfl
theorem Zcx{f:Nat}{ns:List Int}{n:Int}(h:ns.length≤1):Zhv f ns n=[]:=by
 cases f with
 | zero=>rfl
 | succ f=>unfold Zhv;rw[if_pos h]
theorem ZhX:∀ (f g:Nat) (ns:List Int) (n:Int),ns.length≤f+1→ns.length≤g+1→Zhv f ns n=Zhv g ns n
 | 0,g,ns,n,h,_=>by rw[Zcx (by omega),Zcx (by omega)]
 | f+1,0,ns,n,_,h=>by rw[Zcx (by omega),Zcx (by omega)]
 | f+1,g+1,ns,n,h1,h2=>by
  by_cases h:1<ns.length
  ·have:=Zfg (n:=n) h
   rw[ZfQ h,ZfQ h,ZhX f g _ n (by omega) (by omega)]
  ·rw[Zcx (by omega),Zcx (by omega)]
def way(ns:List Int)(n:Int):List (List Int):=Zhv ns.length ns n
theorem ZjI{ns:List Int}{n:Int}(h:1<ns.length):way ns n=Zdt ns n::way (Zcb ns n) n:=by
 unfold way
 cases e:ns.length with
 | zero=>omega
 | succ f =>
  have:=Zfg (n:=n) h
  rw[ZfQ h,ZhX f (Zcb ns n).length _ n (by omega) (by omega)]
theorem Zis{ns:List Int}{n:Int}(h:ns.length≤1):way ns n=[]:=Zcx h
theorem ZiB(n:Int):∀ns:List Int,inV (.int n) (ns.map V.int)=decide (n∈ns)
 | []=>rfl
 | m::r=>by
  have ih:=ZiB n r
  unfold inV at ih ⊢
  rw[Qh,QaI,ih]
  by_cases h:m=n
  ·subst h;simp[eqV]
  ·have:(m == n)=false:=by simpa using h
   simp[eqV,this,List.mem_cons,Ne.symm h]
theorem ZfS:∀ns:List Int,(ns.map V.int).all Zfa=true
 | []=>rfl
 | _::r=>by rw[Qh,List.all_cons,ZfS r];rfl
def Rd(H:Hp):List Addr→List (List Int)→Prop
 | [],[]=>True
 | l::ls,d::ds=>H l=some (.lst (d.map V.int))∧Rd H ls ds
 | _,_=>False
theorem Rd.len{H:Hp}:∀ {ls:List Addr} {ds:List (List Int)},Rd H ls ds→ls.length=ds.length
 | [],[],_=>rfl
 | [],_::_,h=>h.elim
 | _::_,[],h=>h.elim
 | _::ls,_::ds,h=>by rw[QK,QK,Rd.len h.2]
theorem Rd.mono{H H':Hp}:∀ {ls:List Addr} {ds:List (List Int)},(∀l∈ls,∀o,H l=some o→H' l=some o)→Rd H ls ds→Rd H' ls ds
 | [],[],_,_=>trivial
 | [],_::_,_,h=>h.elim
 | _::_,[],_,h=>h.elim
 | l::ls,_::ds,k,h=>⟨k l (by simp) _ h.1,Rd.mono (fun x hx=>k x (Qu _ hx)) h.2⟩
theorem Rd.app{H:Hp}:∀ {ls:List Addr} {ds:List (List Int)} {ms:List Addr} {es:List (List Int)},Rd H ls ds→Rd H ms es→Rd H (ls++ms) (ds++es)
 | [],[],_,_,_,h=>h
 | [],_::_,_,_,h,_=>h.elim
 | _::_,[],_,_,h,_=>h.elim
 | _::ls,_::ds,_,_,h,g=>⟨h.1,Rd.app h.2 g⟩
theorem Rd.rev{H:Hp}:∀ {ls:List Addr} {ds:List (List Int)},Rd H ls ds→Rd H ls.reverse ds.reverse
 | [],[],h=>h
 | [],_::_,h=>h.elim
 | _::_,[],h=>h.elim
 | l::ls,d::ds,h=>by
  rw[Qay,Qay]
  exact Rd.app (Rd.rev h.2) ⟨h.1,trivial⟩
def ZmV:Sp:=fun vs H Q _=>∃ (a:Addr) (ns:List Int) (n:Int),vs=[.ref a,.int n]∧H a=some (.lst (ns.map V.int))∧1≤ns.length∧ns.length≤200 ∧
 ∀ (r:Addr) (ls:List Addr) (H':Hp),H r=none→H' r=some (.lst (ls.map V.ref))→r ∉ ls→(∀l∈ls,H l=none)→Rd H' ls (way ns n).reverse→ZH H H'→Q (.ref r) H'
def Dn(H:Hp)(a o:Addr)(ns:List Int)(n:Int)(b:Addr)(cur:List Int)(ls:List Addr)(H2:Hp):Prop :=
 ∃done:List (List Int),H2 b=some (.lst (cur.map V.int))∧b≠o∧1≤cur.length∧cur.length≤200∧way ns n=done++way cur n∧Rd H2 ls done∧H2 o=some (.lst (ls.map V.ref))∧ZH H H2∧(∀l∈ls,H l=none)∧o ∉ ls∧ls.length+cur.length≤200
theorem Dn.step{H:Hp}{a o:Addr}{ns:List Int}{n:Int}{b:Addr}{cur:List Int}{ls:List Addr}{H2 H3:Hp}(D:Dn H a o ns n b cur ls H2)(hO:H o=none)(h1:1<cur.length)(s:ZH H2 H3){x y:Addr}(hx:H3 x=some (.lst ((Zcb cur n).map V.int)))(hy:H3 y=some (.lst ((Zdt cur n).map V.int)))(nx:H2 x=none)(ny:H2 y=none) :
  Dn H a o ns n x (Zcb cur n) (ls++[y]) (upd H3 o (.lst (ls.map V.ref++[.ref y]))):=by
 obtain⟨done,d1,d2,d3,d4,d5,d6,d7,d8,d9,d10,d11⟩:=D
 have xo:x≠o:=(Zd d7 nx).symm
 have yo:y≠o:=(Zd d7 ny).symm
 have sl:=Zfg (n:=n) h1
 have k:∀l,l≠o→∀u,H3 l=some u→(upd H3 o (.lst (ls.map V.ref++[.ref y]))) l=some u:=fun l hl u hu=>by rw[Zc hl];exact hu
 refine⟨done++[Zdt cur n],k x xo _ hx,xo,ZnO h1,by omega,by rw[d5,ZjI h1,QaA];rfl,?_,?_,fun c u hu=>?_,?_,?_,?_⟩
 ·refine Rd.app (Rd.mono (fun l hl u hu=>k l (fun e=>d10 (e ▸ hl)) u (s _ _ hu)) d6) ⟨k y yo _ hy,trivial⟩
 ·rw[Zb,Qe];rfl
 ·rw[Zc (Zd hu hO)];exact s _ _ (d8 _ _ hu)
 ·intro l hl
  rcases Qk.mp hl with hl|hl
  ·exact d9 l hl
  ·rw[Qp.mp hl];exact d8.free ny
 ·intro hm
  rcases Qk.mp hm with hl|hl
  ·exact d10 hl
  ·exact yo (Qp.mp hl).symm
 ·rw[Qf,Qt];omega
theorem Zq3(T:Zai K mg cRow cMerge)(f_halves:Df P w K mg base 1 "halves" ["numbers"] (Zb8 K true)):Df P w K mg base 2 "way_up" ["numbers", "n"] ZmV:=by
 refine T.t_way_up.df ZbL (fun vs H Q E h=>?_) (fun cdv f A outer s H vs Q E hr h=>?_)
 ·obtain⟨a,ns,n,rfl,_⟩:=h
  rfl
 obtain⟨a,ns,n,rfl,hA,h1,h100,q⟩:=h
 refine⟨_,#[Zf,#[Zy,2,ZbL.nd,(Or.inl rfl),#[Zab,#[Ze]]],#[Zf,#[Zy,3,ZbL.nd,(Or.inl rfl),‹0›],#[Zf,(@Zd6 _ _ _ _ _ _ PassesOwn.never #[Zo,ZfZ,#[Zk,(Zb1 K),(by rfl),T.b.n_len,Qs,#[Za,‹3›,#[Ze]]],#[Zi],(Zs _)] #[Zf,#[Z4,#[Zv,f_halves,hr,#[Za,‹3›,#[Ze]],(by rfl)],#[gT,K,2,#[ZC,#[ZD,4,ZbL.nd,(Or.inl rfl)],#[ZC,#[ZD,5,ZbL.nd,(Or.inl rfl)],(@ZaF _)]]]],#[Zj,#[Z3,#[Zo,(inQ K),‹1›,‹4›,(by with_unfolding_all rfl)],#[Zf,#[Z8,#[ZdJ,QL,QT,QU,Zbk,‹2›,#[Za,‹5›,#[Ze]]]],#[Zj,#[Zy,3,ZbL.nd,(Or.inl rfl),‹4›]]],#[Zf,#[Z8,#[ZdJ,QL,QT,QU,Zbk,‹2›,#[Za,‹4›,#[Ze]]]],#[Zj,#[Zy,3,ZbL.nd,(Or.inl rfl),‹5›]]]]]]),#[Zf,#[Z8,(@Zm8 _ _ _ _ _ _ _ _ _ QL PySem.F.slot_list_reverse PySem.F.type_list_reverse ZgZ ‹2› (by rfl) (by rfl))],#[Zj,#[Zr,‹2›]]]]]],?_⟩
 refine⟨(by show 0≤sizeLine;decide),fun o hO=>?_⟩
 have nao:a≠o:=Zd hA hO
 refine⟨_,rfl,?_⟩
 refine⟨fun m σ H2=>∃ (b:Addr) (cur:List Int) (ls:List Addr) (v4 v5:Option V),σ=[some (.ref a),some (.int n),some (.ref o),some (.ref b),v4,v5]∧Dn H a o ns n b cur ls H2∧m=cur.length,⟨_,a,ns,[],none,none,rfl,⟨[],?_,nao,h1,h100,rfl,trivial,Zb,Zh hO _,(fun l hl=>by cases hl),(fun hm=>by cases hm),by simpa using h100⟩,rfl⟩,?_⟩
 ·rw[Zc nao];exact hA
 rintro m σ H2 ⟨b,cur,ls,v4,v5,rfl,D,rfl⟩
 obtain⟨done,d1,d2,d3,d4,d5,d6,d7,d8,d9,d10,d11⟩:=id D
 have hlc:(((cur.map V.int).length:Nat):Int)=(cur.length:Int):=by rw[Qa]
 refine⟨_,rfl,b,_,rfl,.inl (SqL.of d1),_,_,rfl,rfl,_,rfl,?_⟩
 refine Zbc (fun c1=>?_) (fun c1=>?_)
 ·have c1':(1:Int)<(((cur.map V.int).length:Nat):Int):=of_decide_eq_true c1
  have hc:1<cur.length:=by omega
  refine⟨_,fun σ' H' h=>h,?_⟩
  refine⟨_,rfl,b,cur,rfl,SqL.of d1,d4,fun t x y H3 ht hx hy nxy et ex ey s3 ntx nty=>?_⟩
  refine⟨t,_,rfl,SqT.of et,rfl,_,_,rfl,_,_,rfl,rfl,?_⟩
  have ho3:=s3 _ _ d7
  have hlt:(ls.map V.ref).length<sizeLine:=by rw[Qa];exact ZB (by omega)
  have sl:=Zfg (n:=n) hc
  refine⟨_,rfl,_,rfl,x,_,rfl,.inl (SqL.of ex),rfl,ZfS _,_,rfl,?_⟩
  show if inV (V.int n) ((ZeC cur).map V.int)=true then _ else _
  rw[ZiB]
  refine Zbc (fun c2=>?_) (fun c2=>?_)
  ·have c2':n∈ZeC cur:=of_decide_eq_true c2
   have e1:Zcb cur n=ZeC cur:=by unfold Zcb;rw[if_pos c2']
   have e2:Zdt cur n=Zhh cur:=by unfold Zdt;rw[if_pos c2']
   refine⟨_,rfl,.inl ⟨rfl,_,SqL.of ho3⟩,_,rfl,o,_,_,rfl,rfl,ho3,hlt,_,rfl,_,?_,x,Zcb cur n,ls++[y],_,_,rfl,D.step hO hc s3 (by rw[e1];exact ex) (by rw[e2];exact ey) hx hy,rfl⟩
   exact sl
  ·have c2':¬ n∈ZeC cur:=fun z=>c2 (decide_eq_true z)
   have e1:Zcb cur n=Zhh cur:=by unfold Zcb;rw[if_neg c2']
   have e2:Zdt cur n=ZeC cur:=by unfold Zdt;rw[if_neg c2']
   refine⟨_,rfl,.inl ⟨rfl,_,SqL.of ho3⟩,_,rfl,o,_,_,rfl,rfl,ho3,hlt,_,rfl,_,?_,y,Zcb cur n,ls++[x],_,_,rfl,D.step hO hc s3 (by rw[e1];exact ey) (by rw[e2];exact ex) hy hx,rfl⟩
   exact sl
 ·have c1':¬ (1:Int)<(((cur.map V.int).length:Nat):Int):=fun z=>c1 (decide_eq_true z)
  have e:way ns n=done:=by rw[d5,Zis (by omega),QaL]
  refine⟨_,rfl,.inl ⟨rfl,_,SqL.of d7⟩,o,_,rfl,rfl,d7,?_⟩
  refine⟨_,rfl,q o ls.reverse _ hO (by rw[Zb,List.map_reverse]) (fun hm=>d10 (List.mem_reverse.mp hm)) (fun l hl=>d9 l (List.mem_reverse.mp hl)) ?_ fun c u hu=>?_⟩
  ·rw[e]
   refine Rd.mono (fun l hl u hu=>?_) d6.rev
   rw[Zc (fun z=>by subst z;exact d10 (List.mem_reverse.mp hl))]
   exact hu
  ·rw[Zc (Zd hu hO)];exact d8 _ _ hu
theorem Zh4:∀ (k:Nat) (M:List Int) (n:Int),M.length≤2 ^ k→(way M n).reverse=(ZK k M n).map (fun X=>Zaf X n)
 | 0,M,n,h=>by
  rw[Zis (by simpa using h)];rfl
 | k+1,M,n,h=>by
  unfold ZK
  by_cases h2:2≤M.length
  ·rw[if_pos h2,ZjI (by omega),Qay,Qe]
   have hs:(ZT M n).length≤2 ^ k:=by
    rw[QaR]at h
    unfold ZT
    split
    ·unfold lo mid;rw[QA];omega
    ·unfold up mid;rw[Q0];omega
   have e:=Zh4 k (ZT M n) n hs
   rw[← e];rfl
  ·rw[if_neg h2,Zis (by omega)];rfl
theorem ZmZ{M:List Int}(h:2≤M.length)(n:Int):Zaf M n≠[]:=by
 unfold Zaf
 split
 ·exact Zak (Zdy h).2
 ·exact Zak (ZcR h).2
theorem Zkw{M:List Int}(r:Zag M)(h:2≤M.length)(n:Int):ZS M=(if (Zaf M n).headD 0<(ZT M n).headD 0 then (Zaf M n).headD 0 else (ZT M n).headD 0,if (Zaf M n).getLastD 0>(ZT M n).getLastD 0 then (Zaf M n).getLastD 0 else (ZT M n).getLastD 0):=by
 have a:=ZfV h
 have b:=ZfJ h
 have l1:=Zcl (Zak (ZcR h).2)
 have l2:=Zcn (Zak (ZcR h).2)
 have u1:=Zcl (Zak (Zdy h).2)
 have u2:=Zcn (Zak (Zdy h).2)
 have c:=ZM r l1 u1
 have d:=ZM r l2 u2
 unfold ZT Zaf
 split<;>(refine Prod.ext ?_ ?_<;>dsimp only<;>first|omega|(split<;>omega))
theorem Rd.get{H:Hp}:∀ {ls:List Addr} {ds:List (List Int)},Rd H ls ds→∀ {i:Nat} {l:Addr} {d:List Int},ls[i]? = some l→ds[i]? = some d→H l=some (.lst (d.map V.int))
 | [],[],_,i,l,d,h,_=>by simp at h
 | l::ls,d::ds,⟨h1,h2⟩,0,a,b,e1,e2=>by simp at e1 e2;rw[← e1,← e2];exact h1
 | l::ls,d::ds,⟨h1,h2⟩,i+1,a,b,e1,e2=>Rd.get h2 (by simpa using e1) (by simpa using e2)
def Zif:Sp:=fun vs H Q _=>∃ (a:Addr) (N:List Int) (n:Int),vs=[.ref a,.int n]∧H a=some (.lst (N.map V.int))∧n∈N∧N.length≤60∧Zag N ∧
 ∀ (r:Addr) (ts:List Addr) (H':Hp),H r=none→H' r=some (.lst (ts.map V.ref))→ts.length=(ZK 8 N n).length→(∀ (i:Nat) (t:Addr) (X:List Int),ts[i]? = some t→(ZK 8 N n)[i]? = some X→H' t=some (.tup [.int (ZS X).1,.int (ZS X).2]))→ZH H H'→Q (.ref r) H'
theorem Zkl(T:Zai K mg cRow cMerge)(f_way_up:Df P w K mg base 2 "way_up" ["numbers", "n"] ZmV):Df P w K mg base 3 "matches_up" ["numbers", "n"] Zif:=by
 refine T.t_matches_up.df ZaO (fun vs H Q E h=>?_) (fun cdv f A outer s H vs Q E hr h=>?_)
 ·obtain⟨a,N,n,rfl,_⟩:=h
  rfl
 obtain⟨a,N,n,rfl,ha,hn,h60,hup,q⟩:=h
 refine⟨_,#[Zf,#[Zy,2,ZaO.nd,(Or.inl rfl),#[Zab,#[Ze]]],#[Zf,#[Zy,3,ZaO.nd,(Or.inl rfl),‹1›],#[Zf,#[Zy,4,ZaO.nd,(Or.inl rfl),‹1›],#[Zf,#[ZbK,PassesOwn.never,#[iL,K,#[Zv,f_way_up,hr,#[Za,‹0›,#[Za,‹1›,#[Ze]]],(by rfl)]],#[ZD,5,ZaO.nd,(Or.inl rfl)],#[Zf,#[Zy,3,ZaO.nd,(Or.inl rfl),#[Zk,(Zmn rfl),(by rfl),T.b.n_min,boot_min,#[Za,‹3›,#[Za,#[Zm,(ixL K),‹5›,#[Zi]],#[Ze]]]]],#[Zf,#[Zy,4,ZaO.nd,(Or.inl rfl),#[Zk,(Zh0 rfl),(by rfl),T.b.n_max,boot_max,#[Za,‹4›,#[Za,#[Zm,(ixL K),‹5›,#[Zg1,ZeU,#[Zi]]],#[Ze]]]]],#[Zj,#[Z8,#[ZdJ,QL,QT,QU,Zbk,‹2›,#[Za,#[ZaC,#[Za,‹3›,#[Za,‹4›,#[Ze]]]],#[Ze]]]]]]]],#[Zj,#[Zr,‹2›]]]]]],?_⟩
 have hpos:=QaV hn
 have hpw:N.length≤2 ^ 8:=Qy h60 (by decide)
 obtain⟨cok,ctop,clen⟩:=Ze3 8 N n hn hpw
 refine⟨(by show 0≤sizeLine;decide),fun r hr0=>?_⟩
 have s1:=Zh hr0 (.lst [])
 have hr1:(upd H r (.lst [])) r=some (.lst []):=Zb
 generalize upd H r (.lst [])=H1 at s1 hr1 ⊢
 refine⟨_,rfl,_,rfl,_,rfl,_,rfl,a,N,n,rfl,s1 _ _ ha,hpos,by omega,fun wy ls H2 hwy hwy2 hnot hfr hrd s2=>?_⟩
 rw[Zh4 8 N n hpw]at hrd
 have hll:=hrd.len
 rw[Qa]at hll
 have s02:=s1.trans s2
 refine⟨wy,rfl,⟨_,SqL.of hwy2⟩,?_⟩
 refine Zfe (K:=K) (a:=wy) (xs:=ls.map V.ref) (fun i σ H3=>∃ (v5:Option V) (ts:List Addr),σ=[some (.ref a),some (.int n),some (.ref r),some (.int ((low n (ZK 8 N n) i).headD 0)),some (.int ((low n (ZK 8 N n) i).getLastD 0)),v5]∧i≤ls.length∧ts.length=i∧H3 r=some (.lst (ts.map V.ref))∧(∀ (j:Nat) (t:Addr) (X:List Int),ts[j]? = some t→(ZK 8 N n)[j]? = some X→H3 t=some (.tup [.int (ZS X).1,.int (ZS X).2]))∧(∀t∈ts,t≠r∧∃xs,H3 t=some (.tup xs))∧(∀b o,H2 b=some o→b≠r→H3 b=some o)) ⟨_,[],rfl,Qv _,rfl,s2 _ _ hr1,(fun j t X h=>by simp at h),(fun t h=>by cases h),fun b o h _=>h⟩ (fun i σ H3 _ hq=>by obtain⟨_,_,_,_,_,_,_,_,k3⟩:=hq;exact SqL.of (k3 _ _ hwy2 (fun z=>by rw[z,hr1]at hwy;cases hwy))) ?_ ?_
 ·rintro i y σ H3 hy ⟨v5,ts,rfl,hi,htl,hr3,hts,htr,k3⟩
  rw[Qn]at hy
  cases hz:ls[i]? with
  | none=>rw[hz]at hy;cases hy
  | some l =>
  rw[hz]at hy
  cases hy
  have hil:i<ls.length:=(Qi.mp hz).1
  cases hX:(ZK 8 N n)[i]? with
  | none=>rw[Q9]at hX;omega
  | some X =>
  obtain⟨x1,x2,x3,x4⟩:=cok i X hX
  have hl2:H2 l=some (.lst ((Zaf X n).map V.int)):=hrd.get hz (by rw[Qn,hX];rfl)
  have nlr:l≠r:=fun z=>by rw[z]at hl2;rw[s2 _ _ hr1]at hl2;have:=hfr l (Qw hz);rw[z,hr1]at this;cases this
  have hl3:=k3 _ _ hl2 nlr
  have hne:=ZmZ x2 n
  have e2:=Zkw (x1.rise hup) x2 n
  rw[x4]at e2
  have e3:low n (ZK 8 N n) (i+1)=X:=by show (ZK 8 N n).getD i []=X;rw[QF,hX];rfl
  refine⟨_,rfl,_,rfl,xw4 l _ _ _ ⟨rfl,rfl,SqL.of hl3,ZjV hne,_,_,rfl,?_⟩⟩
  refine⟨_,rfl,_,rfl,_,rfl,xw4 l _ _ _ ⟨rfl,rfl,SqL.of hl3,ZjA hne,_,_,rfl,?_⟩⟩
  refine⟨_,rfl,.inl ⟨rfl,_,SqL.of hr3⟩,_,rfl,_,rfl,(by show 2≤sizeLine;decide),fun t ht=>?_⟩
  have nrt:r≠t:=Zd hr3 ht
  refine⟨r,_,_,rfl,rfl,by rw[Zc nrt];exact hr3,(by rw[Qa];exact ZB (by omega)),?_⟩
  refine⟨some (.ref l),ts++[t],?_,hil,by rw[Qf,Qt];omega,by rw[Zb,Qe];rfl,fun j u Y hu hY=>?_,fun u hu=>?_,fun b o hb nb=>?_⟩
  ·rw[e3]
   have h1:=congrArg Prod.fst e2
   have h2:=congrArg Prod.snd e2
   simp only at h1 h2
   rw[show X.headD 0=(ZS X).1 from rfl,show X.getLastD 0=(ZS X).2 from rfl,h1,h2]
   rfl
  ·have htuple:∀ (u:Addr) (xs:List V),H3 u=some (.tup xs)→(upd (upd H3 t (.tup [.int (if (Zaf X n).headD 0<(low n (ZK 8 N n) i).headD 0 then (Zaf X n).headD 0 else (low n (ZK 8 N n) i).headD 0),.int (if (Zaf X n).getLastD 0>(low n (ZK 8 N n) i).getLastD 0 then (Zaf X n).getLastD 0 else (low n (ZK 8 N n) i).getLastD 0)])) r (.lst (ts.map V.ref++[.ref t]))) u=some (.tup xs):=fun u xs hu=>by
    rw[Zc (fun z=>by rw[z,hr3]at hu;cases hu),Zc (Zd hu ht)];exact hu
   by_cases hj:j<ts.length
   ·rw[QO hj]at hu
    exact htuple u _ (hts j u Y hu hY)
   ·have ej:j=ts.length:=by have:=(Qi.mp hu).1;rw[Qf,Qt]at this;omega
    subst ej
    rw[QP (Qg _),QaS]at hu
    cases hu
    rw[htl,hX]at hY
    cases hY
    rw[Zc nrt.symm,Zb,e2]
  ·rcases Qk.mp hu with hu|hu
   ·obtain⟨g1,xs,g2⟩:=htr u hu
    exact⟨g1,xs,by rw[Zc g1,Zc (Zd g2 ht)];exact g2⟩
   ·rw[Qp.mp hu]
    exact⟨nrt.symm,_,by rw[Zc nrt.symm];exact Zb⟩
  ·have:=k3 b o hb nb
   rw[Zc nb,Zc (Zd this ht)];exact this
 ·rintro σ H3 ⟨v5,ts,rfl,_,htl,hr3,hts,_,k3⟩
  rw[Qa]at htl
  exact⟨_,rfl,q r ts H3 hr0 hr3 (by omega) hts (fun b o hb=>k3 b o (s02 b o hb) (Zd hb hr0))⟩
def CV(H:Hp)(v:V)(c:Com):Prop:=(c=none∧v=.non)∨∃ (t:Addr) (p:Int×Int),c=some p∧v=.ref t∧H t=some (.tup [.int p.1,.int p.2])
theorem CV.keep{H H':Hp}{v:V}{c:Com}(h:CV H v c)(k:∀t xs,H t=some (.tup xs)→H' t=some (.tup xs)):CV H' v c:=by
 rcases h with h|⟨t,p,h1,h2,h3⟩
 ·exact .inl h
 ·exact .inr ⟨t,p,h1,h2,k _ _ h3⟩
theorem ZmG{s:StL}{k:Int×Int}{v0:Option (Addr×Int×Int)}(h:Z0 s k=some v0):s.any (fun e=>decide (e.1=k))=true:=Qar.mpr ⟨_,Zh5 h,decide_eq_true rfl⟩
theorem ZfL{s:StL}{k:Int×Int}{v0 v:Option (Addr×Int×Int)}(h:Z0 s k=some v0):(ZcY s k v).length=s.length:=by
 unfold ZcY
 rw[if_pos (ZmG h),Qa]
def AgS(hd:Hd)(z:List Nat)(A B:List Int)(k q:Int):Prop:=∀C k0 q0,Ag hd z C k0 q0→Ag hd z (C++[(A,B)]) (k0+k) (q0+q)
def ZkX(cR cM:Addr):Sp:=fun vs H Q _=>∃ (m rd sd:Addr) (L:List Zw) (s:StL) (nb li lo:Int) (best:V) (tm:Addr) (v:V) (c:Com) (z:List Nat) (M:List Int) (n:Int),vs=[.ref m,.ref tm,v]∧ZP cR cM H m rd sd L s nb li lo best∧H tm=some (.tup [.int (ZS M).1,.int (ZS M).2])∧CV H v c∧Zjq (hdM L) z (ZT M n) c ∧
 ((Win (hdM L) (Zaf M n) none∧(Z0 s (ZS M)=none∨Z0 s (ZS M)=some none))∨∃t b y,Win (hdM L) (Zaf M n) (some b)∧hdM L b=some y∧Z0 s (ZS M)=some (some (t,b,((lcp y z:Nat):Int)))) ∧
 (∀b∈M,∀y,hdM L b=some y→ZQ z y≤0)∧Zag M∧(∀b∈M,b∈ZA L)∧2≤M.length∧n∈M ∧
 ∀ (v':V) (c':Com) (s':StL) (k q:Int) (H':Hp),CV H' v' c'→Zjq (hdM L) z M c'→ZeK (hdM L) s' (ZT M n) (Zaf M n) (ZS M)→(∀j,j≠ZS M→Z0 s' j=Z0 s j)→AgS (hdM L) z (ZT M n) (Zaf M n) k q →
  ZP cR cM H' m rd sd L s' nb (li+k) (lo+q) best→(∀b o,H b=some o→b≠m→b≠sd→H' b=some o)→Q v' H'
theorem Zno{L:List Zw}(nd:(ZA L).Nodup){b:Int}(hb:b∈ZA L){y:List Nat}(hy:hdM L b=some y):∃e∈L,e.n=b∧∃x,e.ss[e.g]? = some x∧y=cds x:=by
 obtain⟨e,he,rfl⟩:=Zd0 hb
 rw[ZeL nd he]at hy
 cases hx:e.ss[e.g]? with
 | none=>rw[hx]at hy;cases hy
 | some x=>rw[hx]at hy;cases hy;exact⟨e,he,rfl,x,hx,rfl⟩
theorem Znl(T:Zai K mg cRow cMerge)(f_Merge_meet:Mf P w K mg base 3 cMerge "meet" ["self", "one", "other", "far"] (Zkj cRow cMerge)):Mf P w K mg base 4 cMerge "play_again" ["self", "meeting", "comer"] (ZkX cRow cMerge):=by
 refine T.t_Merge_play_again.mf Zau (fun vs H Q E h=>?_) (fun cdv f A outer s H vs Q E hr h=>?_)
 ·obtain⟨m,rd,sd,L,s,nb,li,lo,best,tm,v,c,z,M,n,rfl,_⟩:=h
  rfl
 obtain⟨m,rd,sd,L,s,nb,li,lo',best,tm,v,c,z,M,n,rfl,Mg,htm,hcv,⟨wS,hcf⟩,hst,hge,hup,hin,h2,hn,q⟩:=h
 refine⟨_,#[Zf,#[Zy,3,Zau.nd,(Or.inl rfl),(@ZqS _ _ _ _ _ _ _ _ hr #[ZO,‹0›] ‹1› (by rfl) (by rfl) (by rfl))],#[Zf,#[Z3,#[Zo,Zbw,‹3›,#[ZW],(Zs _)],#[Zj,#[Zr,‹2›]],#[ZF]],#[Zf,#[Z3,#[Zo,Zbw,‹2›,#[ZW],(Zs _)],#[Zf,#[Z4,#[ZW],#[ZaS,#[ZO,‹0›],‹1›,(ZdP hr)]],#[Zj,#[Zr,‹3›]]],#[ZF]],#[Zf,#[Z3,#[Zo,Za7,#[Zm,(ixT K),‹2›,#[Zi]],#[Zm,(ixT K),‹3›,#[Zi]],(Zs _)],#[Zf,#[Z4,#[ZcG,f_Merge_meet,T.cl_Merge,hr,‹0›,#[Za,#[Zm,(ixT K),‹2›,#[Zi]],#[Za,#[Zm,(ixT K),‹3›,#[Zi]],#[Za,#[Zm,(ixT K),‹2›,#[Zi]],#[Ze]]]]],#[gT,K,3,#[ZC,#[ZD,4,Zau.nd,(Or.inl rfl)],#[ZC,#[ZD,5,Zau.nd,(Or.inl rfl)],#[ZC,#[ZD,6,Zau.nd,(Or.inl rfl)],(@ZaF _)]]]]],#[Zf,#[Z4,#[ZaC,#[Za,‹5›,#[Za,‹6›,#[Ze]]]],#[ZaS,#[ZO,‹0›],‹1›,(ZdP hr)]],#[Zj,#[Zr,#[ZaC,#[Za,‹4›,#[Za,#[Zm,(ixT K),‹2›,#[Zi]],#[Ze]]]]]]]],#[ZF]],#[Zf,#[Zc1,‹0›,#[Zi],Zgz],#[Zf,#[Z3,#[Zo,ZfZ,#[Zm,(ixT K),‹2›,#[Zi]],#[Zm,(ixT K),‹3›,#[Zi]],(Zs _)],#[Zj,#[Zr,‹2›]],#[ZF]],#[Zf,#[Z4,‹2›,#[ZaS,#[ZO,‹0›],‹1›,(ZdP hr)]],#[Zj,#[Zr,‹3›]]]]]]]]],?_⟩
 obtain⟨dx,hm⟩:=Mg.ob
 have htm':H tm=some (.tup (([.inl (ZS M).1,.inl (ZS M).2]:List Key).map kV)):=htm
 have pm:=Zeo M n
 have dg:=ZL.t (k:=[.inl (ZS M).1,.inl (ZS M).2]) Mg.stays htm'
 rw[ZjB]at dg
 have sA:∀b∈ZT M n,b∈M:=fun b hb=>pm.mem_iff.mp (QJ _ hb)
 have sB:∀b∈Zaf M n,b∈M:=fun b hb=>pm.mem_iff.mp (Qz _ hb)
 have hno:=Zg5 hup (Zdr hn)
 have dis:∀a b,a∈ZT M n→b∈Zaf M n→a≠b:=fun a b ha hb e=>by
  subst e
  unfold ZT Zaf at *
  split at ha
  ·rename_i hl;rw[if_pos hl]at hb;have:=ZM hup ha hb;omega
  ·rename_i hl;rw[if_neg hl]at hb;have:=ZM hup hb ha;omega
 refine⟨_,rfl,xw5 m cMerge dx _ _ ⟨rfl,hm,T.cl_Merge,T.na_Merge_stays,Zdq ..,sd,rfl,.inr ⟨_,.inl Mg.stays⟩,_,rfl,_,dg,?_⟩⟩
 rcases hst with⟨wO,hlk⟩|⟨t,b,y,wO,hy,hlk⟩
 ·have ev:((Z0 s (ZS M)).map stV).getD .non=.non:=by rcases hlk with e|e<;>rw[e]<;>rfl
  rw[ev]
  refine⟨_,rfl,rfl,_,rfl,Zcq rfl ⟨_,rfl,q v c s 0 0 H hcv ⟨(Win.left wS wO).perm pm,hcf⟩ ⟨(fun a b x y _ wb _ _=>nomatch wO.one wb),fun _=>hlk⟩ (fun _ _=>rfl) (fun C k0 q0 g=>by rw[QR,QR];exact .no g (.inr wO)) (Mg.cast (by omega) (by omega)) (fun b o h _ _=>h)⟩⟩
 have hat:=Mg.ats _ (Zh5 hlk) _ rfl
 have e1:((Z0 s (ZS M)).map stV).getD .non=.ref t:=by rw[hlk];rfl
 rw[e1]
 have hsf:=Mg.sfew
 have hsl:(kvS s).length<sizeLine:=by unfold kvS;rw[Qa];exact ZB (by omega)
 refine⟨_,rfl,rfl,_,rfl,Zbv (fun z=>nomatch z) ?_⟩
 have hbM:=sB b wO.1
 rcases hcv with⟨rfl,rfl⟩|⟨tc,p,rfl,rfl,htc⟩
 ·refine⟨_,rfl,rfl,_,rfl,Zcq rfl ?_⟩
  refine⟨_,rfl,xw5 m cMerge dx _ _ ⟨rfl,hm,T.cl_Merge,T.na_Merge_stays,Zdq ..,_,rfl,sd,_,rfl,Zb6.t (k:=[.inl (ZS M).1,.inl (ZS M).2]) Mg.stays htm' hsl,?_⟩⟩
  rw[show V.non=stV none from rfl,Zgm]
  have hl1:(ZcY s (ZS M) none).length≤200:=by rw[ZfL hlk];exact hsf
  have M2:=Mg.put (k:=ZS M) (v:=none) (fun t ht=>by cases ht) hl1
  have wS':Win (hdM L) (ZT M n) none:=wS
  refine⟨_,rfl,q (.ref t) (some (b,((lcp y z:Nat):Int))) _ 0 0 _ (.inr ⟨t,_,rfl,rfl,?_⟩) ⟨(Win.right wS' wO).perm pm,fun p hp=>?_⟩ ⟨(fun a b x y wa _ _ _=>nomatch wS'.one wa),fun _=>.inr ?_⟩ (fun j hj=>?_) (fun C k0 q0 g=>?_) (M2.cast (by omega) (by omega)) (fun b o hb _ n2=>by rw[Zc n2];exact hb)⟩
  ·rw[Zc (fun z=>by rw[z,Mg.stays]at hat;cases hat)];exact hat
  ·cases hp;exact⟨y,hy,rfl⟩
  ·rw[Za3,if_pos rfl]
  ·rw[Za3,if_neg hj]
  ·rw[QR,QR];exact .no g (.inl wS')
 obtain⟨a,fa⟩:=p
 obtain⟨x,hx,efa⟩:=hcf _ rfl
 simp only at hx efa
 subst efa
 have wS':Win (hdM L) (ZT M n) (some a):=wS
 have haM:=sA a wS'.1
 have hab:=dis a b wS'.1 wO.1
 obtain⟨ea,hea,rfl,zx,hzx,rfl⟩:=Zno Mg.nd (hin a haM) hx
 obtain⟨eb,heb,rfl,zy,hzy,rfl⟩:=Zno Mg.nd (hin b hbM) hy
 have c0:atI [V.int ea.n,.int ((lcp (cds zx) z:Nat):Int)] 0=some (.int ea.n):=Zam (j:=0) rfl
 have c1:atI [V.int ea.n,.int ((lcp (cds zx) z:Nat):Int)] 1=some (.int ((lcp (cds zx) z:Nat):Int)):=Zam (j:=1) rfl
 have d0:atI [V.int eb.n,.int ((lcp (cds zy) z:Nat):Int)] 0=some (.int eb.n):=Zam (j:=0) rfl
 have d1:atI [V.int eb.n,.int ((lcp (cds zy) z:Nat):Int)] 1=some (.int ((lcp (cds zy) z:Nat):Int)):=Zam (j:=1) rfl
 refine⟨_,rfl,rfl,_,rfl,Zbv (fun z=>nomatch z) ?_⟩
 refine⟨_,rfl,tc,_,_,_,rfl,rfl,SqT.of htc,c1,_,rfl,xw4 t _ _ _ ⟨rfl,rfl,SqT.of hat,d1,rfl,_,rfl,Zbc (fun d=>?_) (fun d=>?_)⟩⟩
 ·have ef:lcp (cds zx) z=lcp (cds zy) z:=by have:=of_decide_eq_true d;injection this with this;omega
  have hle:=Zqa ef
  refine⟨_,rfl,m,dx,_,rfl,hm,Zhg ..,_,rfl,tc,_,_,_,rfl,rfl,SqT.of htc,c0,_,rfl,xw4 t _ _ _ ⟨rfl,rfl,SqT.of hat,d0,_,rfl,tc,_,_,_,rfl,rfl,SqT.of htc,c1,?_⟩⟩
  refine⟨m,rd,sd,L,s,nb,li,lo',best,ea,eb,zx,zy,lcp (cds zx) z,rfl,Mg,hea,heb,hzx,hzy,hle,fun t5 wi lz H5 hw ht5 ht5' M5 b5=>?_⟩
  refine⟨t5,_,rfl,SqT.of ht5',rfl,_,_,rfl,_,_,rfl,_,_,rfl,rfl,?_⟩
  have sz2:2≤sizeLine:=by decide
  refine⟨_,rfl,_,rfl,sz2,fun t6 ht6=>?_⟩
  have s6:=Zh ht6 (.tup [.int lz,.int ((lcp (cds zx) (cds zy):Nat):Int)])
  have ht66:(upd H5 t6 (.tup [.int lz,.int ((lcp (cds zx) (cds zy):Nat):Int)])) t6=some (.tup [.int lz,.int ((lcp (cds zx) (cds zy):Nat):Int)]):=Zb
  have M6:=M5.same s6
  generalize upd H5 t6 (.tup [.int lz,.int ((lcp (cds zx) (cds zy):Nat):Int)])=H6 at s6 ht66 M6 ⊢
  obtain⟨dx6,hm6⟩:=M6.ob
  have ntm:tm≠m:=fun z=>by rw[z,hm]at htm;cases htm
  have ntc:tc≠m:=fun z=>by rw[z,hm]at htc;cases htc
  have htm6:H6 tm=some (.tup (([.inl (ZS M).1,.inl (ZS M).2]:List Key).map kV)):=s6 _ _ (b5 _ _ htm' ntm)
  refine⟨_,rfl,xw5 m cMerge dx6 _ _ ⟨rfl,hm6,T.cl_Merge,T.na_Merge_stays,Zdq ..,_,rfl,sd,_,rfl,Zb6.t (k:=[.inl (ZS M).1,.inl (ZS M).2]) M6.stays htm6 hsl,?_⟩⟩
  rw[show V.ref t6=stV (some (t6,lz,((lcp (cds zx) (cds zy):Nat):Int))) from rfl,Zgm]
  have hl1:(ZcY s (ZS M) (some (t6,lz,((lcp (cds zx) (cds zy):Nat):Int)))).length≤200:=by rw[ZfL hlk];exact hsf
  have M7:=M6.put (k:=ZS M) (v:=some (t6,lz,((lcp (cds zx) (cds zy):Nat):Int))) (fun t ht=>by injection ht with ht;rw[← ht];exact ht66) hl1
  have b7:∀b o,H b=some o→b≠m→b≠sd→(upd H6 sd (.dT (kvS (ZcY s (ZS M) (some (t6,lz,((lcp (cds zx) (cds zy):Nat):Int))))))) b=some o:=fun b o hb n1 n2=>by rw[Zc n2];exact s6 _ _ (b5 b o hb n1)
  have ntcs:tc≠sd:=fun z=>by rw[z,Mg.stays]at htc;cases htc
  generalize upd H6 sd (.dT (kvS (ZcY s (ZS M) (some (t6,lz,((lcp (cds zx) (cds zy):Nat):Int))))))=H7 at M7 b7 ⊢
  refine⟨_,rfl,_,rfl,tc,_,_,_,rfl,rfl,SqT.of (b7 _ _ htc ntc ntcs),c1,sz2,fun t8 ht8=>?_⟩
  have wn:Win (hdM L) M (some wi):=by
   rcases hw with⟨w0,rfl,_⟩|⟨w0,rfl,_⟩
   ·exact(Win.both wS' wO hx hy w0).perm pm
   ·exact(Win.both' wS' wO hx hy ((Btr.total hab).resolve_left w0)).perm pm
  refine q (.ref t8) (some (wi,((lcp (cds zx) z:Nat):Int))) _ 1 ((lcp (cds zx) (cds zy):Nat)-(lcp (cds zx) z:Nat)+1) _ (.inr ⟨t8,_,rfl,rfl,Zb⟩) ⟨wn,fun p hp=>?_⟩ ⟨fun a b x' y' wa wb hxa hyb=>?_,fun hno=>?_⟩ (fun j hj=>by rw[Za3,if_neg hj]) (fun C k0 q0 g=>.eq g wS' wO hx hy ef) ((M7.same (Zh ht8 _)).cast rfl rfl) (fun b o hb n1 n2=>Zh ht8 _ _ _ (b7 b o hb n1 n2))
  ·cases hp
   rcases hw with⟨w0,rfl,_⟩|⟨w0,rfl,_⟩
   ·exact⟨_,hx,rfl⟩
   ·exact⟨_,hy,by simp only;rw[ef]⟩
  ·have e1:=Ql (wa.one wS')
   have e2:=Ql (wb.one wO)
   subst e1
   subst e2
   have e3:=Ql (hxa.symm.trans hx)
   have e4:=Ql (hyb.symm.trans hy)
   subst e3
   subst e4
   refine⟨t6,lz,by rw[Za3,if_pos rfl],?_⟩
   rcases hw with⟨w0,_,rfl⟩|⟨w0,_,rfl⟩
   ·exact .inl ⟨w0,rfl⟩
   ·exact .inr ⟨(Btr.total hab).resolve_left w0,rfl⟩
  ·rcases hno with z|z
   ·exact nomatch z.one wS'
   ·exact nomatch z.one wO
 have nef:lcp (cds zx) z≠lcp (cds zy) z:=fun e=>d (decide_eq_true (by rw[e]))
 refine⟨_,rfl,xw5 m cMerge dx _ _ ⟨rfl,hm,T.cl_Merge,T.na_Merge_likened,Zed ..,_,_,rfl,rfl,dx,_,hm,Zch ..,?_⟩⟩
 rw[ZdH]
 have M2:=Mg.obj (nb':=nb) (li':=li+1) (lo':=lo') (best':=best) (dx:=dx)
 have k2:∀b o,H b=some o→b≠m→(upd H m (.ins cMerge dx (mgF rd nb (li+1) lo' sd best))) b=some o:=fun b o hb n=>by rw[Zc n];exact hb
 have ntc:tc≠m:=fun z=>by rw[z,hm]at htc;cases htc
 have ntt:t≠m:=fun z=>by rw[z,hm]at hat;cases hat
 have ntm:tm≠m:=fun z=>by rw[z,hm]at htm;cases htm
 generalize upd H m (.ins cMerge dx (mgF rd nb (li+1) lo' sd best))=H2 at M2 k2 ⊢
 have htc2:=k2 _ _ htc ntc
 have hat2:=k2 _ _ hat ntt
 refine⟨_,rfl,tc,_,_,_,rfl,rfl,SqT.of htc2,c1,_,rfl,xw4 t _ _ _ ⟨rfl,rfl,SqT.of hat2,d1,_,_,rfl,rfl,_,rfl,Zbc (fun g=>?_) (fun g=>?_)⟩⟩
 ·have hgt:lcp (cds zy) z<lcp (cds zx) z:=by have:((lcp (cds zy) z:Nat):Int)<((lcp (cds zx) z:Nat):Int):=of_decide_eq_true g;omega
  obtain⟨bt,el⟩:=Zjh (a:=ea.n) (b:=eb.n) hgt (hge _ hbM _ hy)
  refine⟨_,rfl,q (.ref tc) (some (ea.n,((lcp (cds zx) z:Nat):Int))) s 1 0 H2 (.inr ⟨tc,_,rfl,rfl,htc2⟩) ⟨(Win.both wS' wO hx hy bt).perm pm,fun p hp=>by cases hp;exact⟨_,hx,rfl⟩⟩ ⟨fun a b x' y' wa wb hxa hyb=>?_,fun hno=>?_⟩ (fun _ _=>rfl) (fun C k0 q0 g=>by rw[QR];exact .ne g wS' wO hx hy nef) (M2.cast rfl (by omega)) (fun b o hb n1 _=>k2 b o hb n1)⟩
  ·have e1:=Ql (wa.one wS')
   have e2:=Ql (wb.one wO)
   subst e1
   subst e2
   have e3:=Ql (hxa.symm.trans hx)
   have e4:=Ql (hyb.symm.trans hy)
   subst e3
   subst e4
   exact⟨t,_,by rw[el];exact hlk,.inl ⟨bt,rfl⟩⟩
  ·rcases hno with z|z
   ·exact nomatch z.one wS'
   ·exact nomatch z.one wO
 ·have hlt:lcp (cds zx) z<lcp (cds zy) z:=by
   have:¬ ((lcp (cds zy) z:Nat):Int)<((lcp (cds zx) z:Nat):Int):=fun e=>g (decide_eq_true e)
   omega
  obtain⟨bt,el⟩:=Zjh (a:=eb.n) (b:=ea.n) hlt (hge _ haM _ hx)
  obtain⟨dx2,hm2⟩:=M2.ob
  have htm2:H2 tm=some (.tup (([.inl (ZS M).1,.inl (ZS M).2]:List Key).map kV)):=k2 _ _ htm' ntm
  refine⟨_,rfl,_,rfl,xw5 m cMerge dx2 _ _ ⟨rfl,hm2,T.cl_Merge,T.na_Merge_stays,Zdq ..,_,rfl,sd,_,rfl,Zb6.t (k:=[.inl (ZS M).1,.inl (ZS M).2]) M2.stays htm2 hsl,?_⟩⟩
  rw[show V.ref tc=stV (some (tc,ea.n,((lcp (cds zx) z:Nat):Int))) from rfl,Zgm]
  have hl1:(ZcY s (ZS M) (some (tc,ea.n,((lcp (cds zx) z:Nat):Int)))).length≤200:=by rw[ZfL hlk];exact hsf
  have M3:=M2.put (k:=ZS M) (v:=some (tc,ea.n,((lcp (cds zx) z:Nat):Int))) (fun t ht=>by injection ht with ht;rw[← ht];exact htc2) hl1
  refine⟨_,rfl,q (.ref t) (some (eb.n,((lcp (cds zy) z:Nat):Int))) _ 1 0 _ (.inr ⟨t,_,rfl,rfl,?_⟩) ⟨(Win.both' wS' wO hx hy bt).perm pm,fun p hp=>by cases hp;exact⟨_,hy,rfl⟩⟩ ⟨fun a b x' y' wa wb hxa hyb=>?_,fun hno=>?_⟩ (fun j hj=>by rw[Za3,if_neg hj]) (fun C k0 q0 g=>by rw[QR];exact .ne g wS' wO hx hy nef) (M3.cast rfl (by omega)) (fun b o hb n1 n2=>by rw[Zc n2];exact k2 b o hb n1)⟩
  ·rw[Zc (fun z=>by rw[z,M2.stays]at hat2;cases hat2)];exact hat2
  ·have e1:=Ql (wa.one wS')
   have e2:=Ql (wb.one wO)
   subst e1
   subst e2
   have e3:=Ql (hxa.symm.trans hx)
   have e4:=Ql (hyb.symm.trans hy)
   subst e3
   subst e4
   exact⟨tc,_,by rw[Za3,if_pos rfl,Zcu (cds zx) (cds zy),el],.inr ⟨bt,rfl⟩⟩
  ·rcases hno with z|z
   ·exact nomatch z.one wS'
   ·exact nomatch z.one wO
def Zdg(n:Int)(e:Zw):Zw:=if e.n=n then ⟨e.n,e.p,e.k,e.f,e.ss,e.g+1⟩ else e
def bump(L:List Zw)(n:Int):List Zw:=L.map (Zdg n)
theorem Zdu(n:Int)(e:Zw):(Zdg n e).n=e.n∧(Zdg n e).p=e.p∧(Zdg n e).k=e.k∧(Zdg n e).f=e.f∧(Zdg n e).ss=e.ss:=by unfold Zdg;split<;>exact⟨rfl,rfl,rfl,rfl,rfl⟩
theorem Zfn{n:Int}{e:Zw}(h:e.n=n):Zdg n e=⟨e.n,e.p,e.k,e.f,e.ss,e.g+1⟩:=if_pos h
theorem Zg0{n:Int}{e:Zw}(h:¬ e.n=n):Zdg n e=e:=if_neg h
theorem Zcm(L:List Zw)(n:Int):ZA (bump L n)=ZA L:=by
 unfold ZA bump
 rw[Qj]
 exact Qx fun e _=>(Zdu n e).1
theorem ZoK(L:List Zw)(n:Int):(bump L n).map (·.p)=L.map (·.p):=by
 unfold bump
 rw[Qj]
 exact Qx fun e _=>(Zdu n e).2.1
theorem ZnN(L:List Zw)(n:Int):kvM (bump L n)=kvM L:=by
 unfold kvM bump
 rw[Qj]
 refine Qx fun e _=>?_
 simp only[Function.comp]
 rw[(Zdu n e).1,(Zdu n e).2.1]
theorem ZpA{m rd sd:Addr}{L:List Zw}{n:Int}{b:Addr}(h:Fp m rd sd (bump L n) b):Fp m rd sd L b:=by
 rcases h with h|h|h|⟨e',he',h⟩
 ·exact .inl h
 ·exact .inr (.inl h)
 ·exact .inr (.inr (.inl h))
 ·obtain⟨e,he,rfl⟩:=Qo.mp he'
  obtain⟨_,h1,h2,h3,_⟩:=Zdu n e
  rw[h1,h2,h3]at h
  exact .inr (.inr (.inr ⟨e,he,h⟩))
theorem Fp_bump'{m rd sd:Addr}{L:List Zw}{n:Int}{b:Addr}(h:Fp m rd sd L b):Fp m rd sd (bump L n) b:=by
 rcases h with h|h|h|⟨e,he,h⟩
 ·exact .inl h
 ·exact .inr (.inl h)
 ·exact .inr (.inr (.inl h))
 ·obtain⟨_,h1,h2,h3,_⟩:=Zdu n e
  refine .inr (.inr (.inr ⟨Zdg n e,Qd he,?_⟩))
  rw[h1,h2,h3]
  exact h
theorem Zk4{n b:Int}(h:b≠n):∀L:List Zw,hdM (bump L n) b=hdM L b
 | []=>rfl
 | e::L=>by
  have ih:=Zk4 h L
  unfold hdM hdL bump at ih ⊢
  rw[Qh,Qh,Qh,Q8,Q8]
  have e1:(toL (Zdg n e)).1=e.n:=(Zdu n e).1
  rw[e1]
  by_cases he:e.n=b
  ·rw[decide_eq_true he,decide_eq_true (show (toL e).1=b from he),Zg0 (fun z=>h (he.symm.trans z))]
  ·rw[decide_eq_false he,decide_eq_false (show ¬ (toL e).1=b from he)]
   exact ih
theorem Zjk{L:List Zw}(nd:(ZA L).Nodup){e:Zw}(he:e∈L):hdM (bump L e.n) e.n=(e.ss[e.g+1]?).map cds:=by
 have hm:Zdg e.n e∈bump L e.n:=Qd he
 rw[Zfn rfl]at hm
 exact ZeL (L:=bump L e.n) (by rw[Zcm];exact nd) hm
theorem Zfv(k f:Addr)(g:Int):Zbj k f g=([("all_keys",.ref k),("fars",.ref f),("gone",.int g)]:List (Str×V)):=by
 unfold Zbj
 rw[Za0,Zu nFK,Za0,Zu nGK,Zu nGF,Za0]
theorem Zho(k f:Addr)(g v:Int):Zt "gone" (.int v) (Zbj k f g)=Zbj k f v:=by
 rw[Zfv,Zfv,Zu nGK,Zu nGF,Zb7]
theorem Zg3(k f:Addr)(g:Int):(Zbj k f g).length<1000:=by rw[Zfv];show 3<1000;decide
theorem ZlH(k f:Addr)(g:Int):(Zbj k f g).lookup ("fars" : Str)=some (.ref f):=by
 unfold Zbj
 rw[Zl,if_neg nGF,Zl,if_pos rfl]
theorem ZpQ{L:List Zw}(pd:(L.map (·.p)).Nodup){e e':Zw}(he:e∈L)(he':e'∈L)(h:e.p=e'.p):e=e':=by
 have n2:((L.map fun x=>(x.p,x)).map (·.1)).Nodup:=by rw[Qj];exact pd
 have:=ZbD n2 (Qd (f:=fun x:Zw=>(x.p,x)) he) (Qd (f:=fun x:Zw=>(x.p,x)) he') h
 injection this
theorem ZP.bump{cR cM:Addr}{H:Hp}{m rd sd:Addr}{L:List Zw}{s:StL}{nb li lo:Int}{best:V}(M:ZP cR cM H m rd sd L s nb li lo best){e:Zw}(he:e∈L)(hg:e.g<e.ss.length){dp:Addr} :
  ZP cR cM (upd H e.p (.ins cR dp (Zbj e.k e.f ((e.g+1:Nat):Int)))) m rd sd (My.bump L e.n) s nb li lo best:=by
 obtain⟨dm,hm⟩:=M.ob
 obtain⟨dq,hp⟩:=(M.each e he).at'.ob
 obtain⟨n1,_,_⟩:=M.ne_p he
 obtain⟨n2,_,_,n3,_,_⟩:=M.ne_sd he
 refine⟨⟨dm,by rw[Zc n1];exact hm⟩,by rw[Zc n3,ZnN];exact M.rows,by rw[Zc n2];exact M.stays,fun x hx t ht=>?_,fun e' he'=>?_,by rw[Zcm];exact M.up,by rw[ZoK];exact M.pd,by unfold My.bump;rw[Qa];exact M.few,M.sfew⟩
 ·have:=M.ats x hx t ht
  rw[Zc (fun z=>by rw[z,hp]at this;cases this)];exact this
 ·obtain⟨x,hx,rfl⟩:=Qo.mp he'
  have R:=M.each x hx
  have kne:∀ {y:Zw},y∈L→y.k≠e.p∧y.f≠e.p:=fun {y} hy=>by
   have Ry:=M.each y hy
   exact⟨(fun z=>by have:=Ry.at'.ks;rw[z,hp]at this;cases this),(fun z=>by have:=Ry.at'.fs;rw[z,hp]at this;cases this)⟩
  obtain⟨k1,k2⟩:=kne hx
  by_cases hn:x.n=e.n
  ·have ex:x=e:=by
    have n2:((L.map fun x=>(x.n,x)).map (·.1)).Nodup:=by rw[Qj];exact M.nd
    have:=ZbD n2 (Qd (f:=fun x:Zw=>(x.n,x)) hx) (Qd (f:=fun x:Zw=>(x.n,x)) he) hn
    injection this
   subst ex
   rw[Zfn rfl]
   exact⟨⟨⟨dp,Zb⟩,by show (upd H x.p _) x.k=_;rw[Zc k1];exact R.at'.ks,by show (upd H x.p _) x.f=_;rw[Zc k2];exact R.at'.fs⟩,hg,R.len,R.srt,R.str⟩
  ·rw[Zg0 hn]
   exact R.keep (Zc (fun z=>hn (by rw[ZpQ M.pd hx he z]))) (Zc k1) (Zc k2)
theorem Zr0{L:List Zw}{e:Zw}{x:Str}(nd:(ZA L).Nodup)(up:Zag (ZA L))(he:e∈L)(hx:e.ss[e.g]? = some x)(srt:sortedS e.ss=true)(W:Win (hdM L) (ZA L) (some e.n)):Tk (hdM L) (hdM (bump L e.n)) (ZA L) e.n (cds x):=by
 refine⟨W,by rw[ZeL nd he,hx];rfl,fun b hb=>Zk4 hb L,fun y hy=>?_,up⟩
 rw[Zjk nd he]at hy
 cases hz:e.ss[e.g+1]? with
 | none=>rw[hz]at hy;cases hy
 | some y'=>rw[hz]at hy;cases hy;exact ZhG srt e.g x y' hx hz
theorem ZqB{c:Bool}{e1 e2:VK→Prop}{Q:VK}(P:V→Hp→Prop)(h1:c=true→∀Q':VK,(∀v H,P v H→Q' v H)→e1 Q')(h2:c=false→∀Q':VK,(∀v H,P v H→Q' v H)→e2 Q')(q:∀v H,P v H→Q v H):if c=true then e1 Q else e2 Q:=by
 cases c with
 | true=>rw[if_pos rfl];exact h1 rfl Q q
 | false=>rw[if_neg (by decide)];exact h2 rfl Q q
def ZbS(n:Int)(C:List (List Int)):List (List Int×List Int):=C.map fun X=>(ZT X n,Zaf X n)
theorem Zjp(rd:Addr)(nb li lo:Int)(sd:Addr)(best:V):(mgF rd nb li lo sd best).lookup ("play_again" : Str)=none:=Zba _ _ _ _ _ _ (by ac_rfl) (by ac_rfl) (by ac_rfl) (by ac_rfl) (by ac_rfl) (by ac_rfl)
def ZmP(cR cM:Addr):Sp:=fun vs H Q _=>∃ (m rd sd:Addr) (L:List Zw) (s:StL) (nb li lo:Int) (best:V) (e:Zw) (x:Str),vs=[.ref m,.int e.n]∧ZP cR cM H m rd sd L s nb li lo best∧e∈L∧e.ss[e.g]? = some x∧Win (hdM L) (ZA L) (some e.n)∧ZR (hdM L) s (ZA L) ∧
 ∀ (s':StL) (w':Option Int) (k q:Int) (H':Hp),ZP cR cM H' m rd sd (bump L e.n) s' nb (li+k) (lo+q) (Zcg w')→Win (hdM (bump L e.n)) (ZA L) w'→ZR (hdM (bump L e.n)) s' (ZA L)→Ag (hdM (bump L e.n)) (cds x) (ZbS e.n (ZK 8 (ZA L) e.n)) k q→(∀b o,H b=some o→¬ Fp m rd sd L b→H' b=some o)→Q .non H'
theorem Zpw(T:Zai K mg cRow cMerge)(f_Row_head:Mf P w K mg base 2 cRow "head" ["self"] (ZeO cRow))(f_matches_up:Df P w K mg base 3 "matches_up" ["numbers", "n"] Zif)(f_Merge_play_again:Mf P w K mg base 4 cMerge "play_again" ["self", "meeting", "comer"] (ZkX cRow cMerge)):Mf P w K mg base 5 cMerge "send_out" ["self", "number"] (ZmP cRow cMerge):=by
 refine T.t_Merge_send_out.mf ZaE (fun vs H Q E h=>?_) (fun cdv f A outer s H vs Q E hr h=>?_)
 ·obtain⟨m,rd,sd,L,s,nb,li,lo,best,e,x,rfl,_⟩:=h
  rfl
 obtain⟨m,rd,sd,L,s,nb,li,lo',best,e,x,rfl,M,he,hx,W,ok,q⟩:=h
 refine⟨_,#[Zf,#[Zy,2,ZaE.nd,(Or.inl rfl),#[Zm,(ixG hr),#[ZO,‹0›],‹1›]],#[Zf,#[Zc1,‹2›,#[Zi],Zgz],#[Zf,#[Zy,3,ZaE.nd,(Or.inl rfl),#[Zbu,#[Zo,Zbw,#[Zav,f_Row_head,T.cl_Row,hr,‹2›],#[ZW],(Zs _)],#[ZW],#[ZaC,#[Za,‹1›,#[Za,#[Zm,(ixL K),#[ZO,‹2›],#[ZO,‹2›]],#[Ze]]]]]],#[Zf,#[ZbK,PassesOwn.never,#[iL,K,#[Zv,f_matches_up,hr,#[Za,#[ZaT,Zrk,T.b.n_list,boot_list,#[Za,#[ZO,‹0›],#[Ze]]],#[Za,‹1›,#[Ze]]],(by rfl)]],#[ZD,4,ZaE.nd,(Or.inl rfl)],#[Zj,#[Zy,3,ZaE.nd,(Or.inl rfl),#[ZcG,f_Merge_play_again,T.cl_Merge,hr,‹0›,#[Za,‹4›,#[Za,‹3›,#[Ze]]]]]]],#[Zj,#[ZbC,‹0›,#[Zbu,#[Zo,Zbw,‹3›,#[ZW],(Zs _)],#[ZW],#[Zm,(ixT K),‹3›,#[Zi]]]]]]]]],?_⟩
 obtain⟨dx,hm⟩:=M.ob
 have R:=M.each e he
 obtain⟨dp,hp⟩:=R.at'.ob
 have hg:e.g<e.ss.length:=(Qi.mp hx).1
 have tk:=Zr0 M.nd M.up he hx R.srt W
 refine⟨_,rfl,xw5 m cMerge dx _ _ ⟨rfl,hm,T.cl_Merge,T.na_Merge_rows,ZaB ..,_,rfl,rd,_,rfl,ZL.k' (k:=.inl e.n) M.rows (Zd3 M.nd he),?_⟩⟩
 refine⟨_,rfl,e.p,cRow,dp,_,_,rfl,hp,T.cl_Row,T.na_Row_gone,Zdl ..,_,_,rfl,rfl,dp,_,hp,Zg3 ..,?_⟩
 rw[Zho,show ((e.g:Int)+1)=((e.g+1:Nat):Int) by omega]
 have M1:=M.bump he hg (dp:=dp)
 have hp1:(upd H e.p (.ins cRow dp (Zbj e.k e.f ((e.g+1:Nat):Int)))) e.p=some (.ins cRow dp (Zbj e.k e.f ((e.g+1:Nat):Int))):=Zb
 have k1:∀b o,H b=some o→b≠e.p→(upd H e.p (.ins cRow dp (Zbj e.k e.f ((e.g+1:Nat):Int)))) b=some o:=fun b o hb n=>by rw[Zc n];exact hb
 generalize upd H e.p (.ins cRow dp (Zbj e.k e.f ((e.g+1:Nat):Int)))=H1 at M1 hp1 k1 ⊢
 have hm':(⟨e.n,e.p,e.k,e.f,e.ss,e.g+1⟩:Zw)∈bump L e.n:=by
  have:Zdg e.n e∈bump L e.n:=Qd he
  rwa [Zfn rfl]at this
 have R1:=M1.each _ hm'
 have keep1:∀ {H2:Hp},(∀b o,H1 b=some o→b≠m→b≠sd→H2 b=some o)→∀b o,H b=some o→¬ Fp m rd sd L b→H2 b=some o:=fun {H2} k b o hb nf =>
  k b o (k1 b o hb fun z=>nf (.inr (.inr (.inr ⟨e,he,.inl z⟩)))) (fun z=>nf (.inl z)) (fun z=>nf (.inr (.inr (.inl z))))
 have hpos:e.n∈ZA L:=W.1
 have h60:(ZA L).length≤60:=by unfold ZA;rw[Qa];exact M.few
 have hpw:(ZA L).length≤2 ^ 8:=Qy h60 (by decide)
 obtain⟨cok,ctop,clen⟩:=Ze3 8 (ZA L) e.n hpos hpw
 have hgo:hdM (bump L e.n) e.n=(e.ss[e.g+1]?).map cds:=Zjk M.nd he
 have hdd:∀ (c:Com),(c=none∧e.ss[e.g+1]? = none)∨(∃y,e.ss[e.g+1]? = some y∧c=some (e.n,((lcp (cds y) (cds x):Nat):Int)))→Zjq (hdM (bump L e.n)) (cds x) [e.n] c:=fun c hc=>by
  have hw:=Win.sing (hd:=hdM (bump L e.n)) (n:=e.n)
  rcases hc with⟨rfl,hn⟩|⟨y,hy,rfl⟩
  ·rw[hgo,hn]at hw
   exact⟨hw,fun p hp=>by cases hp⟩
  ·rw[hgo,hy]at hw
   exact⟨hw,fun p hp=>by cases hp;exact⟨cds y,by rw[hgo,hy];rfl,rfl⟩⟩
 refine⟨_,rfl,e.p,dp,_,rfl,hp1,Za9 ..,e.p,e.k,e.f,e.ss,e.g+1,rfl,R1.at',rfl,_,rfl,?_⟩
 rw[Zjn]
 refine ZqB (fun v H2=>ZH H1 H2∧∃c,CV H2 v c∧Zjq (hdM (bump L e.n)) (cds x) [e.n] c) (fun d Q' hq=>?_) (fun d Q' hq=>?_) (fun v H2 ⟨s2,c,hcv,hok⟩=>?_)
 ·have hn:e.ss[e.g+1]? = none:=by
   have:=of_decide_eq_true d
   cases hy:e.ss[e.g+1]? with
   | none=>rfl
   | some y=>rw[hy]at this;cases this
  exact hq _ _ ⟨ZH.refl _,none,.inl ⟨rfl,rfl⟩,hdd none (.inl ⟨rfl,hn⟩)⟩
 ·obtain⟨y,hy⟩:∃y,e.ss[e.g+1]? = some y:=by
   cases hy:e.ss[e.g+1]? with
   | none=>rw[hy]at d;exact absurd rfl (of_decide_eq_false d)
   | some y=>exact⟨y,rfl⟩
  have hyl:e.g+1<e.ss.length:=(Qi.mp hy).1
  have hal:Zdb e.ss (e.g+1)=((lcp (cds y) (cds x):Nat):Int):=by
   unfold Zdb
   rw[if_neg (by omega),Qaa,QF,QF,hx,hy,Zcu]
   rfl
  have hat:atI ((List.range e.ss.length).map fun j=>V.int (Zdb e.ss j)) ((e.g+1:Nat):Int)=some (.int ((lcp (cds y) (cds x):Nat):Int)):=Zam (by rw[Qn,List.getElem?_range hyl,← hal];rfl)
  refine⟨_,rfl,_,rfl,e.p,cRow,dp,_,_,rfl,hp1,T.cl_Row,T.na_Row_fars,ZlH ..,_,rfl,e.p,cRow,dp,_,_,rfl,hp1,T.cl_Row,T.na_Row_gone,Zdl ..,xw4 e.f _ _ _ ⟨rfl,rfl,SqL.of R1.at'.fs,hat,(by show 2≤sizeLine;decide),fun tc htc=>?_⟩⟩
  exact hq _ _ ⟨Zh htc _,some (e.n,((lcp (cds y) (cds x):Nat):Int)),.inr ⟨tc,_,rfl,rfl,Zb⟩,hdd _ (.inr ⟨y,hy,rfl⟩)⟩
 have M2:=M1.same s2
 obtain⟨dx2,hm2⟩:=M2.ob
 refine⟨_,rfl,xw5 m cMerge dx2 _ _ ⟨rfl,hm2,T.cl_Merge,T.na_Merge_rows,ZaB ..,rd,_,rfl,M2.rows,fun l hl=>?_⟩⟩
 rw[ZmK,Zcm]
 have s3:=s2.trans (Zh hl (.lst ((ZA L).map V.int)))
 have hl3:(upd H2 l (.lst ((ZA L).map V.int))) l=some (.lst ((ZA L).map V.int)):=Zb
 have hcv3:CV (upd H2 l (.lst ((ZA L).map V.int))) v c:=hcv.keep fun t xs ht=>Zh hl _ _ _ ht
 generalize upd H2 l (.lst ((ZA L).map V.int))=H3 at s3 hl3 hcv3 ⊢
 refine⟨_,rfl,l,ZA L,e.n,rfl,hl3,hpos,h60,M.up,fun r ts H4 hr0 hr4 htl hts s4=>?_⟩
 have s14:=s3.trans s4
 have M4:=M1.same s14
 have hcv4:CV H4 v c:=hcv3.keep fun t xs ht=>s4 _ _ ht
 refine⟨r,rfl,⟨_,SqL.of hr4⟩,?_⟩
 obtain⟨dm4,hm4⟩:=M4.ob
 obtain⟨dm1,hm1⟩:=M1.ob
 have nrm:r≠m:=(Zd (s3 _ _ hm1) hr0).symm
 have nrs:r≠sd:=(Zd (s3 _ _ M1.stays) hr0).symm
 refine Zfe (K:=K) (a:=r) (xs:=ts.map V.ref) (fun i σ H5=>∃ (v':V) (c':Com) (s':StL) (k q':Int) (v4:Option V),σ=[some (.ref m),some (.int e.n),some (.ref e.p),some v',v4]∧i≤ts.length∧CV H5 v' c'∧Zjq (hdM (bump L e.n)) (cds x) (low e.n (ZK 8 (ZA L) e.n) i) c'∧ZP cRow cMerge H5 m rd sd (bump L e.n) s' nb (li+k) (lo'+q') best∧ZR (hdM (bump L e.n)) s' (low e.n (ZK 8 (ZA L) e.n) i)∧(∀j,¬ Kys (low e.n (ZK 8 (ZA L) e.n) i) j→Z0 s' j=Z0 s j)∧Ag (hdM (bump L e.n)) (cds x) (ZbS e.n ((ZK 8 (ZA L) e.n).take i)) k q'∧(∀b o,H4 b=some o→b≠m→b≠sd→H5 b=some o)) ?_ (fun i σ H5 _ hq=>by obtain⟨_,_,_,_,_,_,_,_,_,_,_,_,_,_,k5⟩:=hq;exact SqL.of (k5 _ _ hr4 nrm nrs)) ?_ ?_
 ·refine⟨v,c,s,0,0,_,rfl,Qv _,hcv4,hok,M4.cast (by omega) (by omega),fun X hX h2=>?_,fun _ _=>rfl,.nil,fun b o h _ _=>h⟩
  have:=ZfM hX
  rcases this with rfl|⟨g,_⟩
  ·exact absurd h2 (by show ¬ 2≤1;decide)
  ·exact absurd g (by show ¬ 2≤1;decide)
 ·rintro i y σ H5 hy ⟨v',c',s',k,q',v4,rfl,hi,hcv5,hok5,M5,nok,hlk,ag,k5⟩
  rw[Qn]at hy
  cases hz:ts[i]? with
  | none=>rw[hz]at hy;cases hy
  | some t =>
  rw[hz]at hy
  cases hy
  have hil:i<ts.length:=(Qi.mp hz).1
  cases hX:(ZK 8 (ZA L) e.n)[i]? with
  | none=>rw[Q9]at hX;omega
  | some X =>
  obtain⟨x1,x2,x3,x4⟩:=cok i X hX
  have hup:=x1.rise M.up
  have e3:low e.n (ZK 8 (ZA L) e.n) (i+1)=X:=by show (ZK 8 (ZA L) e.n).getD i []=X;rw[QF,hX];rfl
  have ht5:H5 t=some (.tup [.int (ZS X).1,.int (ZS X).2]):=k5 _ _ (hts i t X hz hX) (fun z=>by have:=hts i t X hz hX;rw[z,hm4]at this;cases this) (fun z=>by have:=hts i t X hz hX;rw[z,M4.stays]at this;cases this)
  obtain⟨dm5,hm5⟩:=M5.ob
  rw[← x4]at hok5 nok hlk
  have was:=ZmI tk x1 x2 x3 ok
  have hkey:Z0 s' (ZS X)=Z0 s (ZS X):=hlk _ fun z=>(Zj1 hup x2 z).1 rfl
  refine⟨_,rfl,m,dm5,_,rfl,hm5,Zjp ..,_,rfl,_,rfl,m,rd,sd,bump L e.n,s',nb,_,_,best,t,v',c',cds x,X,e.n,rfl,M5,ht5,hcv5,hok5,?_,fun b hb y hy=>tk.ge (x1.mem hb) hy,hup,fun b hb=>by rw[Zcm];exact x1.mem hb,x2,x3,fun v6 c6 s6 k6 q6 H6 hcv6 hok6 hnd6 hoth6 hag6 M6 k6'=>?_⟩
  ·rw[hkey]
   rcases was with w|⟨t',b,y,w1,w2,_,w4⟩
   ·exact .inl w
   ·exact .inr ⟨t',b,y,w1,w2,w4⟩
  ·refine⟨v6,c6,s6,k+k6,q'+q6,_,rfl,hil,hcv6,by rw[e3];exact hok6,M6.cast (by omega) (by omega),?_,fun j hj=>?_,?_,fun b o hb n1 n2=>k6' b o (k5 b o hb n1 n2) n1 n2⟩
   ·rw[e3]
    refine Zme (n:=e.n) (nok.congr (fun _ _=>rfl) fun j hj=>hoth6 j (Zj1 hup x2 hj).1) ?_ hnd6
    have hno:=Zg5 hup (Zdr x3)
    have so:Sub X (Zaf X e.n):=by unfold Zaf;split;exact Sub.top.up x2;exact Sub.top.lo x2
    refine(ok.sub (x1.trans so)).congr (fun b hb=>tk.oth b fun z=>hno (z ▸ hb)) fun j hj=>?_
    rw[hoth6 j (ZjS hup x2 hj).1,hlk j (ZjS hup x2 hj).2]
   ·rw[e3]at hj
    rw[hoth6 j (fun z=>hj ⟨X,.top,x2,z⟩),hlk j (fun hq=>by obtain⟨Y,y1,y2,y3⟩:=hq;exact hj ⟨Y,(ZgQ x2 e.n).trans y1,y2,y3⟩)]
   ·have:=hag6 _ _ _ ag
    unfold ZbS at this ⊢
    rw[QH,hX,Qe]
    exact this
 ·rintro σ H5 ⟨v',c',s',k,q',v4,rfl,_,hcv5,hok5,M5,nok,hlk,ag,k5⟩
  rw[Qa,htl,ctop]at hok5 nok
  rw[Qa,htl,QD (Qg _)]at ag
  obtain⟨dm5,hm5⟩:=M5.ob
  have fin:∀w':Option Int,w'=c'.map (·.1)→Q .non (upd H5 m (.ins cMerge dm5 (mgF rd nb (li+k) (lo'+q') sd (Zcg w')))):=fun w' ew=>by
   subst ew
   refine q s' _ k q' _ M5.obj hok5.1 nok ag fun b o hb nf=>?_
   rw[Zc (fun z=>nf (.inl z))]
   exact keep1 (fun b o hb n1 n2=>k5 b o (s14 b o hb) n1 n2) b o hb nf
  rcases hcv5 with⟨rfl,rfl⟩|⟨t,p,rfl,rfl,ht⟩
  ·refine⟨_,rfl,rfl,_,rfl,Zcq rfl ?_⟩
   refine⟨_,rfl,m,cMerge,dm5,_,rfl,hm5,T.cl_Merge,T.na_Merge_best,Zch ..,?_⟩
   rw[Zcf]
   exact fin none rfl
  ·refine⟨_,rfl,rfl,_,rfl,Zbv (fun z=>nomatch z) ?_⟩
   refine⟨_,rfl,xw4 t _ _ _ ⟨rfl,rfl,SqT.of ht,(show atI [V.int p.1,V.int p.2] 0=some (.int p.1) from Zam (j:=0) rfl),_,rfl,m,cMerge,dm5,_,rfl,hm5,T.cl_Merge,T.na_Merge_best,Zch ..,?_⟩⟩
   rw[Zcf]
   exact fin (some p.1) rfl
def ZhL(L:List Zw)(w:Option Int)(x:V)(L':List Zw)(k q:Int)(H':Hp):Prop :=
 (w=none∧x=.non∧L'=L∧k=0∧q=0)∨∃ (e:Zw) (t:Addr) (z:Str),e∈L∧w=some e.n∧x=.ref t∧e.ss[e.g]? = some z∧H' t=some (.tup [.int e.n,.int (e.g:Int),.str z])∧L'=bump L e.n∧Ag (hdM L') (cds z) (ZbS e.n (ZK 8 (ZA L) e.n)) k q
theorem Zks(rd:Addr)(nb li lo:Int)(sd:Addr)(best:V):(mgF rd nb li lo sd best).lookup ("send_out" : Str)=none:=Zba _ _ _ _ _ _ (by ac_rfl) (by ac_rfl) (by ac_rfl) (by ac_rfl) (by ac_rfl) (by ac_rfl)
theorem ZgB(rd:Addr)(nb li lo:Int)(sd:Addr)(best:V):(mgF rd nb li lo sd best).lookup ("take" : Str)=none:=Zba _ _ _ _ _ _ (by ac_rfl) (by ac_rfl) (by ac_rfl) (by ac_rfl) (by ac_rfl) (by ac_rfl)
def Zni(cR cM:Addr):Sp:=fun vs H Q _=>∃ (m rd sd:Addr) (L:List Zw) (s:StL) (nb li lo:Int) (w:Option Int),vs=[.ref m]∧ZP cR cM H m rd sd L s nb li lo (Zcg w)∧Win (hdM L) (ZA L) w∧ZR (hdM L) s (ZA L) ∧
 ∀ (x:V) (L':List Zw) (s':StL) (w':Option Int) (k q:Int) (H':Hp),ZhL L w x L' k q H'→ZP cR cM H' m rd sd L' s' nb (li+k) (lo+q) (Zcg w')→Win (hdM L') (ZA L') w'→ZR (hdM L') s' (ZA L')→(∀b o,H b=some o→¬ Fp m rd sd L b→H' b=some o)→Q x H'
theorem ZpC(T:Zai K mg cRow cMerge)(f_Merge_coming:Mf P w K mg base 3 cMerge "coming" ["self"] (Zg8 cRow cMerge))(f_Merge_send_out:Mf P w K mg base 5 cMerge "send_out" ["self", "number"] (ZmP cRow cMerge)):Mf P w K mg base 6 cMerge "take" ["self"] (Zni cRow cMerge):=by
 refine T.t_Merge_take.mf ZeG (fun vs H Q E h=>?_) (fun cdv f A outer s H vs Q E hr h=>?_)
 ·obtain⟨m,rd,sd,L,s,nb,li,lo,w,rfl,_⟩:=h
  rfl
 obtain⟨m,rd,sd,L,s,nb,li,lo',w,rfl,M,W,ok,q⟩:=h
 refine⟨_,#[Zf,#[Zy,1,ZeG.nd,(Or.inl rfl),#[Zav,f_Merge_coming,T.cl_Merge,hr,‹0›]],#[Zf,#[Z3,#[Zo,Zes,‹1›,#[ZW],(Zs _)],#[Zj,#[Z8,#[ZcG,f_Merge_send_out,T.cl_Merge,hr,‹0›,#[Za,#[ZO,‹0›],#[Ze]]]]],#[ZF]],#[Zj,#[Zr,‹1›]]]],?_⟩
 obtain⟨dx,hm⟩:=M.ob
 refine⟨_,rfl,m,dx,_,rfl,hm,Ze4 ..,xw9 m rd sd L s nb li lo' w ⟨rfl,M,W,fun x H1 hc s1=>?_⟩⟩
 have M1:=M.same s1
 rcases hc with⟨rfl,hw⟩|⟨t,e',z,rfl,he',hz,ht,hw⟩
 ·have hw':Win (hdM L) (ZA L) none:=by rw[ZbB]at hw;exact hw
  have ew:=W.one hw'
  subst ew
  exact⟨_,rfl,rfl,_,rfl,Zeh rfl ⟨_,rfl,q .non L s none 0 0 H1 (.inl ⟨rfl,rfl,rfl,rfl,rfl⟩) (M1.cast (by omega) (by omega)) W ok (fun b o hb _=>s1 b o hb)⟩⟩
 ·obtain⟨e,he,rfl⟩:=Qo.mp he'
  have hw':Win (hdM L) (ZA L) (some e.n):=by rw[ZbB]at hw;exact hw
  have ew:=W.one hw'
  subst ew
  obtain⟨dx1,hm1⟩:=M1.ob
  refine⟨_,rfl,rfl,_,rfl,ZgH (fun z=>nomatch z) ?_⟩
  refine⟨_,rfl,m,dx1,_,rfl,hm1,Zks ..,_,rfl,xw5 m cMerge dx1 _ _ ⟨rfl,hm1,T.cl_Merge,T.na_Merge_best,Zeg ..,Zsg m rd sd L s nb li lo' _ e z ⟨rfl,M1,he,hz,W,ok,fun s' w' k q' H2 M2 W2 ok2 ag k2=>?_⟩⟩⟩
  have ht2:H2 t=some (.tup [.int e.n,.int (e.g:Int),.str z]):=k2 _ _ ht fun hf=>by
   have ht':=ht
   rcases hf with h|h|h|⟨y,hy,h⟩
   ·rw[h,hm1]at ht';cases ht'
   ·rw[h,M1.rows]at ht';cases ht'
   ·rw[h,M1.stays]at ht';cases ht'
   ·have R:=(M1.each y hy).at'
    obtain⟨dy,hdy⟩:=R.ob
    rcases h with h|h|h
    ·rw[h,hdy]at ht';cases ht'
    ·rw[h,R.ks]at ht';cases ht'
    ·rw[h,R.fs]at ht';cases ht'
  exact⟨_,rfl,q (.ref t) (bump L e.n) s' w' k q' H2 (.inr ⟨e,t,z,he,rfl,rfl,hz,ht2,rfl,ag⟩) M2 (by rw[Zcm];exact W2) (by rw[Zcm];exact ok2) (fun b o hb nf=>k2 b o (s1 b o hb) nf)⟩
abbrev ZY:=Int×List Str×Nat
def pur(Lo:List Zx):List ZY:=Lo.map fun e=>(e.1,e.2.2)
def Z6(L:List Zw):List ZY:=L.map fun e=>(e.n,(e.ss,e.g))
def hdP(P:List ZY):Hd:=hdL (P.map fun x=>(x.1,0,x.2))
def ZaY(P:List ZY):List Int:=P.map (·.1)
def ZdN(n:Int)(x:ZY):ZY:=if x.1=n then (x.1,x.2.1,x.2.2+1) else x
def Zbt(P:List ZY)(n:Int):List ZY:=P.map (ZdN n)
theorem Ze0(Lo:List Zx):hdL Lo=hdP (pur Lo):=Zgl _ _ (by unfold pur;rw[Qj,Qj];rfl)
theorem Zgh(L:List Zw):hdM L=hdP (Z6 L):=Zgl _ _ (by unfold Z6;rw[Qj,Qj,Qj];rfl)
theorem Zci(Lo:List Zx):Lo.map (·.1)=ZaY (pur Lo):=by unfold ZaY pur;rw[Qj];rfl
theorem Zcw(L:List Zw):ZA L=ZaY (Z6 L):=by unfold ZaY Z6 ZA;rw[Qj];rfl
theorem ZhY(L:List Zw)(n:Int):Z6 (bump L n)=Zbt (Z6 L) n:=by
 unfold Z6 bump Zbt
 rw[Qj,Qj]
 refine Qx fun e _=>?_
 simp only[Function.comp]
 unfold ZdN
 by_cases h:e.n=n
 ·rw[Zfn h,if_pos h]
 ·rw[Zg0 h,if_neg h]
def Zeb(n:Int)(e:Zx):Zx:=if e.1=n then (e.1,e.2.1,e.2.2.1,e.2.2.2+1) else e
def ZaQ(Lo:List Zx)(n:Int):List Zx:=Lo.map (Zeb n)
theorem Zfl(Lo:List Zx)(n:Int):pur (ZaQ Lo n)=Zbt (pur Lo) n:=by
 unfold pur ZaQ Zbt
 rw[Qj,Qj]
 refine Qx fun e _=>?_
 simp only[Function.comp]
 unfold ZdN Zeb
 by_cases h:e.1=n
 ·rw[if_pos h,if_pos h]
 ·rw[if_neg h,if_neg h]
theorem Zh7(P:List ZY)(n:Int):ZaY (Zbt P n)=ZaY P:=by
 unfold ZaY Zbt
 rw[Qj]
 refine Qx fun x _=>?_
 simp only[Function.comp]
 unfold ZdN
 split<;>rfl
theorem Zqc{P:List ZY}(nd:(ZaY P).Nodup){x:ZY}(h:x∈P):hdP P x.1=(x.2.1[x.2.2]?).map cds :=
 ZgE (L:=P.map fun x:ZY=>((x.1,0,x.2):Zx)) (e:=(x.1,0,x.2)) (by rw[Qj];exact nd) (Qd (f:=fun x:ZY=>((x.1,0,x.2):Zx)) h)
def Zfc(P:List ZY)(x:ZY)(z:Str)(k q:Int):Prop:=x∈P∧x.2.1[x.2.2]? = some z∧Win (hdP P) (ZaY P) (some x.1)∧Ag (hdP (Zbt P x.1)) (cds z) (ZbS x.1 (ZK 8 (ZaY P) x.1)) k q
abbrev Zc7:=Int×Nat×Str
inductive ZbI (P:List ZY):List Zc7→List ZY→Int→Int→Prop
 | nil:ZbI P [] P 0 0
 | snoc {ts:List Zc7} {P1:List ZY} {x:ZY} {z:Str} {k q k1 q1:Int}:ZbI P ts P1 k q→Zfc P1 x z k1 q1→ZbI P (ts++[(x.1,x.2.2,z)]) (Zbt P1 x.1) (k+k1) (q+q1)
inductive Zf7:List ZY→Int→Int→Prop
 | stop {P:List ZY}:Win (hdP P) (ZaY P) none→Zf7 P 0 0
 | go {P:List ZY} {x:ZY} {z:Str} {k q k1 q1:Int}:Zfc P x z k1 q1→Zf7 (Zbt P x.1) k q→Zf7 P (k1+k) (q1+q)
theorem Zfc.one{P:List ZY}(nd:(ZaY P).Nodup){x y:ZY}{z u:Str}{k q k' q':Int}(h:Zfc P x z k q)(g:Zfc P y u k' q'):x=y∧z=u∧k=k'∧q=q':=by
 obtain⟨h1,h2,h3,h4⟩:=h
 obtain⟨g1,g2,g3,g4⟩:=g
 have e1:=Ql (h3.one g3)
 have e2:=ZbD nd h1 g1 e1
 subst e2
 have e3:=Ql (h2.symm.trans g2)
 subst e3
 exact⟨rfl,rfl,h4.one g4⟩
theorem ZbI.num{P P':List ZY}{ts:List Zc7}{k q:Int}(h:ZbI P ts P' k q):ZaY P'=ZaY P:=by
 induction h with
 | nil=>rfl
 | snoc _ _ ih=>rw[Zh7,ih]
def ZaU(P:List ZY):Nat:=(P.map fun x=>x.2.1.length-x.2.2).sum
theorem Zfs:∀ (P:List ZY),(ZaY P).Nodup→∀ {x:ZY},x∈P→x.2.2<x.2.1.length→ZaU (Zbt P x.1)+1=ZaU P
 | [],_,_,h,_=>by cases h
 | y::P,nd,x,h,hlt=>by
  unfold ZaY at nd
  rw[Qh,QV]at nd
  unfold ZaU Zbt
  rw[Qh,Qh,Qh,Q5,Q5]
  rcases QI.mp h with rfl|h
  ·have e:P.map (ZdN x.1)=P:=by
    conv=>rhs;rw[← List.map_id P]
    refine Qx fun u hu=>?_
    unfold ZdN
    rw[if_neg (fun z:u.1=x.1=>nd.1 (z ▸ Qd (f:=fun x:ZY=>x.1) hu))]
    rfl
   rw[e]
   unfold ZdN
   rw[if_pos rfl]
   show x.2.1.length-(x.2.2+1)+_+1=_
   omega
  ·have ih:=Zfs P nd.2 h hlt
   unfold ZaU Zbt at ih
   have e:ZdN x.1 y=y:=if_neg (fun z:y.1=x.1=>nd.1 (z ▸ Qd (f:=fun x:ZY=>x.1) h))
   rw[e]
   omega
theorem ZbI.left{P P':List ZY}{ts:List Zc7}{k q:Int}(h:ZbI P ts P' k q)(nd:(ZaY P).Nodup):ZaU P'+ts.length=ZaU P:=by
 induction h with
 | nil=>rfl
 | snoc h s ih =>
  have:=Zfs _ (by rw[h.num];exact nd) s.1 (Qi.mp s.2.1).1
  rw[Qf,Qt]
  omega
theorem Zh3{L L':List Zw}{w:Option Int}{x:V}{k q:Int}{H:Hp}(W:Win (hdM L) (ZA L) w)(h:ZhL L w x L' k q H):(Win (hdP (Z6 L)) (ZaY (Z6 L)) none∧x=.non∧L'=L∧k=0∧q=0)∨∃ (y:ZY) (z:Str) (t:Addr),Zfc (Z6 L) y z k q∧Z6 L'=Zbt (Z6 L) y.1∧x=.ref t∧H t=some (.tup [.int y.1,.int (y.2.2:Int),.str z]):=by
 rw[Zgh,Zcw]at W
 rcases h with⟨rfl,h1,h2,h3,h4⟩|⟨e,t,z,he,rfl,rfl,hz,ht,rfl,ag⟩
 ·exact .inl ⟨W,h1,h2,h3,h4⟩
 ·refine .inr ⟨(e.n,(e.ss,e.g)),z,t,⟨Qd (f:=fun e:Zw=>(e.n,(e.ss,e.g))) he,hz,W,?_⟩,ZhY L e.n,rfl,ht⟩
  rw[Zgh,ZhY,Zcw]at ag
  exact ag
def Zrz(K:PySem.W.Frag)(cR cM:Addr):Sp:=fun vs H Q _=>∃ (m rd sd:Addr) (L:List Zw) (s:StL) (nb li lo:Int) (w:Option Int) (many:Int),vs=[.ref m,.int many]∧ZP cR cM H m rd sd L s nb li lo (Zcg w)∧Win (hdM L) (ZA L) w∧ZR (hdM L) s (ZA L)∧ZaU (Z6 L)≤100000 ∧
 ∀ (r:Addr) (us:List (Addr×Zc7)) (L':List Zw) (s':StL) (w':Option Int) (k q:Int) (H':Hp),H r=none→H' r=some (.lst (us.map fun u=>V.ref u.1))→(∀u∈us,H' u.1=some (.tup [.int u.2.1,.int (u.2.2.1:Int),.str u.2.2.2]))→ZbI (Z6 L) (us.map (·.2)) (Z6 L') k q→((us.length:Int)<many→w'=none)→(us≠[]→(us.length:Int)≤many)→ZP cR cM H' m rd sd L' s' nb (li+k) (lo+q) (Zcg w')→Win (hdM L') (ZA L') w'→ZR (hdM L') s' (ZA L')→(∀b,Fp m rd sd L' b↔Fp m rd sd L b)→(∀b o,H b=some o→¬ Fp m rd sd L b→H' b=some o)→Q (.ref r) H'
theorem ZhL.fp{L L':List Zw}{w:Option Int}{x:V}{k q:Int}{H:Hp}(h:ZhL L w x L' k q H){m rd sd b:Addr}:Fp m rd sd L' b↔Fp m rd sd L b:=by
 rcases h with⟨_,_,rfl,_⟩|⟨e,t,z,_,_,_,_,_,rfl,_⟩
 ·exact Iff.rfl
 ·exact⟨ZpA,Fp_bump'⟩
theorem ZP.fp_live{cR cM:Addr}{H:Hp}{m rd sd:Addr}{L:List Zw}{s:StL}{nb li lo:Int}{best:V}(M:ZP cR cM H m rd sd L s nb li lo best){b:Addr}(h:Fp m rd sd L b):∃o,H b=some o∧∀xs,o≠.tup xs:=by
 rcases h with rfl|rfl|rfl|⟨e,he,h⟩
 ·obtain⟨dx,hd⟩:=M.ob;exact⟨_,hd,fun xs z=>by cases z⟩
 ·exact⟨_,M.rows,fun xs z=>by cases z⟩
 ·exact⟨_,M.stays,fun xs z=>by cases z⟩
 ·have R:=(M.each e he).at'
  obtain⟨dx,hd⟩:=R.ob
  rcases h with rfl|rfl|rfl
  ·exact⟨_,hd,fun xs z=>by cases z⟩
  ·exact⟨_,R.ks,fun xs z=>by cases z⟩
  ·exact⟨_,R.fs,fun xs z=>by cases z⟩
theorem ZP.fp_fresh{cR cM:Addr}{H:Hp}{m rd sd:Addr}{L:List Zw}{s:StL}{nb li lo:Int}{best:V}(M:ZP cR cM H m rd sd L s nb li lo best){b:Addr}(h:H b=none):¬ Fp m rd sd L b:=fun z=>by
 obtain⟨o,ho,_⟩:=M.fp_live z
 rw[h]at ho;cases ho
theorem ZP.fp_tup{cR cM:Addr}{H:Hp}{m rd sd:Addr}{L:List Zw}{s:StL}{nb li lo:Int}{best:V}(M:ZP cR cM H m rd sd L s nb li lo best){b:Addr}{xs:List V}(h:H b=some (.tup xs)):¬ Fp m rd sd L b:=fun z=>by
 obtain⟨o,ho,hn⟩:=M.fp_live z
 rw[h]at ho;cases ho;exact hn xs rfl
theorem ZqN(T:Zai K mg cRow cMerge)(f_Merge_take:Mf P w K mg base 6 cMerge "take" ["self"] (Zni cRow cMerge)):Mf P w K mg base 7 cMerge "take_few" ["self", "many"] (Zrz K cRow cMerge):=by
 refine T.t_Merge_take_few.mf ZcJ (fun vs H Q E h=>?_) (fun cdv f A outer s H vs Q E hr h=>?_)
 ·obtain⟨m,rd,sd,L,s,nb,li,lo,w,many,rfl,_⟩:=h
  rfl
 obtain⟨m,rd,sd,L,s,nb,li,lo',w,many,rfl,M,W,ok,hleft,q⟩:=h
 refine⟨_,#[Zf,#[Zy,2,ZcJ.nd,(Or.inl rfl),#[Zab,#[Ze]]],#[Zf,(@Zd6 _ _ _ _ _ _ PassesOwn.never (@PW.pt _ _ _ #[ZbQ,#[Zo,ZeF,#[Zk,(Zb1 K),(by rfl),T.b.n_len,Qs,#[Za,‹2›,#[Ze]]],‹1›,(Zs _)],#[ZbH,#[Zo,Zes,#[ZO,‹0›],#[ZW],(Zs _)]]]) #[Zj,#[Z8,#[ZdJ,QL,QT,QU,Zbk,‹2›,#[Za,#[Zav,f_Merge_take,T.cl_Merge,hr,‹0›],#[Ze]]]]]),#[Zj,#[Zr,‹2›]]]],?_⟩
 have nd:(ZaY (Z6 L)).Nodup:=by rw[← Zcw];exact M.nd
 refine⟨(by show 0≤sizeLine;decide),fun r hr0=>?_⟩
 have nfr:=M.fp_fresh hr0
 refine⟨fun mm σ H2=>∃ (us:List (Addr×Zc7)) (L':List Zw) (s':StL) (w':Option Int) (k q':Int),σ=[some (.ref m),some (.int many),some (.ref r)]∧H2 r=some (.lst (us.map fun u=>V.ref u.1))∧(∀u∈us,u.1≠r∧H2 u.1=some (.tup [.int u.2.1,.int (u.2.2.1:Int),.str u.2.2.2]))∧ZbI (Z6 L) (us.map (·.2)) (Z6 L') k q'∧(us≠[]→(us.length:Int)≤many)∧ZP cRow cMerge H2 m rd sd L' s' nb (li+k) (lo'+q') (Zcg w')∧Win (hdM L') (ZA L') w'∧ZR (hdM L') s' (ZA L')∧(∀b,Fp m rd sd L' b↔Fp m rd sd L b)∧(∀b o,H b=some o→¬ Fp m rd sd L b→H2 b=some o)∧mm=ZaU (Z6 L'),⟨_,[],L,s,w,0,0,rfl,Zb,(fun u h=>by cases h),.nil,(fun h=>absurd rfl h),(M.same (Zh hr0 _)).cast (by omega) (by omega),W,ok,fun _=>Iff.rfl,fun b o hb _=>Zh hr0 _ _ _ hb,rfl⟩,?_⟩
 rintro mm σ H2 ⟨us,L1,s1,w1,k,q',rfl,hr2,hus,htk,hmany,M2,W2,ok2,hfp,k2,rfl⟩
 have hul:(((us.map fun u=>V.ref u.1).length:Nat):Int)=(us.length:Int):=by rw[Qa]
 have hlf:=htk.left nd
 rw[Qa]at hlf
 obtain⟨dx2,hm2⟩:=M2.ob
 have done:((us.length:Int)<many→w1=none)→Q (.ref r) H2:=fun hd=>q r us L1 s1 w1 k q' H2 hr0 hr2 (fun u hu=>(hus u hu).2) htk hd hmany M2 W2 ok2 hfp k2
 refine⟨_,rfl,r,_,rfl,.inl (SqL.of hr2),_,rfl,_,_,rfl,rfl,_,rfl,Zbc (fun d1=>?_) (fun d1=>?_)⟩
 ·have d1':(us.length:Int)<many:=by have:=of_decide_eq_true d1;omega
  refine⟨_,rfl,xw5 m cMerge dx2 _ _ ⟨rfl,hm2,T.cl_Merge,T.na_Merge_best,Zeg ..,rfl,_,rfl,?_⟩⟩
  cases w1 with
  | none=>exact Zeh rfl ⟨_,rfl,done fun _=>rfl⟩
  | some a =>
  refine ZgH (fun z=>nomatch z) ?_
  refine⟨_,fun σ' H' h=>h,?_⟩
  refine⟨_,rfl,.inl ⟨rfl,_,SqL.of hr2⟩,_,rfl,m,dx2,_,rfl,hm2,ZgB ..,m,rd,sd,L1,s1,nb,_,_,some a,rfl,M2,W2,ok2,fun x L3 s3 w3 k3 q3 H3 hR M3 W3 ok3 kp3=>?_⟩
  have hr3:H3 r=some (.lst (us.map fun u=>V.ref u.1)):=kp3 _ _ hr2 (fun z=>nfr ((hfp r).mp z))
  rcases Zh3 W2 hR with⟨w0,_⟩|⟨y,z,t,stp,eL,rfl,ht⟩
  ·rw[Zgh,Zcw]at W2
   exact nomatch w0.one W2
  have hbl:=Zfs _ (by rw[htk.num];exact nd) stp.1 (Qi.mp stp.2.1).1
  have htr:t≠r:=fun e=>by rw[e,hr3]at ht;cases ht
  refine⟨r,_,_,rfl,rfl,hr3,(by rw[Qa,sizeLine_eq];omega),ZaU (Z6 L3),by rw[eL];omega,us++[(t,(y.1,y.2.2,z))],L3,s3,w3,k+k3,q'+q3,rfl,by rw[Zb,Qe];rfl,fun u hu=>?_,?_,fun _=>by rw[Qf,Qt];omega,?_,W3,ok3,fun b=>(hR.fp).trans (hfp b),fun b o hb nf=>?_,rfl⟩
  ·rcases Qk.mp hu with hu|hu
   ·obtain⟨g2,g3⟩:=hus u hu
    exact⟨g2,by rw[Zc g2];exact kp3 _ _ g3 (M2.fp_tup g3)⟩
   ·rw[Qp.mp hu]
    exact⟨htr,by rw[Zc htr];exact ht⟩
  ·rw[Qe,eL]
   exact .snoc htk stp
  ·refine ZP.cast (M3.keep fun b o hb hor=>?_) (by omega) (by omega)
   rw[Zc (fun e=>?_)]
   ·exact hb
   ·subst e
    rcases hor with hf|⟨xs,rfl⟩
    ·exact nfr ((hfp b).mp (hR.fp.mp hf))
    ·rw[hr3]at hb;cases hb
  ·rw[Zc (Zd hb hr0)]
   exact kp3 b o (k2 b o hb nf) (fun z=>nf ((hfp b).mp z))
 ·refine Zbr ⟨_,rfl,done fun h=>?_⟩
  have:¬ ((((us.map fun u=>V.ref u.1).length:Nat):Int)<many):=fun z=>d1 (decide_eq_true z)
  omega
def Znx:Sp:=fun vs H Q _=>∃ (a:Addr) (N:List Int) (n:Int),vs=[.ref a,.int n]∧H a=some (.lst (N.map V.int))∧n∈N∧N.length≤60∧Zag N ∧
 ∀ (r:Addr) (ts:List (Addr×Addr×Addr)) (H':Hp),H r=none→H' r=some (.lst (ts.map fun t=>V.ref t.1))→ts.length=(ZK 8 N n).length→(∀ (i:Nat) (t:Addr×Addr×Addr) (X:List Int),ts[i]? = some t→(ZK 8 N n)[i]? = some X→H' t.1=some (.tup [.ref t.2.1,.ref t.2.2])∧H' t.2.1=some (.lst ((ZT X n).map V.int))∧H' t.2.2=some (.lst ((Zaf X n).map V.int)))→ZH H H'→Q (.ref r) H'
theorem ZfU{M:List Int}(r:Zag M){n:Int}(hn:n∈M):(n∈up M↔¬ n∈lo M):=by
 constructor
 ·intro h g
  have:=ZM r g h
  omega
 ·intro h
  rw[← Zcc M]at hn
  exact(Qk.mp hn).resolve_left h
theorem Zpa(T:Zai K mg cRow cMerge)(f_l_halves:Df P w K mg base 1 "_law_halves" ["_law_numbers"] (Zb8 K false)):Df P w K mg base 2 "_law_way" ["_law_numbers", "_law_n"] Znx:=by
 refine T.t_l_way.df Zc4 (fun vs H Q E h=>?_) (fun cdv f A outer s H vs Q E hr h=>?_)
 ·obtain⟨a,N,n,rfl,_⟩:=h
  rfl
 obtain⟨a,N,n,rfl,ha,hn,h60,hup,q⟩:=h
 refine⟨_,#[Zf,#[ZfI,2,3,Zc4.nd,#[Za,#[ZaT,(Zia K),T.b.n_list,boot_list,#[Za,‹0›,#[Ze]]],#[Za,#[Zab,#[Ze]],#[Ze]]]],#[Zf,(@Zd6 _ _ _ _ _ _ PassesOwn.never #[Zo,ZfZ,#[Zk,(Zb1 K),(by rfl),T.b.n_len,Qs,#[Za,‹2›,#[Ze]]],#[Zi],(Zs _)] #[Zf,#[Z4,#[Zv,f_l_halves,hr,#[Za,‹2›,#[Ze]],(by rfl)],(@gL _ K _ _ _ 2 _ #[ZC,#[ZD,4,Zc4.nd,(Or.inl rfl)],#[ZC,#[ZD,5,Zc4.nd,(Or.inl rfl)],(@ZaF _)]] (by rfl) (by rfl) (by rfl) (by rfl))],#[Zf,#[Z3,#[Zo,(inQ K),‹1›,‹5›,(by with_unfolding_all rfl)],#[Zj,#[ZfI,4,5,Zc4.nd,#[Za,‹5›,#[Za,‹4›,#[Ze]]]]],#[ZF]],#[Zf,#[Z8,#[ZdJ,QL,QT,QU,Zbk,‹3›,#[Za,#[ZaC,#[Za,‹4›,#[Za,‹5›,#[Ze]]]],#[Ze]]]],#[Zj,#[Zy,2,Zc4.nd,(Or.inl rfl),‹4›]]]]]),#[Zj,#[Zr,(@Zma _ _ _ _ _ _ _ _ _ _ _ _ (ZsB K) ‹3› (@ZdD _) (@ZdD _) (@Zeu _ _ _ #[Zg1,ZeU,#[Zi]]))]]]],?_⟩
 refine⟨_,rfl,a,_,rfl,.inl (SqL.of ha),fun b0 hb0=>⟨(by show 0≤sizeLine;decide),fun o hO1=>⟨_,_,rfl,?_⟩⟩⟩
 have sb:ZH H (upd H b0 (.lst (N.map V.int))):=Zh hb0 _
 have hO:H o=none:=sb.free hO1
 have nbo:b0≠o:=Zd (H:=upd H b0 (.lst (N.map V.int))) Zb hO1
 have hpw:N.length≤2 ^ 8:=Qy h60 (by decide)
 refine⟨fun m σ H2=>∃ (b:Addr) (M:List Int) (ts:List (Addr×Addr×Addr)) (D:List (List Int)) (k:Nat) (v4 v5:Option V),σ=[some (.ref a),some (.int n),some (.ref b),some (.ref o),v4,v5]∧H2 b=some (.lst (M.map V.int))∧b≠o∧n∈M∧Zag M∧M.length≤60∧M.length≤2 ^ k∧ZK 8 N n=ZK k M n++D.reverse∧ts.length=D.length∧H2 o=some (.lst (ts.map fun t=>V.ref t.1))∧(∀ (i:Nat) (t:Addr×Addr×Addr) (X:List Int),ts[i]? = some t→D[i]? = some X→H2 t.1=some (.tup [.ref t.2.1,.ref t.2.2])∧H2 t.2.1=some (.lst ((ZT X n).map V.int))∧H2 t.2.2=some (.lst ((Zaf X n).map V.int))∧t.1≠o∧t.2.1≠o∧t.2.2≠o)∧ZH H H2∧m=M.length∧k+D.length=8,⟨_,b0,N,[],[],8,none,none,rfl,by rw[Zc nbo];exact Zb,nbo,hn,hup,h60,hpw,by simp,rfl,Zb,(fun i t X h=>by simp at h),sb.trans (Zh hO1 _),rfl,rfl⟩,?_⟩
 rintro m σ H2 ⟨b,M,ts,D,k,v4,v5,rfl,hb,nb,hnM,hupM,h60M,hpk,hch,htl,ho,hts,s2,rfl,hk8⟩
 have hlc:(((M.map V.int).length:Nat):Int)=(M.length:Int):=by rw[Qa]
 refine⟨_,rfl,b,_,rfl,.inl (SqL.of hb),_,_,rfl,rfl,_,rfl,?_⟩
 refine Zbc (fun c1=>?_) (fun c1=>?_)
 ·have c1':(1:Int)<(((M.map V.int).length:Nat):Int):=of_decide_eq_true c1
  have hc:2≤M.length:=by omega
  obtain⟨k',rfl⟩:∃k',k=k'+1:=by
   cases k with
   | zero=>simp at hpk;omega
   | succ k'=>exact⟨k',rfl⟩
  refine⟨_,fun σ' H' h=>h,?_⟩
  refine⟨_,rfl,b,M,rfl,SqL.of hb,by omega,fun t x y H3 ht hx hy nxy et ex ey s3 ntx nty=>?_⟩
  rw[Zkb]at ex
  rw[ZkO]at ey
  refine⟨t,_,rfl,SqL.of et,rfl,_,_,rfl,_,_,rfl,rfl,?_⟩
  have ho3:=s3 _ _ ho
  have hlt:(ts.map fun t=>V.ref t.1).length<sizeLine:=by rw[Qa];exact ZB (by omega)
  have nox:o≠x:=Zd ho hx
  have noy:o≠y:=Zd ho hy
  have hsl:(ZT M n).length≤2 ^ k':=by
   rw[QaR]at hpk
   unfold ZT
   split
   ·unfold lo mid;rw[QA];omega
   ·unfold up mid;rw[Q0];omega
  have hch2:ZK 8 N n=ZK k' (ZT M n) n++(D++[M]).reverse:=by
   rw[hch]
   conv=>lhs;unfold ZK
   rw[if_pos hc,List.reverse_append,QaA];rfl
  have step:∀ (p u v:Addr) (H4:Hp),H3 p=none→H3 u=some (.lst ((ZT M n).map V.int))→H3 v=some (.lst ((Zaf M n).map V.int))→u≠o→v≠o→H4=upd (upd H3 p (.tup [.ref u,.ref v])) o (.lst ((ts.map fun t=>V.ref t.1)++[.ref p]))→∀v4 v5:Option V,∃m',m'<M.length∧∃ (b:Addr) (M':List Int) (ts:List (Addr×Addr×Addr)) (D:List (List Int)) (k:Nat) (w4 w5:Option V),[some (V.ref a),some (V.int n),some (V.ref u),some (V.ref o),v4,v5]=[some (.ref a),some (.int n),some (.ref b),some (.ref o),w4,w5]∧H4 b=some (.lst (M'.map V.int))∧b≠o∧n∈M'∧Zag M'∧M'.length≤60∧M'.length≤2 ^ k∧ZK 8 N n=ZK k M' n++D.reverse∧ts.length=D.length∧H4 o=some (.lst (ts.map fun t=>V.ref t.1))∧(∀ (i:Nat) (t:Addr×Addr×Addr) (X:List Int),ts[i]? = some t→D[i]? = some X→H4 t.1=some (.tup [.ref t.2.1,.ref t.2.2])∧H4 t.2.1=some (.lst ((ZT X n).map V.int))∧H4 t.2.2=some (.lst ((Zaf X n).map V.int))∧t.1≠o∧t.2.1≠o∧t.2.2≠o)∧ZH H H4∧m'=M'.length∧k+D.length=8:=fun p u v H4 hp hu hv nuo nvo e4 v4 v5=>by
   have npo:p≠o:=(Zd ho3 hp).symm
   have k4:∀b z,H3 b=some z→b≠o→H4 b=some z:=fun b z hb nb=>by rw[e4,Zc nb,Zc (Zd hb hp)];exact hb
   refine⟨_,ZeR hc n,u,ZT M n,ts++[(p,u,v)],D++[M],k',v4,v5,rfl,k4 _ _ hu nuo,nuo,Zdr hnM,(ZgQ hc n).rise hupM,by have:=ZeR hc n;omega,hsl,hch2,by rw[Qf,Qf,htl];rfl,by rw[e4,Zb,Qe];rfl,fun i t X hi hX=>?_,fun b z hb=>k4 b z (s3 b z (s2 b z hb)) (Zd hb hO),rfl,by rw[Qf,Qt];omega⟩
   by_cases hlt:i<ts.length
   ·rw[QO hlt]at hi
    rw[QO (by omega)]at hX
    obtain⟨g1,g2,g3,g4,g5,g6⟩:=hts i t X hi hX
    exact⟨k4 _ _ (s3 _ _ g1) g4,k4 _ _ (s3 _ _ g2) g5,k4 _ _ (s3 _ _ g3) g6,g4,g5,g6⟩
   ·have ei:i=ts.length:=by have:=(Qi.mp hi).1;rw[Qf,Qt]at this;omega
    subst ei
    rw[QP (Qg _),QaS]at hi
    cases hi
    rw[htl,QP (Qg _),QaS]at hX
    cases hX
    exact⟨by rw[e4,Zc npo];exact Zb,k4 _ _ hu nuo,k4 _ _ hv nvo,npo,nuo,nvo⟩
  refine⟨_,rfl,_,rfl,y,_,rfl,.inl (SqL.of ey),rfl,ZfS _,_,rfl,?_⟩
  show if inV (V.int n) ((up M).map V.int)=true then _ else _
  rw[ZiB]
  refine Zbc (fun c2=>?_) (fun c2=>?_)
  ·have c2':n∈up M:=of_decide_eq_true c2
   have e1:ZT M n=up M:=by unfold ZT;rw[if_neg ((ZfU hupM hnM).mp c2')]
   have e2:Zaf M n=lo M:=by unfold Zaf;rw[if_neg ((ZfU hupM hnM).mp c2')]
   refine⟨_,rfl,_,rfl,_,_,rfl,?_⟩
   refine⟨_,rfl,.inl ⟨rfl,_,SqL.of ho3⟩,_,rfl,_,rfl,(by show 2≤sizeLine;decide),fun p hp=>?_⟩
   refine⟨o,_,_,rfl,rfl,by rw[Zc (Zd ho3 hp)];exact ho3,hlt,_,rfl,?_⟩
   exact step p y x _ hp (by rw[e1];exact ey) (by rw[e2];exact ex) noy.symm nox.symm rfl _ _
  ·have c2':¬ n∈up M:=fun z=>c2 (decide_eq_true z)
   have hl:n∈lo M:=by
    by_cases g:n∈lo M
    ·exact g
    ·exact absurd ((ZfU hupM hnM).mpr g) c2'
   have e1:ZT M n=lo M:=by unfold ZT;rw[if_pos hl]
   have e2:Zaf M n=up M:=by unfold Zaf;rw[if_pos hl]
   refine⟨_,rfl,.inl ⟨rfl,_,SqL.of ho3⟩,_,rfl,_,rfl,(by show 2≤sizeLine;decide),fun p hp=>?_⟩
   refine⟨o,_,_,rfl,rfl,by rw[Zc (Zd ho3 hp)];exact ho3,hlt,_,rfl,?_⟩
   exact step p x y _ hp (by rw[e1];exact ex) (by rw[e2];exact ey) nox.symm noy.symm rfl _ _
 ·have c1':¬ (1:Int)<(((M.map V.int).length:Nat):Int):=fun z=>c1 (decide_eq_true z)
  have hnil:ZK k M n=[]:=by
   cases k with
   | zero=>rfl
   | succ k=>unfold ZK;rw[if_neg (by omega)]
  rw[hnil,List.nil_append]at hch
  refine⟨_,rfl,_,rfl,_,rfl,_,rfl,o,_,rfl,SqL.of ho,by decide,fun r hr0=>?_⟩
  refine q r ts.reverse _ (s2.free hr0) (by rw[Zb,ZlX,List.map_reverse]) (by rw[hch,QaG,QaG];exact htl) (fun i t X hi hX=>?_) (s2.trans (Zh hr0 _))
  rw[hch]at hX
  have hil:i<ts.length:=by have:=(Qi.mp hi).1;rw[QaG]at this;exact this
  rw[List.getElem?_reverse hil]at hi
  rw[List.getElem?_reverse (by omega),← htl]at hX
  obtain⟨g1,g2,g3,_⟩:=hts _ t X hi hX
  exact⟨Zh hr0 _ _ _ g1,Zh hr0 _ _ _ g2,Zh hr0 _ _ _ g3⟩
theorem ZeB(n:Int)(e:Zx):(Zeb n e).1=e.1∧(Zeb n e).2.1=e.2.1∧(Zeb n e).2.2.1=e.2.2.1:=by unfold Zeb;split<;>exact⟨rfl,rfl,rfl⟩
theorem Zh6(Lo:List Zx)(n:Int):(ZaQ Lo n).map (·.1)=Lo.map (·.1):=by
 unfold ZaQ
 rw[Qj]
 exact Qx fun e _=>(ZeB n e).1
theorem Zm6(Lo:List Zx)(n:Int):kvR (ZaQ Lo n)=kvR Lo:=by
 unfold kvR ZaQ
 rw[Qj]
 refine Qx fun e _=>?_
 simp only[Function.comp]
 rw[(ZeB n e).1,(ZeB n e).2.1]
theorem Zpx{Lo:List Zx}(nd:(Lo.map (·.1)).Nodup){e:Zx}(he:e∈Lo):Zbn (kvG Lo) (.inl e.1) (.int ((e.2.2.2:Int)+1))=kvG (ZaQ Lo e.1):=by
 unfold Zbn
 rw[if_pos]
 ·unfold kvG ZaQ
  rw[Qj,Qj]
  refine Qx fun x hx=>?_
  simp only[Function.comp]
  unfold Zeb
  by_cases h:x.1=e.1
  ·have ex:x=e:=ZbD nd hx he h
   subst ex
   rw[if_pos rfl,if_pos rfl]
   show _=(_,V.int (((x.2.2.2+1:Nat)):Int))
   rw[Int.natCast_add];rfl
  ·rw[if_neg (fun z=>h (Sum.inl.inj z)),if_neg h]
 ·exact Qar.mpr ⟨_,Qd (f:=fun e:Zx=>((.inl e.1:Key),V.int (e.2.2.2:Int))) he,decide_eq_true rfl⟩
theorem Own.ne_l{H:Hp}{o ra ga:Addr}{L:List Zx}{nb li lo:Int}(h:Own H o ra ga L nb li lo){e:Zx}(he:e∈L):e.2.1≠o∧e.2.1≠ra∧e.2.1≠ga:=by
 have a:=(h.lst e he).1
 refine⟨fun z=>?_,fun z=>?_,fun z=>?_⟩
 ·rw[z,h.at']at a;cases a
 ·rw[z,h.rows]at a;cases a
 ·rw[z,h.gone]at a;cases a
theorem Own.bump{H:Hp}{o ra ga:Addr}{L:List Zx}{nb li lo:Int}(h:Own H o ra ga L nb li lo){e:Zx}(he:e∈L)(hg:e.2.2.2<e.2.2.1.length):Own (upd H ga (.dK (kvG (ZaQ L e.1)))) o ra ga (ZaQ L e.1) nb li lo:=by
 obtain⟨n1,n2⟩:=h.ne
 have n3:=h.ne2 (fun z=>by rw[z]at he;cases he)
 refine⟨by rw[Zc n2.symm];exact h.at',by rw[Zc n3.symm,Zm6];exact h.rows,Zb,by rw[Zh6];exact h.nd,by unfold ZaQ;rw[Qa];exact h.few,fun x hx=>?_⟩
 obtain⟨y,hy,rfl⟩:=Qo.mp hx
 obtain⟨a1,a2,a3,a4⟩:=h.lst y hy
 obtain⟨_,b2,b3⟩:=ZeB e.1 y
 rw[b2,b3]
 refine⟨by rw[Zc (h.ne_l hy).2.2];exact a1,a2,?_,a4⟩
 by_cases hn:y.1=e.1
 ·have ey:y=e:=ZbD h.nd hy he hn
  subst ey
  unfold Zeb
  rw[if_pos rfl]
  exact hg
 ·unfold Zeb
  rw[if_neg hn]
  exact a3
theorem Own.but{H H':Hp}{o ra ga:Addr}{L:List Zx}{nb li lo li' lo':Int}(h:Own H o ra ga L nb li lo)(k:∀b u,H b=some u→b≠o→H' b=some u)(ho:H' o=some (.dK (Zaw ra ga nb li' lo'))):Own H' o ra ga L nb li' lo':=by
 obtain⟨n1,n2⟩:=h.ne
 exact⟨ho,k _ _ h.rows n1,k _ _ h.gone n2,h.nd,h.few,fun e he=>let ⟨a,b⟩:=h.lst e he;⟨k _ _ a (h.ne_l he).1,b⟩⟩
def Zfr(Lo:List Zx)(x:V)(Lo':List Zx)(k q:Int)(H':Hp):Prop :=
 (x=.non∧Win (hdL Lo) (Lo.map (·.1)) none∧Lo'=Lo∧k=0∧q=0)∨∃ (e:Zx) (t:Addr) (z:Str),e∈Lo∧Win (hdL Lo) (Lo.map (·.1)) (some e.1)∧x=.ref t∧e.2.2.1[e.2.2.2]? = some z∧H' t=some (.tup [.int e.1,.int (e.2.2.2:Int),.str z])∧Lo'=ZaQ Lo e.1∧Ag (hdL Lo') (cds z) (ZbS e.1 (ZK 8 (Lo.map (·.1)) e.1)) k q
def ZnP:Sp:=fun vs H Q _=>∃ (o ra ga:Addr) (Lo:List Zx) (nb li lo:Int),vs=[.ref o]∧Own H o ra ga Lo nb li lo∧(Lo.map (·.1)).Pairwise (·<·) ∧
 ∀ (x:V) (Lo':List Zx) (k q:Int) (H':Hp),Zfr Lo x Lo' k q H'→Own H' o ra ga Lo' nb (li+k) (lo+q)→(∀b u,H b=some u→b≠o→b≠ga→H' b=some u)→Q x H'
theorem ZlK(T:Zai K mg cRow cMerge)(f_l_coming:Df P w K mg base 2 "_law_coming" ["_law_own"] Zke)(f_l_heads:Df P w K mg base 1 "_law_heads" ["_law_own"] Zff)(f_l_way:Df P w K mg base 2 "_law_way" ["_law_numbers", "_law_n"] Znx)(f_l_least:Df P w K mg base 1 "_law_least" ["_law_heads_here", "_law_numbers"] (Zge K))(f_l_alike:Df P w K mg base 1 "_law_alike" ["_law_one", "_law_other"] ZcL):Df P w K mg base 3 "_law_taken" ["_law_own"] ZnP:=by
 refine T.t_l_taken.df ZaN (fun vs H Q E h=>?_) (fun cdv f A outer s H vs Q E hr h=>?_)
 ·obtain⟨o,ra,ga,Lo,nb,li,lo,rfl,_⟩:=h
  rfl
 obtain⟨o,ra,ga,Lo,nb,li,lo',rfl,ow,hrise,q⟩:=h
 refine⟨_,#[Zf,#[Zy,1,ZaN.nd,(Or.inl rfl),#[Zv,f_l_coming,hr,#[Za,‹0›,#[Ze]],(by rfl)]],#[Zf,#[Z3,#[Zo,Zbw,‹1›,#[ZW],(Zs _)],#[Zj,#[Zr,#[ZW]]],#[ZF]],#[Zf,#[Z4,‹1›,#[gT,K,3,#[ZC,#[ZD,2,ZaN.nd,(Or.inl rfl)],#[ZC,#[ZD,3,ZaN.nd,(Or.inl rfl)],#[ZC,#[ZD,4,ZaN.nd,(Or.inl rfl)],(@ZaF _)]]]]],#[Zf,#[Z4,#[ZE,Zah,‹3›,#[Zi]],#[ZaS,#[Zm,(ixG hr),‹0›,#[Zz]],‹2›,(ZdP hr)]],#[Zf,#[Zy,5,ZaN.nd,(Or.inl rfl),#[Zv,f_l_heads,hr,#[Za,‹0›,#[Ze]],(by rfl)]],#[Zf,#[ZbK,PassesOwn.never,#[iL,K,#[Zv,f_l_way,hr,#[Za,#[Zk,ZpF,(by rfl),T.b.n_sorted,boot_sorted,#[Za,‹5›,#[Ze]]],#[Za,‹2›,#[Ze]]],(by rfl)]],#[gT,K,2,#[ZC,#[ZD,6,ZaN.nd,(Or.inl rfl)],#[ZC,#[ZD,7,ZaN.nd,(Or.inl rfl)],(@ZaF _)]]],#[Zf,#[ZfI,8,9,ZaN.nd,#[Za,#[Zv,f_l_least,hr,#[Za,‹5›,#[Za,‹6›,#[Ze]]],(by rfl)],#[Za,#[Zv,f_l_least,hr,#[Za,‹5›,#[Za,‹7›,#[Ze]]],(by rfl)],#[Ze]]]],#[Zj,#[Z3,(@PW.pt _ _ _ #[ZbQ,#[Zo,Zes,‹8›,#[ZW],(Zs _)],#[ZbH,#[Zo,Zes,‹9›,#[ZW],(Zs _)]]]),#[Zf,#[Z4,#[ZE,Zah,#[Zm,(ixG hr),‹0›,#[Zz]],#[Zi]],#[ZaS,‹0›,#[Zz],(ZdP hr)]],#[Zf,#[Zy,10,ZaN.nd,(Or.inl rfl),#[Zv,f_l_alike,hr,#[Za,#[Zm,(ixG hr),‹5›,‹8›],#[Za,‹4›,#[Ze]]],(by rfl)]],#[Zj,#[Z3,#[Zo,Za7,‹10›,#[Zv,f_l_alike,hr,#[Za,#[Zm,(ixG hr),‹5›,‹9›],#[Za,‹4›,#[Ze]]],(by rfl)],(Zs _)],#[Zj,#[Z4,#[ZE,Zah,#[ZE,ZeZ,#[ZE,Zah,#[Zm,(ixG hr),‹0›,#[Zz]],#[Zv,f_l_alike,hr,#[Za,#[Zm,(ixG hr),‹5›,‹8›],#[Za,#[Zm,(ixG hr),‹5›,‹9›],#[Ze]]],(by rfl)]],‹10›],#[Zi]],#[ZaS,‹0›,#[Zz],(ZdP hr)]]],#[ZF]]]]],#[ZF]]]]],#[Zj,#[Zr,‹1›]]]]]]]],?_⟩
 refine⟨_,rfl,xw7 o ra ga Lo nb li lo' ⟨rfl,ow,fun x H1 hc s1=>?_⟩⟩
 have ow1:=ow.same s1
 rcases hc with⟨rfl,hw⟩|⟨t,e,z,rfl,he,hz,ht,hw⟩
 ·exact⟨_,rfl,rfl,_,rfl,Zcq rfl (q .non Lo 0 0 H1 (.inl ⟨rfl,hw,rfl,rfl,rfl⟩) (by rw[QR,QR];exact ow1) (fun b u hb _ _=>s1 b u hb))⟩
 refine⟨_,rfl,rfl,_,rfl,Zbv (fun z=>nomatch z) ?_⟩
 refine⟨_,rfl,t,_,rfl,SqT.of ht,rfl,_,_,rfl,_,_,rfl,_,_,rfl,rfl,?_⟩
 have hgl:e.2.2.2<e.2.2.1.length:=(Qi.mp hz).1
 have hsz:(kvG Lo).length<sizeLine:=by unfold kvG;rw[Qa];exact ZB (by have:=ow.few;omega)
 refine⟨_,rfl,_,_,rfl,rfl,_,rfl,o,_,rfl,ZL.k' (k:=.inr "gone") ow1.at' (ZbF ..),_,rfl,ga,_,rfl,Zb6.k (k:=.inl e.1) ow1.gone hsz,?_⟩
 rw[Zpx ow.nd he]
 have ow2:=ow1.bump he hgl
 have k2:∀b u,H b=some u→b≠ga→(upd H1 ga (.dK (kvG (ZaQ Lo e.1)))) b=some u:=fun b u hb n=>by rw[Zc n];exact s1 b u hb
 have ntg:t≠ga:=fun z=>by rw[z,ow1.gone]at ht;cases ht
 have ht2:(upd H1 ga (.dK (kvG (ZaQ Lo e.1)))) t=some (.tup [.int e.1,.int (e.2.2.2:Int),.str z]):=by rw[Zc ntg];exact ht
 generalize upd H1 ga (.dK (kvG (ZaQ Lo e.1)))=H2 at ow2 k2 ht2 ⊢
 refine⟨_,rfl,o,ra,ga,ZaQ Lo e.1,nb,li,lo',rfl,ow2,fun D E' H3 hD hds ho s3=>?_⟩
 have hnum:=Zh6 Lo e.1
 have hrise2:((ZaQ Lo e.1).map (·.1)).Pairwise (·<·):=by rw[hnum];exact hrise
 have hEl:E'.length=Lo.length:=by have:=ho.per.length_eq;rw[hnum,Qa,Qa]at this;exact this
 have hfew:=ow.few
 refine⟨_,rfl,D,_,E'.map (·.1),rfl,hds.at',ZgN E',by rw[Qa];omega,fun l ns hl hper hup=>?_⟩
 have sl:=Zh hl (.lst (ns.map V.int))
 have hl4:(upd H3 l (.lst (ns.map V.int))) l=some (.lst (ns.map V.int)):=Zb
 generalize upd H3 l (.lst (ns.map V.int))=H4 at sl hl4 ⊢
 have s4:=s3.trans sl
 have hp2:=hper.trans ho.per
 have hns:ns=Lo.map (·.1):=by rw[← hnum];exact ZgW hp2 (Zlf hup (hp2.nodup_iff.mpr ow2.nd)) hrise2
 subst hns
 have hmem:e.1∈Lo.map (·.1):=Qd he
 have h60:(Lo.map (·.1)).length≤60:=by rw[Qa];omega
 have hpw:(Lo.map (·.1)).length≤2 ^ 8:=Qy h60 (by decide)
 obtain⟨cok,ctop,clen⟩:=Ze3 8 (Lo.map (·.1)) e.1 hmem hpw
 refine⟨_,rfl,l,Lo.map (·.1),e.1,rfl,hl4,hmem,h60,hrise,fun r ts H5 hr0 hr5 htl hts s5=>?_⟩
 have s25:=s4.trans s5
 have ow5:=ow2.same s25
 have hds5:=(hds.same sl).same s5
 refine⟨r,rfl,⟨_,SqL.of hr5⟩,?_⟩
 have nro:r≠o:=(Zd (s4 _ _ ow2.at') hr0).symm
 have nDo:D≠o:=(Zd ow2.at' hD).symm
 have hhd:∀n∈Lo.map (·.1),hdL (ZaQ Lo e.1) n=hdE E' n:=fun n hn=>ho.same ow2.nd n (by rw[hnum];exact hn)
 refine Zfe (K:=K) (a:=r) (xs:=ts.map fun t=>V.ref t.1) (fun i σ H6=>∃ (k q':Int) (v6 v7 v8 v9 v10:Option V),σ=[some (.ref o),some (.ref t),some (.int e.1),some (.int (e.2.2.2:Int)),some (.str z),some (.ref D),v6,v7,v8,v9,v10]∧i≤ts.length∧H6 o=some (.dK (Zaw ra ga nb (li+k) (lo'+q')))∧Ag (hdL (ZaQ Lo e.1)) (cds z) (ZbS e.1 ((ZK 8 (Lo.map (·.1)) e.1).take i)) k q'∧(∀b u,H5 b=some u→b≠o→H6 b=some u)) ⟨0,0,xw5 _ _ _ _ _ ⟨rfl,Qv _,by rw[QR,QR];exact ow5.at',.nil,fun b u h _=>h⟩⟩ (fun i σ H6 _ hq=>by obtain⟨_,_,_,_,_,_,_,_,_,_,_,k6⟩:=hq;exact SqL.of (k6 _ _ hr5 nro)) ?_ ?_
 ·rintro i y σ H6 hy ⟨k,q',v6,v7,v8,v9,v10,rfl,hi,ho6,ag,k6⟩
  rw[Qn]at hy
  cases hzt:ts[i]? with
  | none=>rw[hzt]at hy;cases hy
  | some u =>
  rw[hzt]at hy
  cases hy
  have hil:i<ts.length:=(Qi.mp hzt).1
  cases hX:(ZK 8 (Lo.map (·.1)) e.1)[i]? with
  | none=>rw[Q9]at hX;omega
  | some X =>
  obtain⟨x1,x2,x3,x4⟩:=cok i X hX
  obtain⟨g1,g2,g3⟩:=hts i u X hzt hX
  have nou:∀b w',H5 b=some w'→(∀kk,w'≠.dK kk)→b≠o:=fun b w' hb hk zz=>by rw[zz,ow5.at']at hb;injection hb with hb;exact hk _ hb.symm
  have g1':=k6 _ _ g1 (nou _ _ g1 fun _ z=>by cases z)
  have g2':=k6 _ _ g2 (nou _ _ g2 fun _ z=>by cases z)
  have g3':=k6 _ _ g3 (nou _ _ g3 fun _ z=>by cases z)
  have pm:=Zeo X e.1
  have sA:∀b∈ZT X e.1,b∈Lo.map (·.1):=fun b hb=>x1.mem (pm.mem_iff.mp (QJ _ hb))
  have sB:∀b∈Zaf X e.1,b∈Lo.map (·.1):=fun b hb=>x1.mem (pm.mem_iff.mp (Qz _ hb))
  have inE:∀b∈Lo.map (·.1),b∈E'.map (·.1):=fun b hb=>ho.per.mem_iff.mpr (by rw[hnum];exact hb)
  have lA:(ZT X e.1).length≤60:=by
   have:=ZeR x2 e.1
   have:X.length≤(Lo.map (·.1)).length:=x1.len
   omega
  have lB:(Zaf X e.1).length≤60:=by
   have:X.length≤(Lo.map (·.1)).length:=x1.len
   have:=pm.length_eq
   rw[Qf]at this
   omega
  have hds6:Hds H6 D E':=⟨k6 _ _ hds5.at' nDo,hds5.nd,hds5.ok⟩
  refine⟨u.1,_,rfl,SqT.of g1',rfl,_,_,rfl,_,_,rfl,rfl,?_⟩
  refine⟨_,rfl,_,rfl,D,u.2.1,E',ZT X e.1,rfl,hds6,SqL.of g2',lA,fun b hb=>inE b (sA b hb),fun va H7 w1 s7=>?_⟩
  refine⟨_,rfl,_,rfl,D,u.2.2,E',Zaf X e.1,rfl,hds6.same s7,SqL.of (s7 _ _ g3'),lB,fun b hb=>inE b (sB b hb),fun vb H8 w2 s8=>⟨_,_,rfl,?_⟩⟩
  have s68:=s7.trans s8
  have ho8:=s68 _ _ ho6
  have w1':Win (hdL (ZaQ Lo e.1)) (ZT X e.1) va:=w1.congr fun m hm=>hhd m (sA m hm)
  have w2':Win (hdL (ZaQ Lo e.1)) (Zaf X e.1) vb:=w2.congr fun m hm=>hhd m (sB m hm)
  have keep8:∀b u,H5 b=some u→b≠o→H8 b=some u:=fun b u hb n=>s68 _ _ (k6 b u hb n)
  have hside:ZbS e.1 ((ZK 8 (Lo.map (·.1)) e.1).take (i+1))=ZbS e.1 ((ZK 8 (Lo.map (·.1)) e.1).take i)++[(ZT X e.1,Zaf X e.1)]:=by unfold ZbS;rw[QH,hX,Qe];rfl
  cases va with
  | none=>exact⟨_,rfl,rfl,_,rfl,Zeh rfl (Zbr ⟨k,q',_,_,_,_,_,rfl,hil,ho8,by rw[hside];exact .no ag (.inl w1'),keep8⟩)⟩
  | some a =>
  refine⟨_,rfl,rfl,_,rfl,ZgH (fun z=>nomatch z) ?_⟩
  cases vb with
  | none=>exact⟨_,rfl,rfl,_,rfl,Zeh rfl ⟨k,q',_,_,_,_,_,rfl,hil,ho8,by rw[hside];exact .no ag (.inr w2'),keep8⟩⟩
  | some b =>
  refine⟨_,rfl,rfl,_,rfl,ZgH (fun z=>nomatch z) ?_⟩
  obtain⟨ma,za,ea,ha⟩:=Ziu w1
  obtain⟨mb,zb,eb,hb⟩:=Ziu w2
  have hds8:=hds6.same s68
  have va:=ZfB hds.nd (inE a (sA a ma))
  have vb:=ZfB hds.nd (inE b (sB b mb))
  rw[ea]at va
  rw[eb]at vb
  have ha':hdL (ZaQ Lo e.1) a=some (cds za):=by rw[hhd a (sA a ma)];exact ha
  have hb':hdL (ZaQ Lo e.1) b=some (cds zb):=by rw[hhd b (sB b mb)];exact hb
  have hzl:z.length≤1000:=((ow.lst e he).2.2.2 z (Qw hz)).1
  have hol:∀l1 l2:Int,(Zaw ra ga nb l1 l2).length<sizeLine:=fun _ _=>ZB (by show 5≤1000;decide)
  refine⟨_,rfl,o,_,rfl,ZL.k' (k:=.inr "likenings") ho8 (ZbU ..),_,_,rfl,rfl,_,rfl,o,_,rfl,Zb6.k (k:=.inr "likenings") ho8 (hol _ _),?_⟩
  rw[Zgs]
  have ho9:(upd H8 o (.dK (Zaw ra ga nb (li+k+1) (lo'+q')))) o=some (.dK (Zaw ra ga nb (li+k+1) (lo'+q'))):=Zb
  have hD9:Hds (upd H8 o (.dK (Zaw ra ga nb (li+k+1) (lo'+q')))) D E':=⟨by rw[Zc nDo];exact hds8.at',hds8.nd,hds8.ok⟩
  have keep9:∀b u,H5 b=some u→b≠o→(upd H8 o (.dK (Zaw ra ga nb (li+k+1) (lo'+q')))) b=some u:=fun b u hb n=>by rw[Zc n];exact keep8 b u hb n
  generalize upd H8 o (.dK (Zaw ra ga nb (li+k+1) (lo'+q')))=H9 at ho9 hD9 keep9 ⊢
  refine⟨_,rfl,_,rfl,D,_,rfl,ZL.k' (k:=.inl a) hD9.at' va,_,rfl,za,z,rfl,(hds.lk ea).1,hzl,?_⟩
  refine⟨_,rfl,_,rfl,_,rfl,D,_,rfl,ZL.k' (k:=.inl b) hD9.at' vb,_,rfl,zb,z,rfl,(hds.lk eb).1,hzl,rfl,_,rfl,Zbc (fun d=>?_) (fun d=>?_)⟩
  ·have ef:lcp (cds za) (cds z)=lcp (cds zb) (cds z):=by have:=of_decide_eq_true d;injection this with this;omega
   refine⟨_,rfl,o,_,rfl,ZL.k' (k:=.inr "looks") ho9 (ZfO ..),_,rfl,_,rfl,D,_,rfl,ZL.k' (k:=.inl a) hD9.at' va,_,rfl,_,rfl,D,_,rfl,ZL.k' (k:=.inl b) hD9.at' vb,za,zb,rfl,(hds.lk ea).1,(hds.lk eb).1,_,_,rfl,rfl,_,rfl,_,_,rfl,rfl,_,_,rfl,rfl,_,rfl,o,_,rfl,Zb6.k (k:=.inr "looks") ho9 (hol _ _),?_⟩
   rw[Zhd]
   refine⟨k+1,q'+((lcp (cds za) (cds zb):Nat)-(lcp (cds za) (cds z):Nat)+1),xw5 _ _ _ _ _ ⟨rfl,hil,?_,by rw[hside];exact .eq ag w1' w2' ha' hb' ef,fun b u hb n=>by rw[Zc n];exact keep9 b u hb n⟩⟩
   rw[Zb]
   have e1:li+k+1=li+(k+1):=by omega
   have e2:lo'+q'+((lcp (cds za) (cds zb):Nat):Int)-((lcp (cds za) (cds z):Nat):Int)+1=lo'+(q'+((lcp (cds za) (cds zb):Nat)-(lcp (cds za) (cds z):Nat)+1)):=by omega
   rw[e1,e2]
  ·have nf:lcp (cds za) (cds z)≠lcp (cds zb) (cds z):=fun e=>d (decide_eq_true (by rw[e]))
   exact⟨k+1,q',xw5 _ _ _ _ _ ⟨rfl,hil,by rw[show li+(k+1)=li+k+1 by omega];exact ho9,by rw[hside];exact .ne ag w1' w2' ha' hb' nf,keep9⟩⟩
 ·rintro σ H6 ⟨k,q',v6,v7,v8,v9,v10,rfl,_,ho6,ag,k6⟩
  rw[Qa,htl,QD (Qg _)]at ag
  have nto:t≠o:=fun zz=>by rw[zz,ow2.at']at ht2;cases ht2
  refine⟨_,rfl,q (.ref t) (ZaQ Lo e.1) k q' H6 (.inr ⟨e,t,z,he,hw,rfl,hz,k6 _ _ (s25 _ _ ht2) nto,rfl,ag⟩) (ow5.but k6 ho6) (fun b u hb n1 n2=>k6 b u (s25 b u (k2 b u hb n2)) n1)⟩
structure MS where
 m:Addr
 rd:Addr
 sd:Addr
 L:List Zw
 s:StL
 nb:Int
 li:Int
 lo:Int
 w:Option Int
structure OS where
 o:Addr
 ra:Addr
 ga:Addr
 Lo:List Zx
 nb:Int
def ZU(Y:OS)(b:Addr):Prop:=b=Y.o∨b=Y.ra∨b=Y.ga∨∃e∈Y.Lo,b=e.2.1
def MFp(X:MS)(b:Addr):Prop:=Fp X.m X.rd X.sd X.L b
structure MOk (cR cM:Addr) (H:Hp) (X:MS):Prop where
 M:ZP cR cM H X.m X.rd X.sd X.L X.s X.nb X.li X.lo (Zcg X.w)
 W:Win (hdM X.L) (ZA X.L) X.w
 ok:ZR (hdM X.L) X.s (ZA X.L)
structure Zd7 (cR cM:Addr) (H:Hp) (X:MS) (Y:OS):Prop where
 mg:MOk cR cM H X
 ow:Own H Y.o Y.ra Y.ga Y.Lo Y.nb X.li X.lo
 ag:Agr Y.Lo X.L
 sep:∀b,MFp X b→¬ ZU Y b
theorem MOk.same{cR cM:Addr}{H H':Hp}{X:MS}(h:MOk cR cM H X)(s:ZH H H'):MOk cR cM H' X:=⟨h.M.same s,h.W,h.ok⟩
theorem MOk.keep{cR cM:Addr}{H H':Hp}{X:MS}(h:MOk cR cM H X)(k:∀b o,H b=some o→MFp X b∨(∃xs,o=.tup xs)→H' b=some o):MOk cR cM H' X:=⟨h.M.keep k,h.W,h.ok⟩
theorem Own.keep{H H':Hp}{o ra ga:Addr}{L:List Zx}{nb li lo:Int}(h:Own H o ra ga L nb li lo)(k:∀b u,H b=some u→ZU ⟨o,ra,ga,L,nb⟩ b→H' b=some u):Own H' o ra ga L nb li lo :=
 ⟨k _ _ h.at' (.inl rfl),k _ _ h.rows (.inr (.inl rfl)),k _ _ h.gone (.inr (.inr (.inl rfl))),h.nd,h.few,fun e he=>let ⟨a,b⟩:=h.lst e he;⟨k _ _ a (.inr (.inr (.inr ⟨e,he,rfl⟩))),b⟩⟩
theorem Zd7.same{cR cM:Addr}{H H':Hp}{X:MS}{Y:OS}(h:Zd7 cR cM H X Y)(s:ZH H H'):Zd7 cR cM H' X Y:=⟨h.mg.same s,h.ow.same s,h.ag,h.sep⟩
theorem ZfC{o ra ga:Addr}{Lo:List Zx}{nb:Int}{n:Int}{b:Addr}(h:ZU ⟨o,ra,ga,ZaQ Lo n,nb⟩ b):ZU ⟨o,ra,ga,Lo,nb⟩ b:=by
 rcases h with h|h|h|⟨e',he',h⟩
 ·exact .inl h
 ·exact .inr (.inl h)
 ·exact .inr (.inr (.inl h))
 ·obtain⟨e,he,rfl⟩:=Qo.mp he'
  rw[(ZeB n e).2.1]at h
  exact .inr (.inr (.inr ⟨e,he,h⟩))
theorem Zex{Lo:List Zx}{L:List Zw}(h:Agr Lo L):pur Lo=Z6 L:=h
theorem Own.live{H:Hp}{o ra ga:Addr}{L:List Zx}{nb li lo:Int}(h:Own H o ra ga L nb li lo){b:Addr}(hb:ZU ⟨o,ra,ga,L,nb⟩ b):∃u,H b=some u∧∀xs,u≠.tup xs:=by
 rcases hb with rfl|rfl|rfl|⟨e,he,rfl⟩
 ·exact⟨_,h.at',fun xs z=>by cases z⟩
 ·exact⟨_,h.rows,fun xs z=>by cases z⟩
 ·exact⟨_,h.gone,fun xs z=>by cases z⟩
 ·exact⟨_,(h.lst e he).1,fun xs z=>by cases z⟩
theorem Zly{cR cM:Addr}{H H1 H2:Hp}{X:MS}{Y:OS}(p:Zd7 cR cM H X Y){x y:V}{L':List Zw}{s':StL}{w':Option Int}{k q k' q':Int}{Lo':List Zx}(hR:ZhL X.L X.w x L' k q H1)
  (M1:ZP cR cM H1 X.m X.rd X.sd L' s' X.nb (X.li+k) (X.lo+q) (Zcg w')) (W1:Win (hdM L') (ZA L') w') (ok1:ZR (hdM L') s' (ZA L')) (k1:∀b o,H b=some o→¬ MFp X b→H1 b=some o)
  (hT:Zfr Y.Lo y Lo' k' q' H2) (ow2:Own H2 Y.o Y.ra Y.ga Lo' Y.nb (X.li+k') (X.lo+q')) (k2:∀b u,H1 b=some u→b≠Y.o→b≠Y.ga→H2 b=some u) (n:Nat) :
  k=k'∧q=q'∧Zd7 cR cM H2 ⟨X.m,X.rd,X.sd,L',s',X.nb,X.li+k,X.lo+q,w'⟩ ⟨Y.o,Y.ra,Y.ga,Lo',Y.nb⟩∧IsD H2 (n+2) x y∧(∀b,MFp ⟨X.m,X.rd,X.sd,L',s',X.nb,X.li+k,X.lo+q,w'⟩ b↔MFp X b)∧(∀b,ZU ⟨Y.o,Y.ra,Y.ga,Lo',Y.nb⟩ b→ZU Y b) ∧
   ((Win (hdP (Z6 X.L)) (ZaY (Z6 X.L)) none∧L'=X.L∧k=0∧q=0)∨∃ (u:ZY) (z:Str),Zfc (Z6 X.L) u z k q∧Z6 L'=Zbt (Z6 X.L) u.1):=by
 have fpe:∀b,MFp ⟨X.m,X.rd,X.sd,L',s',X.nb,X.li+k,X.lo+q,w'⟩ b↔MFp X b:=fun b=>hR.fp
 have nd:(ZaY (Z6 X.L)).Nodup:=by rw[← Zcw];exact p.mg.M.nd
 have eP:=Zex p.ag
 have kt:∀t xs,H1 t=some (.tup xs)→H2 t=some (.tup xs):=fun t xs ht=>by
  have ow1:∀b,ZU Y b→∃u,H1 b=some u∧∀xs,u≠.tup xs:=fun b hb=>by
   obtain⟨u,hu,hn⟩:=p.ow.live hb
   exact⟨u,k1 b u hu (fun z=>p.sep b z hb),hn⟩
  refine k2 t _ ht (fun z=>?_) (fun z=>?_)
  ·obtain⟨u,hu,hn⟩:=ow1 t (.inl z)
   rw[ht]at hu;cases hu;exact hn xs rfl
  ·obtain⟨u,hu,hn⟩:=ow1 t (.inr (.inr (.inl z)))
   rw[ht]at hu;cases hu;exact hn xs rfl
 have keepM:∀b o,H1 b=some o→Fp X.m X.rd X.sd L' b∨(∃xs,o=.tup xs)→H2 b=some o:=fun b o hb hor=>by
  rcases hor with hf|⟨xs,rfl⟩
  ·have:=p.sep b ((fpe b).mp hf)
   exact k2 b o hb (fun z=>this (.inl z)) (fun z=>this (.inr (.inr (.inl z))))
  ·exact kt b xs hb
 have W:=p.mg.W
 have hs:=Zh3 W hR
 have hTW:=hT
 rcases hs with⟨w0,rfl,rfl,rfl,rfl⟩|⟨u,z,t,st,eL,rfl,ht⟩
 ·rcases hT with⟨rfl,hw,rfl,rfl,rfl⟩|⟨e,t,z,_,hw,_⟩
  ·refine⟨rfl,rfl,⟨⟨M1.keep keepM,W1,ok1⟩,ow2,p.ag,fun b hb=>p.sep b ((fpe b).mp hb)⟩,ZbZ (.inl rfl),fpe,fun b hb=>hb,.inl ⟨w0,rfl,rfl,rfl⟩⟩
  ·rw[Ze0,Zci,eP]at hw
   exact nomatch w0.one hw
 ·rcases hT with⟨_,hw,_⟩|⟨e,t',z',he,hw,rfl,hz,ht',rfl,ag⟩
  ·rw[Ze0,Zci,eP]at hw
   exact nomatch hw.one st.2.2.1
  ·have hw':=hw
   rw[Ze0,Zci,eP]at hw'
   have st':Zfc (Z6 X.L) (e.1,e.2.2) z' k' q':=by
    refine⟨by rw[← eP];exact Qd (f:=fun e:Zx=>(e.1,e.2.2)) he,hz,hw',?_⟩
    rw[Ze0,Zfl,Zci,eP]at ag
    exact ag
   obtain⟨e1,e2,e3,e4⟩:=st.one nd st'
   subst e1
   subst e2
   subst e3
   subst e4
   have ag':Agr (ZaQ Y.Lo e.1) L':=by
    show pur (ZaQ Y.Lo e.1)=Z6 L'
    rw[Zfl,eP,eL]
   refine⟨rfl,rfl,⟨⟨M1.keep keepM,W1,ok1⟩,ow2,ag',fun b hb ho=>p.sep b ((fpe b).mp hb) (ZfC ho)⟩,?_,fpe,fun b hb=>ZfC hb,.inr ⟨_,z,st,eL⟩⟩
   exact Zgg (kt _ _ ht) ht' (by show 3≤1000;decide) (.cons (Za6 _) (.cons (Za6 _) (.cons (ZbZ (.inr (.inr (.inr ⟨_,rfl⟩)))) .nil)))
theorem ZhH{P:List ZY}(nd:(ZaY P).Nodup)(h:Win (hdP P) (ZaY P) none)(ok:∀x∈P,x.2.2≤x.2.1.length):ZaU P=0:=by
 unfold ZaU
 have:∀l:List Nat,(∀a∈l,a=0)→l.sum=0:=fun l hl=>by
  induction l with
  | nil=>rfl
  | cons b r ih=>rw[Q5,hl b (by simp),ih fun a ha=>hl a (Qu _ ha)]
 refine this _ fun a ha=>?_
 obtain⟨x,hx,rfl⟩:=Qo.mp ha
 have hh:=h x.1 (Qd (f:=fun x:ZY=>x.1) hx)
 rw[Zqc nd hx]at hh
 cases hg:x.2.1[x.2.2]? with
 | none=>rw[Q9]at hg;show x.2.1.length-x.2.2=0;omega
 | some y=>rw[hg]at hh;cases hh
theorem Zev{cR cM:Addr}{H:Hp}{X:MS}(h:MOk cR cM H X):(ZaY (Z6 X.L)).Nodup:=by rw[← Zcw];exact h.M.nd
def Zkv(rs:List (Addr×List Str)):List ZY:=(ZdQ 0 rs.length).zip (rs.map fun x=>(x.2,0))
theorem ZkW{α β γ:Type}(f:α→β)(g:α→γ):∀l:List α,l.map (fun x=>(f x,g x))=(l.map f).zip (l.map g)
 | []=>rfl
 | x::r=>by rw[Qh,Qh,Qh,List.zip_cons_cons,ZkW f g r]
theorem ZmF{L:List Zw}{rs:List (Addr×List Str)}(h:Zof L rs):Z6 L=Zkv rs:=by
 unfold Z6 Zkv
 rw[ZkW (fun e:Zw=>e.n) (fun e=>(e.ss,e.g)) L,← h.1,← h.2];rfl
theorem Znm(rs:List (Addr×List Str)):ZaU (Zkv rs)=(rs.map fun x=>x.2.length).sum:=by
 unfold ZaU Zkv
 have e:((ZdQ 0 rs.length).zip (rs.map fun x=>(x.2,0))).map (fun x:ZY=>x.2.1.length-x.2.2)=((((ZdQ 0 rs.length).zip (rs.map fun x=>(x.2,0))).map (·.2))).map (fun y:List Str×Nat=>y.1.length-y.2):=by rw[Qj];rfl
 rw[e,List.map_snd_zip (by rw[Qa,Zdf];exact Qg _),Qj]
 rfl
def Zjy(K:PySem.W.Frag)(cR cM:Addr):Sp:=fun vs H Q _=>∃ (m rd sd:Addr) (L:List Zw) (s:StL) (nb li lo:Int) (best:V) (r:Addr) (ss:List Str),vs=[.ref m,.ref r]∧ZP cR cM H m rd sd L s nb li lo best∧(∀e∈L,e.n<nb)∧L.length<16∧H r=some (.lst (ss.map V.str))∧ss.length≤200∧(∀x∈ss,x.length≤1000∧AZ x)∧sortedS ss=true ∧
 ∀ (e:Zw) (sd':Addr) (s':StL) (w:Option Int) (k q:Int) (H':Hp),e.n=nb→e.ss=ss→e.g=0→H e.p=none→H e.k=none→H e.f=none→H sd'=none→Win (hdM (L++[e])) (ZA (L++[e])) w→ZeD (hdM (L++[e])) s' 8 (ZA (L++[e]))→ZbA (hdM (L++[e])) 8 (ZA (L++[e])) k q→ZP cR cM H' m rd sd' (L++[e]) s' (nb+1) (li+k) (lo+q) (Zcg w)→(∀b o,H b=some o→b≠m→b≠rd→H' b=some o)→Q (.int nb) H'
theorem Zkm(T:Zai K mg cRow cMerge)(f_refuse_break:Df P w K mg base 5 "refuse_break" ["number", "keys"] (Zej K))(f_Row_init:Cf P w K mg base 4 cRow "Row" ["self", "keys"] (Zfz cRow))(f_Merge_play_all:Mf P w K mg base 13 cMerge "play_all" ["self"] (Zdn cRow cMerge)):Mf P w K mg base 14 cMerge "add_row" ["self", "row"] (Zjy K cRow cMerge):=by
 refine T.t_Merge_add_row.mf Zdk (fun vs H Q E h=>?_) (fun cdv f A outer s H vs Q E hr h=>?_)
 ·obtain⟨m,rd,sd,L,s,nb,li,lo,best,r,ss,rfl,_⟩:=h
  rfl
 obtain⟨m,rd,sd,L,s,nb,li,lo',best,r,ss,rfl,M,hlt,h16,hr0,l100,laz,hsrt,q⟩:=h
 refine⟨_,#[Zf,#[Zy,2,Zdk.nd,(Or.inl rfl),#[ZO,‹0›]],#[Zf,#[Z8,#[Zv,f_refuse_break,hr,#[Za,‹2›,#[Za,‹1›,#[Ze]]],(by rfl)]],#[Zf,#[Z3,#[Zo,ZpY,#[Zk,ZrA,(by rfl),T.b.n_len,Qs,#[Za,#[ZO,‹0›],#[Ze]]],(@Zoz _ _ _ _ T.g_MOST_ROWS (by rfl) (by decide)),(Zs _)],#[Zj,(@ZiE _ _)],#[ZF]],#[Zf,#[Z4,#[Zn2,f_Row_init,hr,#[Za,‹1›,#[Ze]]],#[ZaS,#[ZO,‹0›],‹2›,(ZdP hr)]],#[Zf,#[Zc1,‹0›,#[Zi],Zgz],#[Zf,#[Z8,#[Zav,f_Merge_play_all,T.cl_Merge,hr,‹0›]],#[Zj,#[Zr,‹2›]]]]]]]],?_⟩
 obtain⟨dx,hm⟩:=M.ob
 refine⟨_,rfl,xw5 m cMerge dx _ _ ⟨rfl,hm,T.cl_Merge,T.na_Merge_next_number,ZgC ..,?_⟩⟩
 refine⟨_,rfl,_,rfl,nb,r,ss,rfl,SqL.of hr0,by omega,fun x hx=>(laz x hx).1,Ziz hsrt,fun H1 s1=>?_⟩
 have M1:=M.same s1
 have hm1:=s1 _ _ hm
 have hkl:(((kvM L).length:Nat):Int)=(L.length:Int):=by unfold kvM;rw[Qa]
 refine⟨_,rfl,xw5 m cMerge dx _ _ ⟨rfl,hm1,T.cl_Merge,T.na_Merge_rows,ZaB ..,rd,_,rfl,M1.rows,_,_,rfl,rfl,_,rfl,Zbc (fun d=>?_) (fun d=>?_)⟩⟩
 ·have:(16:Int)≤(((kvM L).length:Nat):Int):=of_decide_eq_true d
  exact absurd this (by omega)
 refine⟨_,rfl,fun u dy hu hdy ndu=>?_⟩
 have huH:H u=none:=s1.free hu
 have s8:∀b o,H b=some o→(upd (upd H1 dy (.own u)) u (.ins cRow dy [])) b=some o:=fun b o hb=>by
  have:=s1 _ _ hb
  rw[Zc (Zd this hu),Zc (Zd this hdy)];exact this
 have hu8:(upd (upd H1 dy (.own u)) u (.ins cRow dy [])) u=some (.ins cRow dy []):=Zb
 generalize upd (upd H1 dy (.own u)) u (.ins cRow dy [])=H8 at s8 hu8 ⊢
 refine⟨u,dy,r,ss,rfl,hu8,s8 _ _ hr0,l100,fun x hx=>(laz x hx).1,fun k f H9 hk hf nkf R k9=>⟨rfl,?_⟩⟩
 have s9:ZH H H9:=fun b o hb=>k9 b o (s8 b o hb) (Zd hb huH)
 have free:∀b,H8 b=none→H b=none:=fun b hb=>by
  cases e:H b with
  | none=>rfl
  | some o=>rw[s8 b o e]at hb;cases hb
 have hkH:=free k hk
 have hfH:=free f hf
 have M9:=M.same s9
 have hm9:=s9 _ _ hm
 have nrd:rd≠u∧rd≠k∧rd≠f:=⟨Zd M.rows huH,Zd M.rows hkH,Zd M.rows hfH⟩
 have hsz:(kvM L).length<sizeLine:=by unfold kvM;rw[Qa];exact ZB (by omega)
 have hn1:Z1 (kvM L) (.inl nb)=none:=by
  cases hv:Z1 (kvM L) (.inl nb) with
  | none=>rfl
  | some v=>obtain⟨e,he,z⟩:=Qo.mp (ZcA hv);injection z with z _;have:=hlt e he;have:=Sum.inl.inj z;omega
 refine⟨_,rfl,xw5 m cMerge dx _ _ ⟨rfl,hm9,T.cl_Merge,T.na_Merge_rows,ZaB ..,_,rfl,rd,_,rfl,Zb6.k (k:=.inl nb) M9.rows hsz,?_⟩⟩
 rw[Zb4 _ hn1,show kvM L++[((.inl nb:Key),V.ref u)]=kvM (L++[⟨nb,u,k,f,ss,0⟩]) by unfold kvM;rw[Qe];rfl]
 obtain⟨n1,n2,n3⟩:=M9.ne_m
 have M10:ZP cRow cMerge (upd H9 rd (.dK (kvM (L++[⟨nb,u,k,f,ss,0⟩])))) m rd sd (L++[⟨nb,u,k,f,ss,0⟩]) s nb li lo' best:=by
  refine⟨⟨dx,by rw[Zc n1];exact hm9⟩,Zb,?_,?_,fun e he=>?_,?_,?_,by rw[Qf,Qt];omega,M.sfew⟩
  ·rw[Zc (fun z=>by have:=M9.stays;rw[z,M9.rows]at this;cases this)];exact M9.stays
  ·intro e he t ht
   have hb:=M9.ats e he t ht
   rw[Zc (fun z=>by rw[z,M9.rows]at hb;cases hb)];exact hb
  ·rcases Qk.mp he with he|he
   ·have re:=M9.each e he
    obtain⟨de,hde⟩:=re.at'.ob
    refine re.mono fun b o hb hor=>?_
    have nb':b≠rd:=fun z=>by
     rw[z,M9.rows]at hb
     injection hb with hb
     subst hb
     rcases hor with z2|z2|z2
     ·rw[← z2,z,M9.rows]at hde;cases hde
     ·have:=re.at'.ks;rw[← z2,z,M9.rows]at this;cases this
     ·have:=re.at'.fs;rw[← z2,z,M9.rows]at this;cases this
    rw[Zc nb'];exact hb
   ·rw[Qp.mp he]
    refine ZdI.keep (H:=H9) ⟨R,Qv _,l100,hsrt,laz⟩ (Zc nrd.1.symm) (Zc nrd.2.1.symm) (Zc nrd.2.2.symm)
  ·unfold ZA
   rw[Qe]
   refine QaB.mpr ⟨M.up,List.pairwise_singleton ..,fun x hx y hy=>?_⟩
   obtain⟨e,he,rfl⟩:=Qo.mp hx
   have:y=nb:=by simpa using hy
   rw[this];exact hlt e he
  ·rw[Qe]
   refine QaT.mpr ⟨M.pd,by simp,fun a ha b hb=>?_⟩
   obtain⟨e,he,rfl⟩:=Qo.mp ha
   have:b=u:=by simpa using hb
   rw[this]
   obtain⟨de,hde⟩:=(M.each e he).at'.ob
   exact Zd hde huH
 have k10:∀b o,H b=some o→b≠rd→(upd H9 rd (.dK (kvM (L++[⟨nb,u,k,f,ss,0⟩])))) b=some o:=fun b o hb n=>by rw[Zc n];exact s9 b o hb
 generalize upd H9 rd (.dK (kvM (L++[⟨nb,u,k,f,ss,0⟩])))=H10 at M10 k10 ⊢
 have hm10:=k10 _ _ hm n1
 refine⟨_,rfl,xw5 m cMerge dx _ _ ⟨rfl,hm10,T.cl_Merge,T.na_Merge_next_number,ZgC ..,_,_,rfl,rfl,dx,_,hm10,Zch ..,?_⟩⟩
 rw[Zhc]
 have M11:=M10.obj (nb':=nb+1) (li':=li) (lo':=lo') (best':=best) (dx:=dx)
 have k11:∀b o,H b=some o→b≠m→b≠rd→(upd H10 m (.ins cMerge dx (mgF rd (nb+1) li lo' sd best))) b=some o:=fun b o hb n n'=>by rw[Zc n];exact k10 b o hb n'
 generalize upd H10 m (.ins cMerge dx (mgF rd (nb+1) li lo' sd best))=H11 at M11 k11 ⊢
 obtain⟨dx11,hm11⟩:=M11.ob
 have free11:∀b,H11 b=none→H b=none:=fun b hb=>by
  cases e:H b with
  | none=>rfl
  | some o =>
   by_cases z:b=m
   ·rw[z,hm11]at hb;cases hb
   ·by_cases z':b=rd
    ·rw[z',M11.rows]at hb;cases hb
    ·rw[k11 b o e z z']at hb;cases hb
 refine⟨_,rfl,m,dx11,_,rfl,hm11,ZbE ..,xw9 m rd sd _ s _ _ _ _ ⟨rfl,M11,fun sd' s' w0 k0 q0 H12 hsd' W12 S12 P12 M12 k12=>⟨_,rfl,?_⟩⟩⟩
 exact q ⟨nb,u,k,f,ss,0⟩ sd' s' w0 k0 q0 H12 rfl rfl rfl huH hkH hfH (free11 sd' hsd') W12 S12 P12 M12 (fun b o hb n n'=>k12 b o (k11 b o hb n n') n)
theorem ZbI.one{P:List ZY}(nd:(ZaY P).Nodup){ts:List Zc7}{P1:List ZY}{k q:Int}(h:ZbI P ts P1 k q):∀ {us:List Zc7} {P2:List ZY} {k' q':Int},ZbI P us P2 k' q'→ts.length=us.length→ts=us∧P1=P2∧k=k'∧q=q':=by
 induction h with
 | nil =>
  intro us P2 k' q' g hl
  cases g with
  | nil=>exact⟨rfl,rfl,rfl,rfl⟩
  | snoc _ _=>rw[Qf,Qt]at hl;exact absurd hl (by simp)
 | snoc h s ih =>
  intro us P2 k' q' g hl
  cases g with
  | nil=>rw[Qf,Qt]at hl;exact absurd hl (by simp)
  | snoc g' s' =>
   rw[Qf,Qf,Qt,Qt]at hl
   obtain⟨e1,e2,e3,e4⟩:=ih g' (by omega)
   subst e1
   subst e2
   subst e3
   subst e4
   obtain⟨f1,f2,f3,f4⟩:=s.one (by rw[h.num];exact nd) s'
   subst f1
   subst f2
   subst f3
   subst f4
   exact⟨rfl,rfl,rfl,rfl⟩
theorem ZnS{L':List Zw}{P:List ZY}{ts:List Zc7}{k q:Int}{w':Option Int}{many:Nat}(nd:(ZaY P).Nodup)(h:ZbI P ts (Z6 L') k q)(h1:(ts.length:Int)<(many:Int)→w'=none)(h2:ts≠[]→(ts.length:Int)≤(many:Int))(W:Win (hdM L') (ZA L') w')(ok:∀x∈Z6 L',x.2.2≤x.2.1.length):ts.length=min many (ZaU P):=by
 have hl:=h.left nd
 by_cases hlt:(ts.length:Int)<(many:Int)
 ·have e:=h1 hlt
  subst e
  rw[Zgh,Zcw]at W
  have hz:=ZhH (by rw[h.num];exact nd) W ok
  omega
 ·by_cases hn:ts=[]
  ·subst hn
   simp only[List.length_nil]at hlt ⊢
   omega
  ·have:=h2 hn
   omega
theorem ownA_bump'{o ra ga:Addr}{Lo:List Zx}{nb:Int}{n:Int}{b:Addr}(h:ZU ⟨o,ra,ga,Lo,nb⟩ b):ZU ⟨o,ra,ga,ZaQ Lo n,nb⟩ b:=by
 rcases h with h|h|h|⟨e,he,h⟩
 ·exact .inl h
 ·exact .inr (.inl h)
 ·exact .inr (.inr (.inl h))
 ·exact .inr (.inr (.inr ⟨Zeb n e,Qd (f:=Zeb n) he,by rw[(ZeB n e).2.1];exact h⟩))
theorem Zfr.own{Lo Lo':List Zx}{x:V}{k q:Int}{H:Hp}(h:Zfr Lo x Lo' k q H){o ra ga:Addr}{nb:Int}{b:Addr}:ZU ⟨o,ra,ga,Lo',nb⟩ b↔ZU ⟨o,ra,ga,Lo,nb⟩ b:=by
 rcases h with⟨_,_,rfl,_⟩|⟨e,t,z,_,_,_,_,_,rfl,_⟩
 ·exact Iff.rfl
 ·exact⟨ZfC,ownA_bump'⟩
theorem ZkD{Lo Lo':List Zx}{x:V}{k q:Int}{H:Hp}(h:Zfr Lo x Lo' k q H):(Win (hdP (pur Lo)) (ZaY (pur Lo)) none∧x=.non∧Lo'=Lo∧k=0∧q=0)∨∃ (y:ZY) (z:Str) (t:Addr),Zfc (pur Lo) y z k q∧pur Lo'=Zbt (pur Lo) y.1∧x=.ref t∧H t=some (.tup [.int y.1,.int (y.2.2:Int),.str z]):=by
 rcases h with⟨h1,h2,h3,h4,h5⟩|⟨e,t,z,he,hw,h1,hz,ht,rfl,ag⟩
 ·rw[Ze0,Zci]at h2
  exact .inl ⟨h2,h1,h3,h4,h5⟩
 ·rw[Ze0,Zci]at hw
  refine .inr ⟨(e.1,e.2.2),z,t,⟨Qd (f:=fun e:Zx=>(e.1,e.2.2)) he,hz,hw,?_⟩,Zfl Lo e.1,h1,ht⟩
  rw[Ze0,Zfl,Zci]at ag
  exact ag
theorem Zqd{H:Hp}{o ra ga:Addr}{L:List Zx}{nb li lo:Int}(h:Own H o ra ga L nb li lo):∀x∈pur L,x.2.2≤x.2.1.length:=fun x hx=>by
 obtain⟨e,he,rfl⟩:=Qo.mp hx
 exact(h.lst e he).2.2.1
theorem Zok{H:Hp}{o ra ga:Addr}{L:List Zx}{nb li lo:Int}(h:Own H o ra ga L nb li lo):(Zat L).sum=((ZaU (pur L):Nat):Int):=by
 have:∀l:List Zx,(∀e∈l,e.2.2.2≤e.2.2.1.length)→(Zat l).sum=((ZaU (pur l):Nat):Int):=fun l hl=>by
  induction l with
  | nil=>rfl
  | cons e r ih =>
   have h1:=ih fun x hx=>hl x (Qu _ hx)
   have h2:=hl e (by simp)
   unfold Zat ZaU pur at h1 ⊢
   rw[Qh,Qh,Qh,Q5,Q5,h1,Int.natCast_add]
   show (e.2.2.1.length:Int)-(e.2.2.2:Int)+_=((e.2.2.1.length-e.2.2.2:Nat):Int)+_
   omega
 exact this L fun e he=>(h.lst e he).2.2.1
theorem ZhD{H:Hp}{n:Nat}:∀ (us vs:List (Addr×Zc7)),us.map (·.2)=vs.map (·.2)→(∀u∈us,H u.1=some (.tup [.int u.2.1,.int (u.2.2.1:Int),.str u.2.2.2]))→(∀u∈vs,H u.1=some (.tup [.int u.2.1,.int (u.2.2.1:Int),.str u.2.2.2]))→F2 (IsD H (n+2)) (us.map fun u=>V.ref u.1) (vs.map fun u=>V.ref u.1)
 | [],[],_,_,_=>.nil
 | [],_::_,e,_,_=>by cases e
 | _::_,[],e,_,_=>by cases e
 | u::us,v::vs,e,h,g=>by
  rw[Qh,Qh]at e
  obtain⟨e1,e2⟩:=List.cons.inj e
  have hu:=h u (by simp)
  have hv:=g v (by simp)
  rw[← e1]at hv
  exact .cons (Zgg hu hv (by show 3≤1000;decide) (.cons (Za6 _) (.cons (Za6 _) (.cons (ZbZ (.inr (.inr (.inr ⟨_,rfl⟩)))) .nil)))) (ZhD us vs e2 (fun x hx=>h x (Qu _ hx)) (fun x hx=>g x (Qu _ hx)))
theorem Zpg(L:List Zx)(e:Zx):kvR (L++[e])=kvR L++[((.inl e.1:Key),V.ref e.2.1)]:=by unfold kvR;rw[Qe];rfl
theorem ZoL(L:List Zx)(e:Zx):kvG (L++[e])=kvG L++[((.inl e.1:Key),V.int (e.2.2.2:Int))]:=by unfold kvG;rw[Qe];rfl
theorem ZnC{L:List Zx}{n:Int}(h:∀e∈L,e.1<n):Z1 (kvR L) (.inl n)=none:=by
 cases hv:Z1 (kvR L) (.inl n) with
 | none=>rfl
 | some v=>obtain⟨e,he,z⟩:=Qo.mp (ZcA hv);injection z with z _;have:=h e he;have:=Sum.inl.inj z;omega
theorem Zn1{L:List Zx}{n:Int}(h:∀e∈L,e.1<n):Z1 (kvG L) (.inl n)=none:=by
 cases hv:Z1 (kvG L) (.inl n) with
 | none=>rfl
 | some v=>obtain⟨e,he,z⟩:=Qo.mp (ZcA hv);injection z with z _;have:=h e he;have:=Sum.inl.inj z;omega
theorem Zjc(ra ga:Addr)(nb li lo v:Int):Zbn (Zaw ra ga nb li lo) (.inr "number") (.int v)=Zaw ra ga v li lo:=by
 unfold Zbn
 rw[if_pos]
 ·unfold Zaw
  simp only[List.map_cons,List.map_nil]
  rw[if_neg (fun z=>Zru (Sum.inr.inj z)),if_neg (fun z=>absurd (Sum.inr.inj z) (by ac_rfl)),if_pos True.intro,if_neg (fun z=>absurd (Sum.inr.inj z) (by ac_rfl)),if_neg (fun z=>absurd (Sum.inr.inj z) (by ac_rfl))]
 ·exact Qar.mpr ⟨(.inr "number",.int nb),by unfold Zaw;simp,decide_eq_true rfl⟩
theorem Own.add{H:Hp}{o ra ga:Addr}{L:List Zx}{nb li lo:Int}(h:Own H o ra ga L nb li lo)(nga:ga≠ra)(hlt:∀e∈L,e.1<nb)(hf:L.length<60){r:Addr}{ss:List Str}(hr:H r=some (.lst (ss.map V.str)))(hl:ss.length≤200)(hs:∀s∈ss,s.length≤1000∧AZ s) :
  Own (upd (upd (upd H ra (.dK (kvR (L++[(nb,r,ss,0)])))) ga (.dK (kvG (L++[(nb,r,ss,0)])))) o (.dK (Zaw ra ga (nb+1) li lo))) o ra ga (L++[(nb,r,ss,0)]) (nb+1) li lo:=by
 obtain⟨n1,n2⟩:=h.ne
 have ls:∀e∈L++[(nb,r,ss,0)],H e.2.1=some (.lst (e.2.2.1.map V.str))∧e.2.2.1.length≤200∧e.2.2.2≤e.2.2.1.length∧∀s∈e.2.2.1,s.length≤1000∧AZ s:=fun e he=>by
  rcases Qk.mp he with he|he
  ·exact h.lst e he
  ·rw[Qp.mp he]
   exact⟨hr,hl,Qv _,hs⟩
 refine⟨Zb,?_,?_,?_,by rw[Qf,Qt];omega,fun e he=>?_⟩
 ·rw[Zc n1,Zc nga.symm];exact Zb
 ·rw[Zc n2];exact Zb
 ·rw[Qe]
  refine QaT.mpr ⟨h.nd,by simp,fun a ha b hb=>?_⟩
  obtain⟨e,he,rfl⟩:=Qo.mp ha
  have:b=nb:=by simpa using hb
  have:=hlt e he
  omega
 ·obtain⟨a1,a2⟩:=ls e he
  refine⟨?_,a2⟩
  rw[Zc (fun z=>by rw[z,h.at']at a1;cases a1),Zc (fun z=>by rw[z,h.gone]at a1;cases a1),Zc (fun z=>by rw[z,h.rows]at a1;cases a1)]
  exact a1
theorem Zd7.but{cR cM:Addr}{H H':Hp}{X:MS}{Y:OS}{p:Addr}{c:Int}(pr:Zd7 cR cM H X Y)(L:Zaz H p c)(n:¬ MFp X p)(n':¬ ZU Y p)(B:But p H H'):Zd7 cR cM H' X Y:=by
 have np:∀b u,H b=some u→(MFp X b∨ZU Y b∨∃xs,u=.tup xs)→b≠p:=fun b u hb hor e=>by
  subst e
  rcases hor with z|z|⟨xs,rfl⟩
  ·exact n z
  ·exact n' z
  ·obtain⟨_,_,hp',_⟩:=L
   rw[hp']at hb;cases hb
 exact⟨pr.mg.keep fun b u hb hor=>B b u hb (np b u hb (hor.imp id .inr)),pr.ow.keep fun b u hb ho'=>B b u hb (np b u hb (.inr (.inl ho'))),pr.ag,pr.sep⟩
theorem ZlP(rd:Addr)(nb li lo:Int)(sd:Addr)(best:V):(mgF rd nb li lo sd best).lookup ("add_row" : Str)=none:=Zba _ _ _ _ _ _ (by ac_rfl) (by ac_rfl) (by ac_rfl) (by ac_rfl) (by ac_rfl) (by ac_rfl)
theorem Zmp(rd:Addr)(nb li lo:Int)(sd:Addr)(best:V):(mgF rd nb li lo sd best).lookup ("take_few" : Str)=none:=Zba _ _ _ _ _ _ (by ac_rfl) (by ac_rfl) (by ac_rfl) (by ac_rfl) (by ac_rfl) (by ac_rfl)
theorem Zfk(rd:Addr)(nb li lo:Int)(sd:Addr)(best:V):(mgF rd nb li lo sd best).lookup ("row_of" : Str)=none:=Zba _ _ _ _ _ _ (by ac_rfl) (by ac_rfl) (by ac_rfl) (by ac_rfl) (by ac_rfl) (by ac_rfl)
theorem ZjO(k f:Addr)(g:Int):(Zbj k f g).lookup ("to_go" : Str)=none:=Zfb _ _ _ (by ac_rfl) (by ac_rfl) (by ac_rfl)
theorem Zga(k f:Addr)(g:Int):(Zbj k f g).lookup ("lengthen" : Str)=none:=Zfb _ _ _ (by ac_rfl) (by ac_rfl) (by ac_rfl)
def ZiD(cR cM:Addr):Sp:=fun vs H Q _=>∃ (m rd sd:Addr) (L:List Zw) (s:StL) (nb li lo:Int) (best:V) (e:Zw),vs=[.ref m,.int e.n]∧ZP cR cM H m rd sd L s nb li lo best∧e∈L∧Q (.ref e.p) H
theorem ZlL(T:Zai K mg cRow cMerge):Mf P w K mg base 1 cMerge "row_of" ["self", "n"] (ZiD cRow cMerge):=by
 refine T.t_Merge_row_of.mf Zf9 (fun vs H Q E h=>?_) (fun cdv f A outer s H vs Q E hr h=>?_)
 ·obtain⟨m,rd,sd,L,s,nb,li,lo,best,e,rfl,_⟩:=h
  rfl
 obtain⟨m,rd,sd,L,s,nb,li,lo,best,e,rfl,M,he,q⟩:=h
 refine⟨_,#[Zf,#[Z3,#[Zo,(ZqG hr),‹1›,#[ZO,‹0›],(by with_unfolding_all rfl)],#[Zj,(@ZiE _ _)],#[ZF]],#[Zj,#[Zr,#[Zm,(ixG hr),#[ZO,‹0›],‹1›]]]],?_⟩
 obtain⟨dx,hm⟩:=M.ob
 refine⟨_,rfl,_,rfl,xw5 m cMerge dx _ _ ⟨rfl,hm,T.cl_Merge,T.na_Merge_rows,ZaB ..,rd,_,rfl,ZL.k' (k:=.inl e.n) M.rows (Zd3 M.nd he),_,rfl,Zbr ?_⟩⟩
 exact⟨_,rfl,xw5 m cMerge dx _ _ ⟨rfl,hm,T.cl_Merge,T.na_Merge_rows,ZaB ..,_,rfl,rd,_,rfl,ZL.k' (k:=.inl e.n) M.rows (Zd3 M.nd he),q⟩⟩
def Zbl(L:List Zw)(n:Int):List Zw:=L.filter fun e=>decide (e.n≠n)
theorem Zol(L:List Zw)(n:Int):ZcH (kvM L) (.inl n)=kvM (Zbl L n):=by
 unfold ZcH kvM Zbl
 rw[Qav]
 congr 1
 refine List.filter_congr fun e _=>?_
 exact decide_eq_decide.mpr ⟨fun h z=>h (by show (Sum.inl e.n:Key)=_;rw[z]),fun h z=>h (Sum.inl.inj z)⟩
theorem ZP.drop{cR cM:Addr}{H:Hp}{m rd sd:Addr}{L:List Zw}{s:StL}{nb li lo:Int}{best:V}(M:ZP cR cM H m rd sd L s nb li lo best)(n:Int):ZP cR cM (upd H rd (.dK (kvM (Zbl L n)))) m rd sd (Zbl L n) s nb li lo best:=by
 obtain⟨n1,n2,n3⟩:=M.ne_m
 obtain⟨dx,hm⟩:=M.ob
 refine⟨⟨dx,by rw[Zc n1];exact hm⟩,Zb,by rw[Zc n3.symm];exact M.stays,fun e he t ht=>?_,fun e he=>?_,?_,?_,Qy (Qaj ..) M.few,M.sfew⟩
 ·have:=M.ats e he t ht
  rw[Zc (fun z=>by rw[z,M.rows]at this;cases this)];exact this
 ·have he':=(Qau.mp he).1
  obtain⟨_,_,_,a,b,c⟩:=M.ne_sd he'
  exact(M.each e he').keep (Zc a.symm) (Zc b.symm) (Zc c.symm)
 ·exact M.up.sublist (Qa2 _ Qao)
 ·exact M.pd.sublist (Qa2 _ Qao)
def ZhN(cR cM:Addr):Sp:=fun vs H Q _=>∃ (m rd sd:Addr) (L:List Zw) (s:StL) (nb li lo:Int) (best:V) (e:Zw),vs=[.ref m,.int e.n]∧ZP cR cM H m rd sd L s nb li lo best∧e∈L ∧
 ∀ (sd':Addr) (s':StL) (w:Option Int) (k q:Int) (H':Hp),H sd'=none→Win (hdM (Zbl L e.n)) (ZA (Zbl L e.n)) w→ZeD (hdM (Zbl L e.n)) s' 8 (ZA (Zbl L e.n))→ZbA (hdM (Zbl L e.n)) 8 (ZA (Zbl L e.n)) k q→ZP cR cM H' m rd sd' (Zbl L e.n) s' nb (li+k) (lo+q) (Zcg w)→(∀b o,H b=some o→b≠m→b≠rd→H' b=some o)→Q (.int ((e.ss.length:Int)-(e.g:Int))) H'
theorem ZjR(T:Zai K mg cRow cMerge)(f_Row_to_go:Mf P w K mg base 1 cRow "to_go" ["self"] (ZiS cRow))(f_Merge_row_of:Mf P w K mg base 1 cMerge "row_of" ["self", "n"] (ZiD cRow cMerge))(f_Merge_play_all:Mf P w K mg base 13 cMerge "play_all" ["self"] (Zdn cRow cMerge)):Mf P w K mg base 14 cMerge "drop_row" ["self", "n"] (ZhN cRow cMerge):=by
 refine T.t_Merge_drop_row.mf ZcK (fun vs H Q E h=>?_) (fun cdv f A outer s H vs Q E hr h=>?_)
 ·obtain⟨m,rd,sd,L,s,nb,li,lo,best,e,rfl,_⟩:=h
  rfl
 obtain⟨m,rd,sd,L,s,nb,li,lo',best,e,rfl,M,he,q⟩:=h
 refine⟨_,#[Zf,#[Zy,2,ZcK.nd,(Or.inl rfl),#[Zav,f_Row_to_go,T.cl_Row,hr,#[ZcG,f_Merge_row_of,T.cl_Merge,hr,‹0›,#[Za,‹1›,#[Ze]]]]],#[Zf,#[Z8,#[ZdJ,QX,Qaw,PySem.F.type_dict_pop,ZiF,#[ZO,‹0›],#[Za,‹1›,#[Ze]]]],#[Zf,#[Z8,#[Zav,f_Merge_play_all,T.cl_Merge,hr,‹0›]],#[Zj,#[Zr,‹2›]]]]],?_⟩
 obtain⟨dx,hm⟩:=M.ob
 have Re:=M.each e he
 obtain⟨de,hde⟩:=Re.at'.ob
 refine⟨_,rfl,m,dx,_,rfl,hm,Zfk ..,_,rfl,Zl7 m rd sd L s nb li lo' best e ⟨rfl,M,he,e.p,de,_,rfl,hde,ZjO ..,xw5 e.p e.k e.f e.ss e.g ⟨rfl,Re.at',?_⟩⟩⟩
 refine⟨_,rfl,xw5 m cMerge dx _ _ ⟨rfl,hm,T.cl_Merge,T.na_Merge_rows,ZaB ..,.inr (.inr (.inl ⟨rfl,.inl ⟨_,M.rows⟩⟩)),_,rfl,rd,_,.inl e.n,_,rfl,rfl,M.rows,Zd3 M.nd he,?_⟩⟩
 rw[Zol]
 have M10:=M.drop e.n
 have k10:∀b o,H b=some o→b≠rd→(upd H rd (.dK (kvM (Zbl L e.n)))) b=some o:=fun b o hb n=>by rw[Zc n];exact hb
 have free:∀b,(upd H rd (.dK (kvM (Zbl L e.n)))) b=none→H b=none:=fun b hb=>by
  by_cases z:b=rd
  ·rw[z,Zb]at hb;cases hb
  ·rw[Zc z]at hb;exact hb
 generalize upd H rd (.dK (kvM (Zbl L e.n)))=H10 at M10 k10 free ⊢
 obtain⟨dx10,hm10⟩:=M10.ob
 refine⟨_,rfl,m,dx10,_,rfl,hm10,ZbE ..,xw9 m rd sd _ s _ _ _ _ ⟨rfl,M10,fun sd' s' w0 k0 q0 H12 hsd' W12 S12 P12 M12 k12=>⟨_,rfl,?_⟩⟩⟩
 exact q sd' s' w0 k0 q0 H12 (free sd' hsd') W12 S12 P12 M12 (fun b o hb n n'=>k12 b o (k10 b o hb n') n)
theorem Zgi(k f:Addr)(g:Int):Zbj k f g=([("all_keys",.ref k),("fars",.ref f),("gone",.int g)]:List (Str×V)):=by
 unfold Zbj
 rw[Za0,Zu nFK,Za0,Zu nGK,Zu nGF,Za0]
theorem Zhw(k f:Addr)(g:Int)(k':Addr):Zt "all_keys" (.ref k') (Zbj k f g)=Zbj k' f g:=by rw[Zgi,Zgi,Zb7]
theorem Zhl(k f:Addr)(g:Int)(f':Addr):Zt "fars" (.ref f') (Zbj k f g)=Zbj k f' g:=by rw[Zgi,Zgi,Zu nFK,Zb7]
def Zgx(C:Addr):Sp:=fun vs H Q _=>∃ (p k f a:Addr) (ss ks:List Str) (g:Nat),vs=[.ref p,.ref a]∧ZgO C H p k f ss g∧H a=some (.lst (ks.map V.str))∧(ss++ks).length≤200∧(∀x∈ss++ks,x.length≤1000) ∧
 ∀ (k' f':Addr) (H':Hp),H k'=none→H f'=none→ZgO C H' p k' f' (ss++ks) g→(∀b o,H b=some o→b≠p→H' b=some o)→Q .non H'
theorem ZjM(T:Zai K mg cRow cMerge)(f_alikes:Df P w K mg base 3 "alikes" ["row"] (Zfi K)):Mf P w K mg base 4 cRow "lengthen" ["self", "keys"] (Zgx cRow):=by
 refine T.t_Row_lengthen.mf Zf5 (fun vs H Q E h=>?_) (fun cdv fa A outer s H vs Q E hr h=>?_)
 ·obtain⟨p,k,f,a,ss,ks,g,rfl,_⟩:=h
  rfl
 obtain⟨p,k,f,a,ss,ks,g,rfl,R,ha,hn,hz,q⟩:=h
 refine⟨_,#[Zf,#[ZbC,‹0›,#[ZE,ZcT,#[ZO,‹0›],‹1›]],#[Zj,#[ZbC,‹0›,#[Zv,f_alikes,hr,#[Za,#[ZO,‹0›],#[Ze]],(by rfl)]]]],?_⟩
 obtain⟨⟨dx,ho⟩,hk,hf⟩:=R
 refine⟨_,rfl,xw5 p cRow dx _ _ ⟨rfl,ho,T.cl_Row,T.na_Row_all_keys,Zcp _ _ _,_,rfl,k,a,_,_,rfl,rfl,hk,ha,(by rw[Qa,Qa];rw[Qf]at hn;exact Zbg (by omega)),fun c hc=>?_⟩⟩
 rw[← Qe]
 have npc:p≠c:=Zd ho hc
 refine⟨_,rfl,xw4 p cRow dx _ ⟨rfl,(by rw[Zc npc];exact ho),T.cl_Row,T.na_Row_all_keys,Zg3 ..,?_⟩⟩
 rw[Zhw]
 have hp2:(upd (upd H c (.lst ((ss++ks).map V.str))) p (.ins cRow dx (Zbj c f g))) p=some (.ins cRow dx (Zbj c f g)):=Zb
 have hc2:(upd (upd H c (.lst ((ss++ks).map V.str))) p (.ins cRow dx (Zbj c f g))) c=some (.lst ((ss++ks).map V.str)):=by rw[Zc npc.symm];exact Zb
 have s2:∀b o,H b=some o→b≠p→(upd (upd H c (.lst ((ss++ks).map V.str))) p (.ins cRow dx (Zbj c f g))) b=some o:=fun b o h n=>by rw[Zc n,Zc (Zd h hc)];exact h
 generalize upd (upd H c (.lst ((ss++ks).map V.str))) p (.ins cRow dx (Zbj c f g))=H2 at hp2 hc2 s2 ⊢
 refine⟨_,rfl,xw5 p cRow dx _ _ ⟨rfl,hp2,T.cl_Row,T.na_Row_all_keys,Zcp _ _ _,c,ss++ks,rfl,SqL.of hc2,hn,hz,fun f' H3 hf0 hf3 s3=>?_⟩⟩
 have hHf:H f'=none:=by
  cases w':H f' with
  | none=>rfl
  | some u =>
   by_cases e:f'=p
   ·rw[e,hp2]at hf0;cases hf0
   ·rw[s2 f' u w' e]at hf0;cases hf0
 have npf:p≠f':=Zd hp2 hf0
 refine⟨_,rfl,xw4 p cRow dx _ ⟨rfl,s3 _ _ hp2,T.cl_Row,T.na_Row_fars,Zg3 ..,?_⟩⟩
 rw[Zhl]
 refine q c f' _ hc hHf ⟨⟨dx,Zb⟩,?_,?_⟩ fun b o h n=>?_
 ·rw[Zc npc.symm];exact s3 _ _ hc2
 ·rw[Zc npf.symm];exact hf3
 ·rw[Zc n];exact s3 _ _ (s2 b o h n)
def Zcd(n:Int)(ks:List Str)(k f:Addr)(x:Zw):Zw:=if x.n=n then ⟨x.n,x.p,k,f,x.ss++ks,x.g⟩ else x
def Zbm(L:List Zw)(n:Int)(ks:List Str)(k f:Addr):List Zw:=L.map (Zcd n ks k f)
theorem ZiG(n:Int)(ks:List Str)(k f:Addr)(x:Zw):(Zcd n ks k f x).n=x.n∧(Zcd n ks k f x).p=x.p∧(Zcd n ks k f x).g=x.g:=by unfold Zcd;split<;>exact⟨rfl,rfl,rfl⟩
theorem Zdp(L:List Zw)(n:Int)(ks:List Str)(k f:Addr):ZA (Zbm L n ks k f)=ZA L:=by
 unfold ZA Zbm
 rw[Qj]
 exact Qx fun e _=>(ZiG n ks k f e).1
theorem ZnW(L:List Zw)(n:Int)(ks:List Str)(k f:Addr):kvM (Zbm L n ks k f)=kvM L:=by
 unfold kvM Zbm
 rw[Qj]
 refine Qx fun e _=>?_
 obtain⟨a,b,_⟩:=ZiG n ks k f e
 simp only[Function.comp,a,b]
theorem Zic:∀ (A B:List Zx),A.map (fun e=>(e.1,e.2.2.1[e.2.2.2]?))=B.map (fun e=>(e.1,e.2.2.1[e.2.2.2]?))→hdL A=hdL B
 | [],[],_=>rfl
 | [],_::_,h=>by cases h
 | _::_,[],h=>by cases h
 | a::A,b::B,h=>by
  rw[Qh,Qh]at h
  injection h with h1 h2
  injection h1 with h3 h4
  have ih:=Zic A B h2
  funext n
  have ihn:=congrFun ih n
  unfold hdL at ihn ⊢
  rw[Q8,Q8,h3]
  split
  ·simp only[Option.bind_some];rw[h4]
  ·exact ihn
theorem Zm7{L:List Zw}{n:Int}{ks:List Str}(h:∀x∈L,x.n=n→x.g<x.ss.length∨ks=[])(k f:Addr):hdM (Zbm L n ks k f)=hdM L:=by
 refine Zic _ _ ?_
 unfold Zbm
 rw[Qj,Qj,Qj]
 refine Qx fun x hx=>?_
 show ((Zcd n ks k f x).n,(Zcd n ks k f x).ss[(Zcd n ks k f x).g]?)=(x.n,x.ss[x.g]?)
 unfold Zcd
 split
 ·rename_i e
  rcases h x hx e with z|z
  ·exact congrArg (Prod.mk x.n) (QO z)
  ·rw[z,QaL]
 ·rfl
theorem Zgw:∀ {P:List Zw},(P.map (·.n)).Nodup→∀ {p q:Zw},p∈P→q∈P→p.n=q.n→p=q
 | [],_,_,_,h,_,_=>by cases h
 | x::r,nd,p,q,hp,hq,e=>by
  rw[Qh,QV]at nd
  rcases QI.mp hp with h1|h1
  ·rcases QI.mp hq with h2|h2
   ·rw[h1,h2]
   ·exact absurd (show x.n∈r.map (·.n) by rw[← h1,e];exact Qd (f:=fun x:Zw=>x.n) h2) nd.1
  ·rcases QI.mp hq with h2|h2
   ·exact absurd (show x.n∈r.map (·.n) by rw[← h2,← e];exact Qd (f:=fun x:Zw=>x.n) h1) nd.1
   ·exact Zgw nd.2 h1 h2 e
theorem ZP.grow{cR cM:Addr}{H H':Hp}{m rd sd:Addr}{L:List Zw}{s:StL}{nb li lo:Int}{best:V}(M:ZP cR cM H m rd sd L s nb li lo best){e:Zw}(he:e∈L){ks:List Str}{k' f':Addr}(R:ZgO cR H' e.p k' f' (e.ss++ks) e.g)(hl:(e.ss++ks).length≤200)(hs:sortedS (e.ss++ks)=true)(hz:∀x∈e.ss++ks,x.length≤1000∧AZ x)
  (k:∀b o,H b=some o→b≠e.p→H' b=some o):ZP cR cM H' m rd sd (Zbm L e.n ks k' f') s nb li lo best:=by
 obtain⟨dx,hm⟩:=M.ob
 obtain⟨de,hde⟩:=(M.each e he).at'.ob
 refine⟨⟨dx,k _ _ hm (M.ne_p he).1⟩,by rw[ZnW];exact k _ _ M.rows (M.ne_sd he).2.2.2.1,k _ _ M.stays (M.ne_sd he).1,fun x hx t ht=>?_,fun x hx=>?_,by rw[Zdp];exact M.up,?_,by unfold Zbm;rw[Qa];exact M.few,M.sfew⟩
 ·have h:=M.ats x hx t ht
  exact k _ _ h (fun z=>by rw[z,hde]at h;cases h)
 ·obtain⟨y,hy,rfl⟩:=Qo.mp hx
  by_cases hn:y.n=e.n
  ·have ey:y=e:=by
    have nd:=M.nd
    unfold ZA at nd
    exact Zgw nd hy he hn
   subst ey
   rw[show Zcd y.n ks k' f' y=⟨y.n,y.p,k',f',y.ss++ks,y.g⟩ by unfold Zcd;rw[if_pos rfl]]
   exact⟨R,by show y.g≤(y.ss++ks).length;rw[Qf];have:=(M.each y hy).le;omega,hl,hs,hz⟩
  ·rw[show Zcd e.n ks k' f' y=y by unfold Zcd;rw[if_neg hn]]
   have Ry:=M.each y hy
   have np:y.p≠e.p:=fun z=>hn (by
    have:=ZpQ M.pd hy he z
    rw[this])
   obtain⟨dy,hdy⟩:=Ry.at'.ob
   have nk:y.k≠e.p:=fun z=>by have:=Ry.at'.ks;rw[z,hde]at this;cases this
   have nf:y.f≠e.p:=fun z=>by have:=Ry.at'.fs;rw[z,hde]at this;cases this
   exact⟨⟨⟨dy,k _ _ hdy np⟩,k _ _ Ry.at'.ks nk,k _ _ Ry.at'.fs nf⟩,Ry.le,Ry.len,Ry.srt,Ry.str⟩
 ·have:(Zbm L e.n ks k' f').map (·.p)=L.map (·.p):=by
   unfold Zbm
   rw[Qj]
   exact Qx fun x _=>(ZiG _ _ _ _ x).2.1
  rw[this];exact M.pd
def Zn7(cR cM:Addr):Sp:=fun vs H Q _=>∃ (m rd sd:Addr) (L:List Zw) (s:StL) (nb li lo:Int) (w:Option Int) (e:Zw) (r:Addr) (ks:List Str),vs=[.ref m,.int e.n,.ref r]∧ZP cR cM H m rd sd L s nb li lo (Zcg w)∧Win (hdM L) (ZA L) w∧ZR (hdM L) s (ZA L)∧e∈L∧H r=some (.lst (ks.map V.str))∧r≠e.p∧(e.ss++ks).length≤200∧sortedS (e.ss++ks)=true∧(∀x∈e.ss++ks,x.length≤1000∧AZ x) ∧
 ∀ (k' f' sd':Addr) (s':StL) (w':Option Int) (k q:Int) (H':Hp),H k'=none→H f'=none→(((e.g<e.ss.length∨ks=[])∧sd'=sd∧k=0∧q=0)∨(e.g=e.ss.length∧ks≠[]∧H sd'=none∧ZbA (hdM (Zbm L e.n ks k' f')) 8 (ZA L) k q))→Win (hdM (Zbm L e.n ks k' f')) (ZA L) w'→ZR (hdM (Zbm L e.n ks k' f')) s' (ZA L)→ZP cR cM H' m rd sd' (Zbm L e.n ks k' f') s' nb (li+k) (lo+q) (Zcg w')→(∀b o,H b=some o→b≠m→b≠e.p→H' b=some o)→Q .non H'
theorem ZoE(T:Zai K mg cRow cMerge)(f_Merge_row_of:Mf P w K mg base 1 cMerge "row_of" ["self", "n"] (ZiD cRow cMerge))(f_refuse_break:Df P w K mg base 5 "refuse_break" ["number", "keys"] (Zej K))(f_Row_head:Mf P w K mg base 2 cRow "head" ["self"] (ZeO cRow))(f_Row_lengthen:Mf P w K mg base 4 cRow "lengthen" ["self", "keys"] (Zgx cRow))(f_Merge_play_all:Mf P w K mg base 13 cMerge "play_all" ["self"] (Zdn cRow cMerge)):Mf P w K mg base 14 cMerge "grow" ["self", "n", "keys"] (Zn7 cRow cMerge):=by
 refine T.t_Merge_grow.mf ZcV (fun vs H Q E h=>?_) (fun cdv fa A outer s H vs Q E hr h=>?_)
 ·obtain⟨m,rd,sd,L,s,nb,li,lo,w,e,r,ks,rfl,_⟩:=h
  rfl
 obtain⟨m,rd,sd,L,s,nb,li,lo',w0,e,r,ks,rfl,M,W,ok,he,hr0,nre,hl,hs,hz,q⟩:=h
 refine⟨_,#[Zf,#[Zy,3,ZcV.nd,(Or.inl rfl),#[ZcG,f_Merge_row_of,T.cl_Merge,hr,‹0›,#[Za,‹1›,#[Ze]]]],#[Zf,#[Z8,#[Zv,f_refuse_break,hr,#[Za,‹1›,#[Za,#[ZE,ZcT,#[ZO,‹3›],‹2›],#[Ze]]],(by rfl)]],#[Zf,#[Zy,4,ZcV.nd,(Or.inl rfl),#[Za5,Zbw,#[Zav,f_Row_head,T.cl_Row,hr,‹3›],#[ZW],(Zs _)]],#[Zf,#[Z8,#[ZcG,f_Row_lengthen,T.cl_Row,hr,‹3›,#[Za,‹2›,#[Ze]]]],#[Zj,#[Z3,(@PW.pt _ _ _ #[ZbQ,#[ZbP,‹4›],#[ZbH,#[Zo,ZfZ,#[Zk,(Zb1 K),(by rfl),T.b.n_len,Qs,#[Za,‹2›,#[Ze]]],#[Zi],(Zs _)]]]),#[Zj,#[Z8,#[Zav,f_Merge_play_all,T.cl_Merge,hr,‹0›]]],#[ZF]]]]]]],?_⟩
 obtain⟨dx,hm⟩:=M.ob
 have Re:=M.each e he
 obtain⟨de,hde⟩:=Re.at'.ob
 have hll:e.ss.length+ks.length≤200:=by rw[Qf]at hl;exact hl
 refine⟨_,rfl,m,dx,_,rfl,hm,Zfk ..,_,rfl,Zl7 m rd sd L s nb li lo' _ e ⟨rfl,M,he,?_⟩⟩
 refine⟨_,rfl,_,rfl,xw5 e.p cRow de _ _ ⟨rfl,hde,T.cl_Row,T.na_Row_all_keys,Zcp _ _ _,_,rfl,xw4 e.k r _ _ ⟨rfl,rfl,Re.at'.ks,hr0,(by rw[Qa,Qa];exact Zbg (by omega)),fun c hc=>?_⟩⟩⟩
 rw[← Qe]
 refine⟨e.n,c,e.ss++ks,rfl,SqL.of Zb,by omega,fun x hx=>(hz x hx).1,Ziz hs,fun H1 s1'=>?_⟩
 have s1:ZH H H1:=(Zh hc _).trans s1'
 have M1:=M.same s1
 have R1:=M1.each e he
 obtain⟨de1,hde1⟩:=R1.at'.ob
 refine⟨_,rfl,e.p,de1,_,rfl,hde1,Za9 ..,xw5 e.p e.k e.f e.ss e.g ⟨rfl,R1.at',rfl,?_⟩⟩
 refine⟨_,rfl,e.p,de1,_,rfl,hde1,Zga ..,_,rfl,xw7 e.p e.k e.f r e.ss ks e.g ⟨rfl,R1.at',s1 _ _ hr0,hl,fun x hx=>(hz x hx).1,fun k' f' H2 hk' hf' R2 k2=>?_⟩⟩
 have M2:=M1.grow he R2 hl hs hz k2
 have k02:∀b o,H b=some o→b≠e.p→H2 b=some o:=fun b o hb n=>k2 b o (s1 b o hb) n
 have hr2:=k02 _ _ hr0 nre
 have hcase:(e.g<e.ss.length∨ks=[])→Q .non H2:=fun hor=>by
  have eh:hdM (Zbm L e.n ks k' f')=hdM L:=Zm7 (fun x hx hn=>by rw[Zgw M.nd hx he hn];exact hor) k' f'
  refine q k' f' sd s w0 0 0 H2 (s1.free hk') (s1.free hf') (.inl ⟨hor,rfl,rfl,rfl⟩) (by rw[eh];exact W) (by rw[eh];exact ok) (by rw[QR,QR];exact M2) (fun b o hb n n'=>k02 b o hb n')
 refine⟨_,rfl,_,rfl,?_⟩
 by_cases hg:e.g<e.ss.length
 ·have hv:ZdM e.ss e.g=.str e.ss[e.g]:=ZdZ (Qb hg)
  rw[hv]
  exact Zbv (by intro z;cases z) (hcase (.inl hg))
 ·have hv:ZdM e.ss e.g=.non:=by unfold ZdM;rw[QN (by omega)]
  rw[hv]
  refine Zcq rfl ?_
  refine⟨_,rfl,r,_,rfl,.inl (SqL.of hr2),_,_,rfl,rfl,_,rfl,Zbc (fun d=>?_) (fun d=>?_)⟩
  ·have d':(0:Int)<((ks.map V.str).length:Int):=of_decide_eq_true d
   rw[Qa]at d'
   have hks:ks≠[]:=fun z=>by rw[z]at d';exact absurd d' (by decide)
   obtain⟨dx2,hm2⟩:=M2.ob
   refine⟨_,rfl,m,dx2,_,rfl,hm2,ZbE ..,xw9 m rd sd _ s _ _ _ _ ⟨rfl,M2,fun sd' s' w1 k1 q1 H3 hsd' W3 S3 P3 M3 k3=>?_⟩⟩
   rw[Zdp]at W3 S3 P3
   have ok3:=Zc0 8 (hdM (Zbm L e.n ks k' f')) s' (ZA L) M.up (Qy (show (ZA L).length≤60 by unfold ZA;rw[Qa];exact M.few) (by decide)) (by decide) S3
   have le:=Re.le
   have hsd0:H sd'=none:=by
    cases w':H sd' with
    | none=>rfl
    | some u =>
     by_cases z:sd'=e.p
     ·obtain⟨d2,hd2⟩:=R2.ob;rw[z,hd2]at hsd';cases hsd'
     ·rw[k02 _ _ w' z]at hsd';cases hsd'
   exact q k' f' sd' s' w1 k1 q1 H3 (s1.free hk') (s1.free hf') (.inr ⟨by omega,hks,hsd0,P3⟩) W3 ok3 M3 (fun b o hb n n'=>k3 b o (k02 b o hb n') n)
  ·have d':¬ (0:Int)<((ks.map V.str).length:Int):=fun z=>d (decide_eq_true z)
   rw[Qa]at d'
   exact hcase (.inr (List.length_eq_zero_iff.mp (by omega)))
def ZbY(L:List Zx)(n:Int):List Zx:=L.filter fun e=>decide (e.1≠n)
theorem Zn9(L:List Zx)(n:Int):ZcH (kvR L) (.inl n)=kvR (ZbY L n):=by
 unfold ZcH kvR ZbY
 rw[Qav]
 congr 1
 exact List.filter_congr fun e _=>decide_eq_decide.mpr ⟨fun h z=>h (by show (Sum.inl e.1:Key)=_;rw[z]),fun h z=>h (Sum.inl.inj z)⟩
theorem Znh(L:List Zx)(n:Int):ZcH (kvG L) (.inl n)=kvG (ZbY L n):=by
 unfold ZcH kvG ZbY
 rw[Qav]
 congr 1
 exact List.filter_congr fun e _=>decide_eq_decide.mpr ⟨fun h z=>h (by show (Sum.inl e.1:Key)=_;rw[z]),fun h z=>h (Sum.inl.inj z)⟩
theorem Own.drop{H:Hp}{o ra ga:Addr}{L:List Zx}{nb li lo:Int}(h:Own H o ra ga L nb li lo)(nga:ga≠ra)(n:Int):Own (upd (upd H ra (.dK (kvR (ZbY L n)))) ga (.dK (kvG (ZbY L n)))) o ra ga (ZbY L n) nb li lo:=by
 obtain⟨n1,n2⟩:=h.ne
 refine⟨by rw[Zc n2.symm,Zc n1.symm];exact h.at',by rw[Zc nga.symm];exact Zb,Zb,h.nd.sublist (Qa2 _ Qao),Qy (Qaj ..) h.few,fun e he=>?_⟩
 have he':=(Qau.mp he).1
 obtain⟨a,b⟩:=h.lst e he'
 obtain⟨_,x2,x3⟩:=h.ne_l he'
 exact⟨by rw[Zc x3,Zc x2];exact a,b⟩
def Zcv(n:Int)(ks:List Str)(r:Addr)(x:Zx):Zx:=if x.1=n then (x.1,r,x.2.2.1++ks,x.2.2.2) else x
def Zbx(L:List Zx)(n:Int)(ks:List Str)(r:Addr):List Zx:=L.map (Zcv n ks r)
theorem ZjJ(n:Int)(ks:List Str)(r:Addr)(x:Zx):(Zcv n ks r x).1=x.1∧(Zcv n ks r x).2.2.2=x.2.2.2:=by unfold Zcv;split<;>exact⟨rfl,rfl⟩
theorem ZhK(L:List Zx)(n:Int)(ks:List Str)(r:Addr):(Zbx L n ks r).map (·.1)=L.map (·.1):=by
 unfold Zbx
 rw[Qj]
 exact Qx fun e _=>(ZjJ n ks r e).1
theorem ZnH(L:List Zx)(n:Int)(ks:List Str)(r:Addr):kvG (Zbx L n ks r)=kvG L:=by
 unfold kvG Zbx
 rw[Qj]
 refine Qx fun e _=>?_
 obtain⟨a,b⟩:=ZjJ n ks r e
 simp only[Function.comp,a,b]
theorem Zng{L:List Zx}{e:Zx}(he:e∈L)(ks:List Str)(r:Addr):Zbn (kvR L) (.inl e.1) (.ref r)=kvR (Zbx L e.1 ks r):=by
 unfold Zbn
 rw[if_pos]
 ·unfold kvR Zbx
  rw[Qj,Qj]
  refine Qx fun x hx=>?_
  simp only[Function.comp]
  unfold Zcv
  by_cases h:x.1=e.1
  ·rw[if_pos (by rw[h]),if_pos h]
  ·rw[if_neg (fun z=>h (Sum.inl.inj z)),if_neg h]
 ·exact Qar.mpr ⟨_,Qd (f:=fun e:Zx=>((.inl e.1:Key),V.ref e.2.1)) he,decide_eq_true rfl⟩
theorem Own.grow{H:Hp}{o ra ga:Addr}{L:List Zx}{nb li lo:Int}(h:Own H o ra ga L nb li lo)(nga:ga≠ra){e:Zx}(he:e∈L){ks:List Str}{r:Addr}(hr:H r=some (.lst ((e.2.2.1++ks).map V.str)))(hl:(e.2.2.1++ks).length≤200)(hz:∀x∈e.2.2.1++ks,x.length≤1000∧AZ x):Own (upd H ra (.dK (kvR (Zbx L e.1 ks r)))) o ra ga (Zbx L e.1 ks r) nb li lo:=by
 obtain⟨n1,n2⟩:=h.ne
 refine⟨by rw[Zc n1.symm];exact h.at',Zb,by rw[Zc nga,ZnH];exact h.gone,by rw[ZhK];exact h.nd,by unfold Zbx;rw[Qa];exact h.few,fun x hx=>?_⟩
 obtain⟨y,hy,rfl⟩:=Qo.mp hx
 obtain⟨a1,a2,a3,a4⟩:=h.lst y hy
 by_cases hn:y.1=e.1
 ·have ey:y=e:=ZbD h.nd hy he hn
  subst ey
  rw[show Zcv y.1 ks r y=(y.1,r,y.2.2.1++ks,y.2.2.2) by unfold Zcv;rw[if_pos rfl]]
  refine⟨?_,hl,by show y.2.2.2≤(y.2.2.1++ks).length;rw[Qf];omega,hz⟩
  show (upd H ra _) r=_
  rw[Zc (fun z=>by rw[z,h.rows]at hr;cases hr)];exact hr
 ·rw[show Zcv e.1 ks r y=y by unfold Zcv;rw[if_neg hn]]
  exact⟨by rw[Zc (h.ne_l hy).2.1];exact a1,a2,a3,a4⟩
theorem ZmJ{Lo:List Zx}{L:List Zw}(h:Agr Lo L)(n:Int):Agr (ZbY Lo n) (Zbl L n):=by
 unfold Agr ZbY Zbl at *
 have:=congrArg (List.filter fun x:ZY=>decide (x.1≠n)) h
 rw[Qav,Qav]at this
 exact this
theorem Zn8{Lo:List Zx}{L:List Zw}(h:Agr Lo L)(n:Int)(ks:List Str)(r k f:Addr):Agr (Zbx Lo n ks r) (Zbm L n ks k f):=by
 unfold Agr Zbx Zbm at *
 have:=congrArg (List.map fun x:ZY=>if x.1=n then (x.1,x.2.1++ks,x.2.2) else x) h
 rw[Qj,Qj]at this
 rw[Qj,Qj]
 refine(Qx fun e _=>?_).trans (this.trans (Qx fun e _=>?_))
 ·simp only[Function.comp];unfold Zcv;split<;>rfl
 ·simp only[Function.comp];unfold Zcd;split<;>rfl
theorem ZkR{Lo:List Zx}{L:List Zw}(h:Agr Lo L){e:Zw}(he:e∈L):∃eo∈Lo,eo.1=e.n∧eo.2.2=(e.ss,e.g):=by
 have:(e.n,(e.ss,e.g))∈Lo.map (fun e=>(e.1,e.2.2)):=by rw[h];exact Qd (f:=fun e:Zw=>(e.n,(e.ss,e.g))) he
 obtain⟨eo,h1,h2⟩:=Qo.mp this
 injection h2 with h3 h4
 exact⟨eo,h1,h3,h4⟩
inductive Zje where
 | add|drop|grow
def Zje.word:Zje→Str
 | .add => "add"
 | .drop => "drop"
 | .grow => "grow"
def Zje.nb(nb:Int):Zje→Int
 | .add=>nb+1
 | _=>nb
def ZmQ(P:List ZY)(n:Int)(ks:List Str):Zje→List ZY
 | .add=>P++[(n,ks,0)]
 | .drop=>P.filter fun x=>decide (x.1≠n)
 | .grow=>P.map fun x=>if x.1=n then (x.1,x.2.1++ks,x.2.2) else x
def Zqe(P:List ZY)(nb n:Int)(ks:List Str):Zje→Prop
 | .add=>n=nb∧(∀x∈P,x.1<nb)∧P.length<16∧sortedS ks=true∧ks.length≤200
 | .drop=>∃x∈P,x.1=n
 | .grow=>∃x∈P,x.1=n∧sortedS (x.2.1++ks)=true∧(x.2.1++ks).length≤200
def Zq1(cR cM:Addr):Sp:=fun vs H Q _=>∃ (X:MS) (Y:OS) (t r:Addr) (d:Zje) (n:Int) (ks:List Str),vs=[.ref X.m,.ref Y.o,.ref t]∧Zd7 cR cM H X Y∧Y.ga≠Y.ra∧X.nb=Y.nb∧H t=some (.tup [.str d.word,.int n,.ref r])∧H r=some (.lst (ks.map V.str))∧¬ MFp X r∧¬ ZU Y r∧(∀x∈ks,x.length≤1000∧AZ x)∧ks.length≤200∧Zqe (Z6 X.L) X.nb n ks d ∧
 ∀ (X':MS) (Y':OS) (H':Hp),Zd7 cR cM H' X' Y'→X'.m=X.m→Y'.o=Y.o→Y'.ga≠Y'.ra→X'.nb=Y'.nb→X'.nb=d.nb X.nb→Z6 X'.L=ZmQ (Z6 X.L) n ks d→(∀b,MFp X' b→MFp X b∨H b=none)→(∀b,ZU Y' b→ZU Y b∨H b=none)→(∀b u,H b=some u→¬ MFp X b→¬ ZU Y b→H' b=some u)→Q (.bl true) H'
theorem Zfx{cR cM:Addr}{H H1 H2:Hp}{X:MS}{Y:OS}(pr:Zd7 cR cM H X Y){Lo':List Zx}{nb' nbm k q k' q':Int}{sd':Addr}{L':List Zw}{s':StL}{w':Option Int}(ow1:Own H1 Y.o Y.ra Y.ga Lo' nb' (X.li+k) (X.lo+q))(kO:∀b u,H b=some u→¬ ZU Y b→H1 b=some u)(hv:∀b u,H b=some u→H1 b≠none)(ownE:∀b,ZU ⟨Y.o,Y.ra,Y.ga,Lo',nb'⟩ b→ZU Y b∨H b=none)
  (M2:ZP cR cM H2 X.m X.rd sd' L' s' nbm (X.li+k') (X.lo+q') (Zcg w')) (W2:Win (hdM L') (ZA L') w') (ok2:ZR (hdM L') s' (ZA L')) (kM:∀b u,H1 b=some u→¬ MFp X b→H2 b=some u) (mfE:∀b,Fp X.m X.rd sd' L' b→MFp X b∨H1 b=none) (ag:Agr Lo' L') (ek:k=k') (eq:q=q') :
  Zd7 cR cM H2 ⟨X.m,X.rd,sd',L',s',nbm,X.li+k,X.lo+q,w'⟩ ⟨Y.o,Y.ra,Y.ga,Lo',nb'⟩∧(∀b,MFp ⟨X.m,X.rd,sd',L',s',nbm,X.li+k,X.lo+q,w'⟩ b→MFp X b∨H b=none)∧(∀b u,H b=some u→¬ MFp X b→¬ ZU Y b→H2 b=some u):=by
 subst ek
 subst eq
 have nM:∀b,ZU ⟨Y.o,Y.ra,Y.ga,Lo',nb'⟩ b→¬ MFp X b:=fun b hb hm=>by
  rcases ownE b hb with z|z
  ·exact pr.sep b hm z
  ·obtain⟨u,hu,_⟩:=pr.mg.M.fp_live hm
   rw[z]at hu;cases hu
 refine⟨⟨⟨M2,W2,ok2⟩,ow1.keep fun b u hb ho=>kM b u hb (nM b ho),ag,fun b hb ho=>?_⟩,fun b hb=>?_,fun b u hb n n'=>kM b u (kO b u hb n') n⟩
 ·rcases mfE b hb with z|z
  ·exact nM b ho z
  ·obtain⟨u,hu,_⟩:=ow1.live ho
   rw[z]at hu;cases hu
 ·rcases mfE b hb with z|z
  ·exact .inl z
  ·cases e:H b with
   | none=>exact .inr rfl
   | some u=>exact absurd z (hv b u e)
theorem Zd7.nO{cR cM:Addr}{H:Hp}{X:MS}{Y:OS}(pr:Zd7 cR cM H X Y){b:Addr}{u:HO}(hb:H b=some u)(hor:MFp X b∨∃xs,u=.tup xs):¬ ZU Y b:=fun z=>by
 rcases hor with hm'|⟨xs,rfl⟩
 ·exact pr.sep b hm' z
 ·obtain⟨u',hu',hn⟩:=pr.ow.live z
  rw[hb]at hu';cases hu';exact hn xs rfl
theorem Zmx(ks:List Str):PyData.eqv (.list (ks.map PyData.str)) (.list [])=decide (ks=[]):=by
 cases ks with
 | nil=>simp[PyData.eqv,PyData.eqvAll]
 | cons a r=>simp[PyData.eqv,PyData.eqvAll]
theorem Zki(rd:Addr)(nb li lo:Int)(sd:Addr)(best:V):(mgF rd nb li lo sd best).lookup ("drop_row" : Str)=none:=Zba _ _ _ _ _ _ (by ac_rfl) (by ac_rfl) (by ac_rfl) (by ac_rfl) (by ac_rfl) (by ac_rfl)
theorem ZkJ(rd:Addr)(nb li lo:Int)(sd:Addr)(best:V):(mgF rd nb li lo sd best).lookup ("grow" : Str)=none:=Zba _ _ _ _ _ _ (by ac_rfl) (by ac_rfl) (by ac_rfl) (by ac_rfl) (by ac_rfl) (by ac_rfl)
theorem ZnE(T:Zai K mg cRow cMerge)(f_l_same:Df P w K mg base 5 "_law_same" ["_law_found", "_law_due"] (Ziw 4))(f_l_play:Df P w K mg base 10 "_law_play" ["_law_own"] ZiO)(f_Merge_add_row:Mf P w K mg base 14 cMerge "add_row" ["self", "row"] (Zjy K cRow cMerge))(f_Merge_drop_row:Mf P w K mg base 14 cMerge "drop_row" ["self", "n"] (ZhN cRow cMerge))(f_Merge_grow:Mf P w K mg base 14 cMerge "grow" ["self", "n", "keys"] (Zn7 cRow cMerge)):Df P w K mg base 15 "_law_done" ["_law_merge", "_law_own", "_law_deed"] (Zq1 cRow cMerge):=by
 refine T.t_l_done.df ZbO (fun vs H Q E h=>?_) (fun cdv f A outer s H vs Q E hr h=>?_)
 ·obtain⟨X,Y,t,r,d,n,ks,rfl,_⟩:=h
  rfl
 obtain⟨X,Y,t,r,d,n,ks,rfl,pr,nga,hnb,ht,hr0,nMr,nOr,hks,hl100,hd,q⟩:=h
 refine⟨_,#[Zf,#[Z4,‹2›,#[gT,K,3,#[ZC,#[ZD,3,ZbO.nd,(Or.inl rfl)],#[ZC,#[ZD,4,ZbO.nd,(Or.inl rfl)],#[ZC,#[ZD,5,ZbO.nd,(Or.inl rfl)],(@ZaF _)]]]]],#[Zf,#[Zy,6,ZbO.nd,(Or.inl rfl),#[ZaT,(Zia K),T.b.n_list,boot_list,#[Za,‹5›,#[Ze]]]],#[Zf,#[Z3,#[Zo,Za7,‹3›,#[Zz],(Zs _)],#[Zf,#[Z4,#[ZaT,(Zia K),T.b.n_list,boot_list,#[Za,‹5›,#[Ze]]],#[ZaS,#[Zm,(ixG hr),‹1›,#[Zz]],‹4›,(ZdP hr)]],#[Zf,#[Z4,#[Zi],#[ZaS,#[Zm,(ixG hr),‹1›,#[Zz]],‹4›,(ZdP hr)]],#[Zf,#[Z4,#[ZE,Zah,‹4›,#[Zi]],#[ZaS,‹1›,#[Zz],(ZdP hr)]],#[Zf,#[Z8,#[Zv,f_l_play,hr,#[Za,‹1›,#[Ze]],(by rfl)]],#[Zj,#[Zr,#[ZdS,#[Zv,f_l_same,hr,#[Za,#[ZcG,f_Merge_add_row,T.cl_Merge,hr,‹0›,#[Za,‹5›,#[Ze]]],#[Za,‹4›,#[Ze]]],(by rfl)],#[ZeT,#[Za5,(@eqD _ K _ hr (by rfl)),‹5›,‹6›,(Zs _)]]]]]]]]],#[ZF]],#[Zf,#[Z3,#[Zo,Za7,‹3›,#[Zz],(Zs _)],#[Zf,#[Zy,7,ZbO.nd,(Or.inl rfl),#[ZE,ZeZ,#[Zk,(Zb1 K),(by rfl),T.b.n_len,Qs,#[Za,#[ZdJ,QX,Qaw,PySem.F.type_dict_pop,ZiF,#[Zm,(ixG hr),‹1›,#[Zz]],#[Za,‹4›,#[Ze]]],#[Ze]]],#[ZdJ,QX,Qaw,PySem.F.type_dict_pop,ZiF,#[Zm,(ixG hr),‹1›,#[Zz]],#[Za,‹4›,#[Ze]]]]],#[Zf,#[Z8,#[Zv,f_l_play,hr,#[Za,‹1›,#[Ze]],(by rfl)]],#[Zj,#[Zr,#[Zv,f_l_same,hr,#[Za,#[ZcG,f_Merge_drop_row,T.cl_Merge,hr,‹0›,#[Za,‹4›,#[Ze]]],#[Za,‹7›,#[Ze]]],(by rfl)]]]]],#[ZF]],#[Zf,#[Zy,8,ZbO.nd,(Or.inl rfl),#[Za5,Za7,#[Zk,(Zb1 K),(by rfl),T.b.n_len,Qs,#[Za,#[Zm,(ixG hr),#[Zm,(ixG hr),‹1›,#[Zz]],‹4›],#[Ze]]],#[Zm,(ixG hr),#[Zm,(ixG hr),‹1›,#[Zz]],‹4›],(Zs _)]],#[Zf,#[Z4,#[ZE,ZcT,#[Zm,(ixG hr),#[Zm,(ixG hr),‹1›,#[Zz]],‹4›],#[ZaT,(Zia K),T.b.n_list,boot_list,#[Za,‹5›,#[Ze]]]],#[ZaS,#[Zm,(ixG hr),‹1›,#[Zz]],‹4›,(ZdP hr)]],(@ZdG _ _ _ _ _ #[Z3,(@PW.pt _ _ _ #[ZbQ,#[ZbP,‹8›],#[ZbH,#[Zo,#[neD,K,hr],‹5›,#[Zab,#[Ze]],(Zs _)]]]),#[Zj,#[Z8,#[Zv,f_l_play,hr,#[Za,‹1›,#[Ze]],(by rfl)]]],#[ZF]] #[Zj,#[Zr,#[ZdS,#[Za5,Zbw,#[ZcG,f_Merge_grow,T.cl_Merge,hr,‹0›,#[Za,‹4›,#[Za,‹5›,#[Ze]]]],#[ZW],(Zs _)],#[ZeT,#[Za5,(@eqD _ K _ hr (by rfl)),‹5›,‹6›,(Zs _)]]]]])]]]]]],?_⟩
 refine⟨_,rfl,t,_,rfl,SqT.of ht,rfl,_,_,rfl,_,_,rfl,_,_,rfl,rfl,?_⟩
 refine⟨_,rfl,r,_,rfl,.inl (SqL.of hr0),fun kp hkp=>?_⟩
 have skp:=Zh hkp (.lst (ks.map V.str))
 have hkp1:(upd H kp (.lst (ks.map V.str))) kp=some (.lst (ks.map V.str)):=Zb
 have pr1:=pr.same skp
 have hr1:=skp _ _ hr0
 have nOk:¬ ZU Y kp:=fun z=>by
  obtain⟨u,hu,_⟩:=pr.ow.live z
  rw[hkp]at hu;cases hu
 have nMk:¬ MFp X kp:=pr.mg.M.fp_fresh hkp
 generalize upd H kp (.lst (ks.map V.str))=H1 at skp hkp1 pr1 hr1 ⊢
 have ow1:=pr1.ow
 obtain⟨n1,n2⟩:=ow1.ne
 have hLoL:Y.Lo.length=X.L.length:=by have:=congrArg List.length (Zbb pr.ag);unfold ZA at this;rw[Qa,Qa]at this;exact this
 have hfew:=pr.ow.few
 have hszR:(kvR Y.Lo).length<sizeLine:=by unfold kvR;rw[Qa];exact ZB (by omega)
 have hszG:(kvG Y.Lo).length<sizeLine:=by unfold kvG;rw[Qa];exact ZB (by omega)
 have azs:∀x∈ks,AZ x:=fun x hx=>(hks x hx).2
 have hrise:(Y.Lo.map (·.1)).Pairwise (·<·):=by rw[Zbb pr.ag];exact pr.mg.M.up
 have fin:∀ {X':MS} {Y':OS} {H9:Hp},(∀b u,H b=some u→¬ MFp X b→¬ ZU Y b→H9 b=some u)→Zd7 cRow cMerge H9 X' Y'→X'.m=X.m→Y'.o=Y.o→Y'.ga≠Y'.ra→X'.nb=Y'.nb→X'.nb=d.nb X.nb→Z6 X'.L=ZmQ (Z6 X.L) n ks d→(∀b,MFp X' b→MFp X b∨H1 b=none)→(∀b,ZU Y' b→ZU Y b∨H1 b=none)→Q (.bl true) H9:=fun k9 p9 a b c d' e f' g h=>q _ _ _ p9 a b c d' e f' (fun b hb=>(g b hb).imp id fun z=>skp.free z) (fun b hb=>(h b hb).imp id fun z=>skp.free z) k9
 cases d with
 | add =>
  obtain⟨rfl,hlt,h16,hsr,_⟩:=hd
  have hltL:∀e∈X.L,e.n<X.nb:=fun e he=>hlt _ (Qd (f:=fun e:Zw=>(e.n,(e.ss,e.g))) he)
  have h16':X.L.length<16:=by unfold Z6 at h16;rw[Qa]at h16;exact h16
  have hLoN:∀e∈Y.Lo,e.1<X.nb:=fun e he=>by
   have:e.1∈ZA X.L:=by rw[← Zbb pr.ag];exact Qd (f:=fun e:Zx=>e.1) he
   obtain⟨e',he',z⟩:=Qo.mp this
   rw[← z];exact hltL e' he'
  refine⟨_,rfl,rfl,_,rfl,Zcq rfl ?_⟩
  refine⟨_,rfl,r,_,rfl,.inl (SqL.of hr1),fun c hc=>?_⟩
  have sc:=Zh hc (.lst (ks.map V.str))
  have hc2:(upd H1 c (.lst (ks.map V.str))) c=some (.lst (ks.map V.str)):=Zb
  have pr2:=pr1.same sc
  have nOc:¬ ZU Y c:=fun z=>by
   obtain⟨u,hu,_⟩:=ow1.live z
   rw[hc]at hu;cases hu
  have free2:∀b,(upd H1 c (.lst (ks.map V.str))) b=none→H1 b=none:=fun b hb=>sc.free hb
  generalize upd H1 c (.lst (ks.map V.str))=H2 at sc hc2 pr2 free2 ⊢
  have ow2:=pr2.ow
  refine⟨_,rfl,Y.o,_,rfl,ZL.k' (k:=.inr "rows") ow2.at' (ZaI ..),_,rfl,Y.ra,_,rfl,Zb6.k (k:=.inl X.nb) ow2.rows hszR,?_⟩
  rw[Zb4 _ (ZnC hLoN),← Zpg Y.Lo (X.nb,c,ks,0)]
  refine⟨_,rfl,Y.o,_,rfl,ZL.k' (k:=.inr "gone") (by rw[Zc n1.symm];exact ow2.at') (ZbF ..),_,rfl,Y.ga,_,rfl,Zb6.k (k:=.inl X.nb) (by rw[Zc nga];exact ow2.gone) hszG,?_⟩
  rw[Zb4 _ (Zn1 hLoN),show kvG Y.Lo++[((.inl X.nb:Key),V.int 0)]=kvG (Y.Lo++[(X.nb,c,ks,0)]) from(ZoL Y.Lo (X.nb,c,ks,0)).symm]
  refine⟨_,rfl,_,_,rfl,rfl,_,rfl,Y.o,_,rfl,Zb6.k (k:=.inr "number") (by rw[Zc n2.symm,Zc n1.symm];exact ow2.at') (ZB (by simp[Zaw])),?_⟩
  rw[Zjc]
  rw[← hnb]at ow2
  have ow3:=ow2.add nga hLoN (by omega) hc2 hl100 hks
  have k3:∀b u,H2 b=some u→¬ ZU Y b→(upd (upd (upd H2 Y.ra (.dK (kvR (Y.Lo++[(X.nb,c,ks,0)])))) Y.ga (.dK (kvG (Y.Lo++[(X.nb,c,ks,0)])))) Y.o (.dK (Zaw Y.ra Y.ga (X.nb+1) X.li X.lo))) b=some u:=fun b u hb nO=>by
   rw[Zc (fun z=>nO (.inl z)),Zc (fun z=>nO (.inr (.inr (.inl z)))),Zc (fun z=>nO (.inr (.inl z)))]
   exact hb
  generalize upd (upd (upd H2 Y.ra (.dK (kvR (Y.Lo++[(X.nb,c,ks,0)])))) Y.ga (.dK (kvG (Y.Lo++[(X.nb,c,ks,0)])))) Y.o (.dK (Zaw Y.ra Y.ga (X.nb+1) X.li X.lo))=H3 at ow3 k3 ⊢
  have hri3:((Y.Lo++[((X.nb,c,ks,0):Zx)]).map (fun e:Zx=>e.1)).Pairwise (·<·):=by
   rw[Qe]
   refine QaB.mpr ⟨hrise,List.pairwise_singleton ..,fun x hx y hy=>?_⟩
   obtain⟨e,he,rfl⟩:=Qo.mp hx
   have:y=X.nb:=by simpa using hy
   rw[this];exact hLoN e he
  refine⟨_,rfl,xw7 Y.o Y.ra Y.ga _ _ _ _ ⟨rfl,ow3,hri3,fun e he=>(ow3.ne_l he).1,fun k6 q6 H4 pl4 ow4 b4=>?_⟩⟩
  have kO:∀b u,H1 b=some u→¬ ZU Y b→H4 b=some u:=fun b u hb nO=>b4 b u (k3 b u (sc b u hb) nO) (fun z=>nO (.inl z))
  have mg4:MOk cRow cMerge H4 X:=pr1.mg.keep fun b u hb hor=>kO b u hb (pr1.nO hb hor)
  have hr4:=kO _ _ hr1 nOr
  obtain⟨dx4,hm4⟩:=mg4.M.ob
  refine⟨_,rfl,X.m,dx4,_,rfl,hm4,ZlP ..,_,rfl,Zsg X.m X.rd X.sd X.L X.s X.nb X.li X.lo _ r ks ⟨rfl,mg4.M,hltL,h16',hr4,hl100,hks,hsr,fun ne sd' s' w' k7 q7 H5 en ess eg hp5 hk5 hf5 hsd5 W5 S5 P5 M5 k5=>?_⟩⟩
  refine⟨_,rfl,.int X.nb,.int X.nb,rfl,Za6 _,fun H6 s6=>⟨_,rfl,ZfP ?_⟩⟩
  have kM:∀b u,H4 b=some u→¬ MFp X b→H5 b=some u:=fun b u hb nM=>k5 b u hb (fun z=>nM (.inl z)) (fun z=>nM (.inr (.inl z)))
  have hr6:=s6 _ _ (kM _ _ hr4 nMr)
  have hk6:=s6 _ _ (kM _ _ (kO _ _ hkp1 nOk) nMk)
  refine⟨_,rfl,_,rfl,.list (ks.map PyData.str),.list (ks.map PyData.str),.lst (SqL.of hr6) (ZcI ks),.lst (SqL.of hk6) (ZcI ks),Zby ks azs,Zby ks azs,?_⟩
  rw[if_neg Qm,ZhP]
  have ag1:Agr (Y.Lo++[((X.nb,c,ks,0):Zx)]) (X.L++[ne]):=by
   show pur (Y.Lo++[((X.nb,c,ks,0):Zx)])=Z6 (X.L++[ne])
   have h0:pur Y.Lo=Z6 X.L:=pr.ag
   unfold pur Z6 at h0 ⊢
   rw[Qe,Qe,h0,List.map_singleton,List.map_singleton,en,ess,eg]
  obtain⟨ek6,eq6⟩:=pl4.one (by rw[Zhf ag1,Zbb ag1];exact P5)
  have ok5:=Zc0 8 (hdM (X.L++[ne])) s' (ZA (X.L++[ne])) M5.up (Qy (show (ZA (X.L++[ne])).length≤60 by unfold ZA;rw[Qa];exact M5.few) (by decide)) (by decide) S5
  have ownE:∀b,ZU ⟨Y.o,Y.ra,Y.ga,Y.Lo++[((X.nb,c,ks,0):Zx)],X.nb+1⟩ b→ZU Y b∨H1 b=none:=fun b hb=>by
   rcases hb with z|z|z|⟨e,he,z⟩
   ·exact .inl (.inl z)
   ·exact .inl (.inr (.inl z))
   ·exact .inl (.inr (.inr (.inl z)))
   ·rcases Qk.mp he with he|he
    ·exact .inl (.inr (.inr (.inr ⟨e,he,z⟩)))
    ·rw[Qp.mp he]at z
     exact .inr (by rw[z];exact hc)
  have hv:∀b u,H1 b=some u→H4 b≠none:=fun b u hb hn=>by
   by_cases z:ZU Y b
   ·obtain⟨u',hu',_⟩:=ow4.live (b:=b) (by
     rcases z with z|z|z|⟨e,he,z⟩
     ·exact .inl z
     ·exact .inr (.inl z)
     ·exact .inr (.inr (.inl z))
     ·exact .inr (.inr (.inr ⟨e,QJ _ he,z⟩)))
    rw[hn]at hu';cases hu'
   ·rw[kO b u hb z]at hn;cases hn
  have mfE:∀b,Fp X.m X.rd sd' (X.L++[ne]) b→MFp X b∨H4 b=none:=fun b hb=>by
   rcases hb with z|z|z|⟨e,he,z⟩
   ·exact .inl (.inl z)
   ·exact .inl (.inr (.inl z))
   ·exact .inr (by rw[z];exact hsd5)
   ·rcases Qk.mp he with he|he
    ·exact .inl (.inr (.inr (.inr ⟨e,he,z⟩)))
    ·rw[Qp.mp he]at z
     rcases z with z|z|z
     ·exact .inr (by rw[z];exact hp5)
     ·exact .inr (by rw[z];exact hk5)
     ·exact .inr (by rw[z];exact hf5)
  obtain⟨p5,f5,k15⟩:=Zfx pr1 ow4 kO hv ownE M5 W5 ok5 kM mfE ag1 ek6 eq6
  refine fin (fun b u hb n n'=>s6 _ _ (k15 b u (skp _ _ hb) n n')) (p5.same s6) rfl rfl nga rfl rfl ?_ f5 ownE
  show Z6 (X.L++[ne])=Z6 X.L++[(X.nb,ks,0)]
  unfold Z6
  rw[Qe,List.map_singleton,en,ess,eg]
 | drop =>
  obtain⟨x,hx,hxn⟩:=hd
  obtain⟨e,he,rfl⟩:=Qo.mp hx
  have hxn':e.n=n:=hxn
  subst hxn'
  obtain⟨eo,heo,e1,e2⟩:=ZkR pr.ag he
  obtain⟨lo1,_,_,_⟩:=ow1.lst eo heo
  have hvR:Z1 (kvR Y.Lo) (.inl e.n)=some (.ref eo.2.1):=by rw[← e1];exact Zef ow1.nd heo
  have hvG:Z1 (kvG Y.Lo) (.inl e.n)=some (.int (eo.2.2.2:Int)):=by rw[← e1];exact ZfD ow1.nd heo
  refine⟨_,rfl,rfl,_,rfl,Zbv (by intro z;injection z with z;exact absurd z (by ac_rfl)) ?_⟩
  refine⟨_,rfl,rfl,_,rfl,Zcq rfl ?_⟩
  refine⟨_,rfl,Y.o,_,rfl,ZL.k' (k:=.inr "rows") ow1.at' (ZaI ..),.inr (.inr (.inl ⟨rfl,.inl ⟨_,ow1.rows⟩⟩)),_,rfl,Y.ra,_,.inl e.n,_,rfl,rfl,ow1.rows,hvR,?_⟩
  rw[Zn9]
  refine⟨eo.2.1,_,rfl,.inl (SqL.of (by rw[Zc (ow1.ne_l heo).2.1];exact lo1)),?_⟩
  refine⟨_,rfl,Y.o,_,rfl,ZL.k' (k:=.inr "gone") (by rw[Zc n1.symm];exact ow1.at') (ZbF ..),.inr (.inr (.inl ⟨rfl,.inl ⟨_,by rw[Zc nga];exact ow1.gone⟩⟩)),_,rfl,Y.ga,_,.inl e.n,_,rfl,rfl,(by rw[Zc nga];exact ow1.gone),hvG,?_⟩
  rw[Znh]
  refine⟨_,_,rfl,rfl,?_⟩
  have ow3:=ow1.drop nga e.n
  have k3:∀b u,H1 b=some u→¬ ZU Y b→(upd (upd H1 Y.ra (.dK (kvR (ZbY Y.Lo e.n)))) Y.ga (.dK (kvG (ZbY Y.Lo e.n)))) b=some u:=fun b u hb nO=>by
   rw[Zc (fun z=>nO (.inr (.inr (.inl z)))),Zc (fun z=>nO (.inr (.inl z)))]
   exact hb
  have v3:∀b u,H1 b=some u→(upd (upd H1 Y.ra (.dK (kvR (ZbY Y.Lo e.n)))) Y.ga (.dK (kvG (ZbY Y.Lo e.n)))) b≠none:=fun b u hb hn=>by
   by_cases z:b=Y.ga
   ·rw[z,Zb]at hn;cases hn
   ·rw[Zc z]at hn
    by_cases z':b=Y.ra
    ·rw[z',Zb]at hn;cases hn
    ·rw[Zc z',hb]at hn;cases hn
  generalize upd (upd H1 Y.ra (.dK (kvR (ZbY Y.Lo e.n)))) Y.ga (.dK (kvG (ZbY Y.Lo e.n)))=H3 at ow3 k3 v3 ⊢
  have hri3:((ZbY Y.Lo e.n).map (fun e:Zx=>e.1)).Pairwise (·<·):=hrise.sublist (Qa2 _ Qao)
  refine⟨_,rfl,xw7 Y.o Y.ra Y.ga _ _ _ _ ⟨rfl,ow3,hri3,fun e he=>(ow3.ne_l he).1,fun k6 q6 H4 pl4 ow4 b4=>?_⟩⟩
  have kO:∀b u,H1 b=some u→¬ ZU Y b→H4 b=some u:=fun b u hb nO=>b4 b u (k3 b u hb nO) (fun z=>nO (.inl z))
  have mg4:MOk cRow cMerge H4 X:=pr1.mg.keep fun b u hb hor=>kO b u hb (pr1.nO hb hor)
  obtain⟨dx4,hm4⟩:=mg4.M.ob
  refine⟨_,rfl,X.m,dx4,_,rfl,hm4,Zki ..,_,rfl,Zl7 X.m X.rd X.sd X.L X.s X.nb X.li X.lo _ e ⟨rfl,mg4.M,he,fun sd' s' w' k7 q7 H5 hsd5 W5 S5 P5 M5 k5=>?_⟩⟩
  refine⟨_,rfl,_,_,rfl,(by rw[e2,Qa];exact Za6 _),fun H6 s6=>?_⟩
  have kM:∀b u,H4 b=some u→¬ MFp X b→H5 b=some u:=fun b u hb nM=>k5 b u hb (fun z=>nM (.inl z)) (fun z=>nM (.inr (.inl z)))
  have ag1:=ZmJ pr.ag e.n
  obtain⟨ek6,eq6⟩:=pl4.one (by rw[Zhf ag1,Zbb ag1];exact P5)
  have ok5:=Zc0 8 (hdM (Zbl X.L e.n)) s' (ZA (Zbl X.L e.n)) M5.up (Qy (show (ZA (Zbl X.L e.n)).length≤60 by unfold ZA;rw[Qa];exact M5.few) (by decide)) (by decide) S5
  have ownE:∀b,ZU ⟨Y.o,Y.ra,Y.ga,ZbY Y.Lo e.n,Y.nb⟩ b→ZU Y b∨H1 b=none:=fun b hb=>.inl (by
   rcases hb with z|z|z|⟨e',he',z⟩
   ·exact .inl z
   ·exact .inr (.inl z)
   ·exact .inr (.inr (.inl z))
   ·exact .inr (.inr (.inr ⟨e',(Qau.mp he').1,z⟩)))
  have hv:∀b u,H1 b=some u→H4 b≠none:=fun b u hb hn=>by
   by_cases z:b=Y.o
   ·rw[z,ow4.at']at hn;cases hn
   ·cases h3:H3 b with
    | none=>exact v3 b u hb h3
    | some u3=>rw[b4 b u3 h3 z]at hn;cases hn
  have mfE:∀b,Fp X.m X.rd sd' (Zbl X.L e.n) b→MFp X b∨H4 b=none:=fun b hb=>by
   rcases hb with z|z|z|⟨e',he',z⟩
   ·exact .inl (.inl z)
   ·exact .inl (.inr (.inl z))
   ·exact .inr (by rw[z];exact hsd5)
   ·exact .inl (.inr (.inr (.inr ⟨e',(Qau.mp he').1,z⟩)))
  obtain⟨p5,f5,k15⟩:=Zfx pr1 ow4 kO hv ownE M5 W5 ok5 kM mfE ag1 ek6 eq6
  refine fin (fun b u hb n n'=>s6 _ _ (k15 b u (skp _ _ hb) n n')) (p5.same s6) rfl rfl nga hnb rfl ?_ f5 ownE
  show Z6 (Zbl X.L e.n)=(Z6 X.L).filter fun x=>decide (x.1≠e.n)
  unfold Z6 Zbl
  rw[Qav]
  rfl
 | grow =>
  obtain⟨x,hx,hxn,hsr,hlen⟩:=hd
  obtain⟨e,he,rfl⟩:=Qo.mp hx
  have hxn':e.n=n:=hxn
  subst hxn'
  have hsr':sortedS (e.ss++ks)=true:=hsr
  have hlen':(e.ss++ks).length≤200:=hlen
  obtain⟨eo,heo,e1,e2⟩:=ZkR pr.ag he
  have e21:eo.2.2.1=e.ss:=by rw[e2]
  have e22:eo.2.2.2=e.g:=by rw[e2]
  obtain⟨lo1,_,_,lz⟩:=ow1.lst eo heo
  have hle:=(pr1.mg.M.each e he).le
  have hz:∀x∈e.ss++ks,x.length≤1000∧AZ x:=fun x hx=>by
   rcases Qk.mp hx with hx|hx
   ·exact(pr1.mg.M.each e he).str x hx
   ·exact hks x hx
  have hvR:Z1 (kvR Y.Lo) (.inl e.n)=some (.ref eo.2.1):=by rw[← e1];exact Zef ow1.nd heo
  have hvG:Z1 (kvG Y.Lo) (.inl e.n)=some (.int (eo.2.2.2:Int)):=by rw[← e1];exact ZfD ow1.nd heo
  refine⟨_,rfl,rfl,_,rfl,Zbv (by intro z;injection z with z;exact absurd z (by ac_rfl)) ?_⟩
  refine⟨_,rfl,rfl,_,rfl,Zbv (by intro z;injection z with z;exact absurd z (by ac_rfl)) ?_⟩
  refine⟨_,rfl,Y.o,_,rfl,ZL.k' (k:=.inr "rows") ow1.at' (ZaI ..),_,rfl,Y.ra,_,rfl,ZL.k' (k:=.inl e.n) ow1.rows hvR,eo.2.1,_,rfl,.inl (SqL.of lo1),_,rfl,Y.o,_,rfl,ZL.k' (k:=.inr "gone") ow1.at' (ZbF ..),_,rfl,Y.ga,_,rfl,ZL.k' (k:=.inl e.n) ow1.gone hvG,rfl,?_⟩
  refine⟨_,rfl,Y.o,_,rfl,ZL.k' (k:=.inr "rows") ow1.at' (ZaI ..),_,rfl,Y.ra,_,rfl,ZL.k' (k:=.inl e.n) ow1.rows hvR,_,rfl,r,_,rfl,.inl (SqL.of hr1),fun l hl=>?_⟩
  have sl:=Zh hl (.lst (ks.map V.str))
  refine(xw4 eo.2.1 l _ _ ⟨rfl,rfl,sl _ _ lo1,Zb,(by rw[Qa,Qa,e21];rw[Qf]at hlen';exact Zbg (by omega)),fun c hc=>?_⟩)
  rw[← Qe]
  have sc:=sl.trans (Zh hc (.lst ((eo.2.2.1++ks).map V.str)))
  have hc2:(upd (upd H1 l (.lst (ks.map V.str))) c (.lst ((eo.2.2.1++ks).map V.str))) c=some (.lst ((eo.2.2.1++ks).map V.str)):=Zb
  have hcH:H1 c=none:=sl.free hc
  generalize upd (upd H1 l (.lst (ks.map V.str))) c (.lst ((eo.2.2.1++ks).map V.str))=H2 at sc hc2 ⊢
  have ow2:=ow1.same sc
  refine⟨_,rfl,Y.o,_,rfl,ZL.k' (k:=.inr "rows") ow2.at' (ZaI ..),_,rfl,Y.ra,_,rfl,Zb6.k (k:=.inl e.n) ow2.rows hszR,?_⟩
  rw[← e1,Zng heo ks c]
  have ow3:=ow2.grow nga heo (ks:=ks) hc2 (by rw[e21];exact hlen') (by rw[e21];exact hz)
  have k3:∀b u,H1 b=some u→¬ ZU Y b→(upd H2 Y.ra (.dK (kvR (Zbx Y.Lo eo.1 ks c)))) b=some u:=fun b u hb nO=>by
   rw[Zc (fun z=>nO (.inr (.inl z)))]
   exact sc b u hb
  have v3:∀b u,H1 b=some u→(upd H2 Y.ra (.dK (kvR (Zbx Y.Lo eo.1 ks c)))) b≠none:=fun b u hb hn=>by
   by_cases z:b=Y.ra
   ·rw[z,Zb]at hn;cases hn
   ·rw[Zc z,sc b u hb]at hn;cases hn
  generalize upd H2 Y.ra (.dK (kvR (Zbx Y.Lo eo.1 ks c)))=H3 at ow3 k3 v3 ⊢
  have hri3:((Zbx Y.Lo eo.1 ks c).map (fun e:Zx=>e.1)).Pairwise (·<·):=by rw[ZhK];exact hrise
  have hr3:=k3 _ _ hr1 nOr
  refine⟨fun σ H4=>(∃v:Option V,σ=[some (.ref X.m),some (.ref Y.o),some (.ref t),some (.str "grow"),some (.int eo.1),some (.ref r),some (.ref kp),none,v])∧(∃k6 q6:Int,Own H4 Y.o Y.ra Y.ga (Zbx Y.Lo eo.1 ks c) Y.nb (X.li+k6) (X.lo+q6)∧(∀b u,H1 b=some u→¬ ZU Y b→H4 b=some u)∧(∀b u,H1 b=some u→H4 b≠none)∧(((e.g<e.ss.length∨ks=[])∧k6=0∧q6=0)∨(e.g=e.ss.length∧ks≠[]∧ZbA (hdL (Zbx Y.Lo eo.1 ks c)) 8 ((Zbx Y.Lo eo.1 ks c).map (fun e:Zx=>e.1)) k6 q6))),?_,?_⟩
  ·refine⟨_,rfl,_,rfl,?_⟩
   rw[Qa,e21,e22]
   by_cases hg:e.g<e.ss.length
   ·exact Zbv (by intro z;injection z with z;omega) (Zbr ⟨⟨_,rfl⟩,0,0,by rw[QR,QR];exact ow3,k3,v3,.inl ⟨.inl hg,rfl,rfl⟩⟩)
   refine Zcq (by rw[show e.ss.length=e.g by omega]) ?_
   refine⟨_,rfl,(by show 0≤sizeLine;decide),fun z hz'=>?_⟩
   have sz:=Zh hz' (.lst [])
   refine⟨.list (ks.map PyData.str),.list [],.lst (SqL.of (sz _ _ hr3)) (ZcI ks),.lst (SqL.of Zb) .nil,Zby ks azs,(by ac_rfl),_,rfl,?_⟩
   rw[if_pos rfl,Zmx]
   have ow4:=ow3.same sz
   have k4:∀b u,H1 b=some u→¬ ZU Y b→(upd H3 z (.lst [])) b=some u:=fun b u hb nO=>sz _ _ (k3 b u hb nO)
   have v4:∀b u,H1 b=some u→(upd H3 z (.lst [])) b≠none:=fun b u hb hn=>v3 b u hb (sz.free hn)
   generalize upd H3 z (.lst [])=H3' at ow4 k4 v4 ⊢
   by_cases hk0:ks=[]
   ·exact Zeh hk0 ⟨⟨_,rfl⟩,0,0,by rw[QR,QR];exact ow4,k4,v4,.inl ⟨.inr hk0,rfl,rfl⟩⟩
   refine ZgH hk0 ?_
   refine⟨_,rfl,xw7 Y.o Y.ra Y.ga _ _ _ _ ⟨rfl,ow4,hri3,fun e he=>(ow4.ne_l he).1,fun k6 q6 H4 pl4 ow4' b4=>?_⟩⟩
   refine⟨⟨_,rfl⟩,k6,q6,ow4',fun b u hb nO=>b4 b u (k4 b u hb nO) (fun z=>nO (.inl z)),fun b u hb hn=>?_,.inr ⟨by omega,hk0,pl4⟩⟩
   by_cases z:b=Y.o
   ·rw[z,ow4'.at']at hn;cases hn
   ·cases h3:H3' b with
    | none=>exact v4 b u hb h3
    | some u3=>rw[b4 b u3 h3 z]at hn;cases hn
  rintro σ H4 ⟨⟨v,rfl⟩,k6,q6,ow5,kO,hv,cnd⟩
  have mg4:MOk cRow cMerge H4 X:=pr1.mg.keep fun b u hb hor=>kO b u hb (pr1.nO hb hor)
  have hr4:=kO _ _ hr1 nOr
  obtain⟨dx4,hm4⟩:=mg4.M.ob
  refine⟨_,rfl,X.m,dx4,_,rfl,hm4,ZkJ ..,_,rfl,_,rfl,X.m,X.rd,X.sd,X.L,X.s,X.nb,X.li,X.lo,X.w,e,r,ks,(by rw[← e1];rfl),mg4.M,mg4.W,mg4.ok,he,hr4,fun z=>nMr (.inr (.inr (.inr ⟨e,he,.inl z⟩))),hlen',hsr',hz,fun k' f' sd' s' w' k7 q7 H5 hk5 hf5 cnd' W5 ok5 M5 k5=>?_⟩
  refine⟨rfl,_,rfl,Zcq rfl ?_⟩
  have kM:∀b u,H4 b=some u→¬ MFp X b→H5 b=some u:=fun b u hb nM=>k5 b u hb (fun z=>nM (.inl z)) (fun z=>nM (.inr (.inr (.inr ⟨e,he,.inl z⟩))))
  have hr6:=kM _ _ hr4 nMr
  have hk6:=kM _ _ (kO _ _ hkp1 nOk) nMk
  refine⟨_,rfl,_,rfl,.list (ks.map PyData.str),.list (ks.map PyData.str),.lst (SqL.of hr6) (ZcI ks),.lst (SqL.of hk6) (ZcI ks),Zby ks azs,Zby ks azs,?_⟩
  rw[if_neg Qm,ZhP]
  have ag1:Agr (Zbx Y.Lo eo.1 ks c) (Zbm X.L e.n ks k' f'):=by rw[e1];exact Zn8 pr.ag e.n ks c k' f'
  have ekq:k6=k7∧q6=q7:=by
   rcases cnd with⟨h1,rfl,rfl⟩|⟨h1,h2,h3⟩
   ·rcases cnd' with⟨_,_,rfl,rfl⟩|⟨h4,h5,_⟩
    ·exact⟨rfl,rfl⟩
    ·rcases h1 with h1|h1
     ·omega
     ·exact absurd h1 h5
   ·rcases cnd' with⟨h4,_⟩|⟨_,_,_,h6⟩
    ·rcases h4 with h4|h4
     ·omega
     ·exact absurd h4 h2
    ·refine h3.one (m:=8) ?_
     rw[Zhf ag1,Zbb ag1,Zdp];exact h6
  have ownE:∀b,ZU ⟨Y.o,Y.ra,Y.ga,Zbx Y.Lo eo.1 ks c,Y.nb⟩ b→ZU Y b∨H1 b=none:=fun b hb=>by
   rcases hb with z|z|z|⟨e',he',z⟩
   ·exact .inl (.inl z)
   ·exact .inl (.inr (.inl z))
   ·exact .inl (.inr (.inr (.inl z)))
   ·obtain⟨y,hy,rfl⟩:=Qo.mp he'
    unfold Zcv at z
    split at z
    ·exact .inr (by rw[z];exact hcH)
    ·exact .inl (.inr (.inr (.inr ⟨y,hy,z⟩)))
  have mfE:∀b,Fp X.m X.rd sd' (Zbm X.L e.n ks k' f') b→MFp X b∨H4 b=none:=fun b hb=>by
   rcases hb with z|z|z|⟨e',he',z⟩
   ·exact .inl (.inl z)
   ·exact .inl (.inr (.inl z))
   ·rcases cnd' with⟨_,h6,_⟩|⟨_,_,h6,_⟩
    ·exact .inl (.inr (.inr (.inl (by rw[z,h6]))))
    ·exact .inr (by rw[z];exact h6)
   ·obtain⟨y,hy,rfl⟩:=Qo.mp he'
    unfold Zcd at z
    split at z
    ·rcases z with z|z|z
     ·exact .inl (.inr (.inr (.inr ⟨y,hy,.inl z⟩)))
     ·exact .inr (by rw[z];exact hk5)
     ·exact .inr (by rw[z];exact hf5)
    ·exact .inl (.inr (.inr (.inr ⟨y,hy,z⟩)))
  obtain⟨p5,f5,k15⟩:=Zfx pr1 ow5 kO hv ownE M5 (by rw[Zdp];exact W5) (by rw[Zdp];exact ok5) kM mfE ag1 ekq.1 ekq.2
  refine fin (fun b u hb n n'=>k15 b u (skp _ _ hb) n n') p5 rfl rfl nga hnb rfl ?_ f5 ownE
  show Z6 (Zbm X.L e.n ks k' f')=(Z6 X.L).map fun x=>if x.1=e.n then (x.1,x.2.1++ks,x.2.2) else x
  unfold Z6 Zbm
  rw[Qj,Qj]
  refine Qx fun y _=>?_
  simp only[Function.comp]
  unfold Zcd
  split<;>rfl
theorem Zi9:∀ns:List Int,PyData.canLayAll0 (ns.map PyData.int)=true
 | []=>rfl
 | x::r=>by simp[PyData.canLayAll0,PyData.canLay0,Zi9 r]
theorem ZgI:∀ns:List Int,PyData.depthAll (ns.map PyData.int)=0
 | []=>rfl
 | _::r=>by simp[PyData.depthAll,PyData.depth,ZgI r]
theorem ZjQ(ns:List Int):SeqAt.shaped (.list (ns.map PyData.int))=true:=by simp[SeqAt.shaped,PyData.canLay0,PyData.depth,Zi9 ns,ZgI]
theorem Zk5{K:PySem.W.Frag}{H:Hp}:∀ns:List Int,DVs K H (ns.map V.int) (ns.map PyData.int)
 | []=>.nil
 | s::r=>.cons (.int s) (Zk5 r)
theorem ZpE{xs:List V}{x:V}(h:xs[xs.length-1]? = some x)(h0:0<xs.length):atI xs (-1)=some x:=by
 have e:ixN xs.length (-1)=some (xs.length-1):=by
  unfold ixN
  rw[if_neg (by decide),if_pos (by omega)]
  congr 1
  omega
 unfold atI
 rw[e]
 exact h
theorem ZfF:∀a b:List Nat,Spec.ltCps a b=true↔a<b
 | [],[]=>by simp[Spec.ltCps]
 | [],y::s=>by simp[Spec.ltCps]
 | x::r,[]=>by simp[Spec.ltCps]
 | x::r,y::s=>by
  have ih:=ZfF r s
  rw[List.cons_lt_cons_iff]
  simp[Spec.ltCps,ih]
def LeS(a b:Str):Prop:=¬ b.cps.toList<a.cps.toList
theorem LeS.trans{a b c:Str}(h:LeS a b)(k:LeS b c):LeS a c:=List.not_lt.mpr (List.le_trans (List.not_lt.mp h) (List.not_lt.mp k))
theorem ZhB:∀ (r:List Str) (x:Str),risingS x r=true↔(x::r).Pairwise LeS
 | [],x=>by simp[risingS]
 | y::r,x=>by
  have ih:=ZhB r y
  rw[List.pairwise_cons]
  unfold risingS
  rw[QaC,Bool.not_eq_true']
  constructor
  ·rintro⟨h1,h2⟩
   have p:=ih.mp h2
   have hxy:LeS x y:=fun z=>by rw[(ZfF _ _).mpr z]at h1;cases h1
   refine⟨fun b hb=>?_,p⟩
   rcases QI.mp hb with rfl|hb
   ·exact hxy
   ·exact hxy.trans ((List.pairwise_cons.mp p).1 b hb)
  ·rintro⟨h1,h2⟩
   exact⟨Qan.mpr fun z=>h1 y (by simp) ((ZfF _ _).mp z),ih.mpr h2⟩
theorem Zgp(ss:List Str):sortedS ss=true↔ss.Pairwise LeS:=by
 cases ss with
 | nil=>simp[sortedS]
 | cons x r=>exact ZhB r x
theorem Zgv{ss ks:List Str}(h:sortedS ss=true)(k:sortedS ks=true)(hl:∀x∈ks,LeS ((([""]:List Str)++ss).getLast (by simp)) x):sortedS (ss++ks)=true:=by
 rw[Zgp]at h k ⊢
 refine QaB.mpr ⟨h,k,fun a ha b hb=>?_⟩
 have hb':=hl b hb
 have hne:ss≠[]:=fun z=>by rw[z]at ha;cases ha
 rw[List.getLast_append_of_ne_nil (by simp) hne]at hb'
 have hla:LeS a (ss.getLast hne):=by
  rcases List.eq_nil_or_concat ss with z|⟨r,y,rfl⟩
  ·exact absurd z hne
  ·rw[show (r.concat y).getLast hne=y by simp]
   rcases Qk.mp (by simpa using ha:a∈r++[y]) with ha|ha
   ·exact(List.pairwise_append.mp (by simpa using h:(r++[y]).Pairwise LeS)).2.2 a ha y (by simp)
   ·rw[Qp.mp ha]
    exact List.not_lt.mpr (List.le_refl _)
 exact hla.trans hb'
theorem ZnU{K:PySem.W.Frag}{a:Addr}{ss:List Str}{k:Nat}{D:Addr}{σ:L2.St}{H1:Hp}{g:TG}{tc:TT}{te:TE}{Q:VK}(fB:Str→Bool)(fS:Str→Str)(R:L2.St→Prop)(hD:H1 D=none)(ha:SqL K H1 a (ss.map V.str))(hn:ss.length≤1000)(h0:R (σ++List.replicate k none))
  (hs:∀x∈ss,∀ (σ:L2.St) (H:Hp) (N:L2.St→V→Hp→Prop) (M:L2.St→Hp→Prop),R σ→(∀σ4,R σ4→fB x=true→N σ4 (.str (fS x)) H)→(∀σ4,R σ4→fB x=false→M σ4 H)→g (.str x) σ H fun σ4 H4=>tc σ4 H4 fun b H5=>if b=true then te σ4 H5 fun y H6=>N σ4 y H6 else M σ4 H5)
  (hd:∀σ4,R σ4→Q (.ref D) (upd H1 D (.lst (((ss.filter fB).map fS).map V.str)))):Zek (Itl K a) D k σ H1 g tc te Q:=by
 refine ZgM (K:=K) (a:=a) (xs:=ss.map V.str) (fun i ys σ H=>R σ∧ys=(((ss.take i).filter fB).map fS).map V.str∧H=upd H1 D (.lst ys)∧i≤ss.length) ⟨h0,rfl,rfl,Qv _⟩ ?_ ?_ ?_
 ·rintro i ys σ H ⟨_,_,rfl,_⟩
  exact(Zh hD _).seq ha
 ·rintro i x ys σ H hx ⟨hR,rfl,rfl,hi⟩
  rw[Qn]at hx
  cases hy:ss[i]? with
  | none=>rw[hy]at hx;cases hx
  | some y =>
   rw[hy]at hx
   injection hx with hx
   subst hx
   have hil:i<ss.length:=(Qi.mp hy).1
   have ht:ss.take (i+1)=ss.take i++[y]:=by rw[List.take_succ,hy];rfl
   refine hs y (Qw hy) σ _ _ _ hR (fun σ4 h4 hb=>⟨Zb,?_,h4,?_,by rw[ZoA],hil⟩) (fun σ4 h4 hb=>⟨h4,?_,rfl,hil⟩)
   ·rw[Qa,Qa]
    have:=Qaj fB (ss.take i)
    rw[QA]at this
    exact ZB (by omega)
   ·rw[ht,List.filter_append,List.filter_cons_of_pos hb,List.filter_nil,Qe,Qe];rfl
   ·rw[ht,List.filter_append,List.filter_cons_of_neg (by rw[hb];exact Qm),List.filter_nil,QaL]
 ·rintro ys σ H ⟨hR,rfl,rfl,_⟩
  have e:ss.take (ss.map V.str).length=ss:=by rw[Qa,List.take_length]
  rw[e]
  exact hd σ hR
def Zb9(rl m c S:Nat)(P:List ZY)(nb:Int):Prop:=ZaY P=ZdQ 0 rl∧rl≤12∧nb=(rl:Int)∧ZaU P≤S∧∀x∈P,x.2.1.length≤m∧∀s∈x.2.1,s.length≤c
theorem ZiJ(P:List ZY)(n:Int):ZaU (Zbt P n)≤ZaU P:=by
 unfold ZaU Zbt
 induction P with
 | nil=>exact Qg _
 | cons x r ih =>
  rw[Qh,Qh,Qh,Q5,Q5]
  have:(ZdN n x).2.1.length-(ZdN n x).2.2≤x.2.1.length-x.2.2:=by
   unfold ZdN
   split
   ·show x.2.1.length-(x.2.2+1)≤_;omega
   ·exact Qg _
  omega
theorem ZhS{rl m c S:Nat}(P:List ZY)(nb n:Int)(h:Zb9 rl m c S P nb):Zb9 rl m c S (Zbt P n) nb:=by
 refine⟨by rw[Zh7];exact h.1,h.2.1,h.2.2.1,Qy (ZiJ P n) h.2.2.2.1,fun x hx=>?_⟩
 obtain⟨y,hy,rfl⟩:=Qo.mp hx
 have:=h.2.2.2.2 y hy
 unfold ZdN
 split
 ·exact this
 ·exact this
theorem ZcZ{rl m c S m' c' S':Nat}{P:List ZY}{nb:Int}(h:Zb9 rl m c S P nb)(hm:m≤m')(hc:c≤c')(hS:S≤S'):Zb9 rl m' c' S' P nb :=
 ⟨h.1,h.2.1,h.2.2.1,Qy h.2.2.2.1 hS,fun x hx=>⟨Qy (h.2.2.2.2 x hx).1 hm,fun s hs=>Qy ((h.2.2.2.2 x hx).2 s hs) hc⟩⟩
theorem Zmg{rl m c S:Nat}{P:List ZY}{nb:Int}(h:Zb9 rl m c S P nb):ZaU P≤S:=h.2.2.2.1
theorem Zip(n:Int)(ks:List Str):∀P:List ZY,(ZaY P).Nodup→ZaU (P.map fun x=>if x.1=n then (x.1,x.2.1++ks,x.2.2) else x)≤ZaU P+ks.length
 | [],_=>Qv _
 | x::r,nd=>by
  have nd':x.1 ∉ ZaY r∧(ZaY r).Nodup:=QV.mp nd
  unfold ZaU
  rw[Qh,Qh,Qh,Q5,Q5]
  by_cases e:x.1=n
  ·have hr:(r.map fun x=>if x.1=n then (x.1,x.2.1++ks,x.2.2) else x)=r:=by
    refine(Qx fun y hy=>?_).trans (List.map_id r)
    rw[if_neg (fun z=>nd'.1 (by rw[e,← z];exact Qd (f:=fun x:ZY=>x.1) hy))]
    rfl
   rw[hr,if_pos e]
   show (x.2.1++ks).length-x.2.2+_≤_
   rw[Qf]
   omega
  ·rw[if_neg e]
   have ih:=Zip n ks r nd'.2
   unfold ZaU at ih
   omega
theorem Zim{rl m c S m' c' S':Nat}{P:List ZY}{nb n:Int}{ks:List Str}(nd:(ZaY P).Nodup)(h:Zb9 rl m c S P nb)(hm:m≤m')(hc:c≤c')(hS:S+ks.length≤S')(hx:∀x∈P,x.1=n→(x.2.1++ks).length≤m')(hk:∀s∈ks,s.length≤c'):Zb9 rl m' c' S' (ZmQ P n ks .grow) (Zje.nb nb .grow):=by
 refine⟨?_,h.2.1,h.2.2.1,Qy (Zip n ks P nd) (by have:=h.2.2.2.1;omega),fun x hx'=>?_⟩
 ·show ZaY (List.map _ P)=_
  unfold ZaY
  rw[Qj]
  refine(Qx fun x _=>?_).trans h.1
  simp only[Function.comp]
  split<;>rfl
 ·obtain⟨z,hz,rfl⟩:=Qo.mp hx'
  have hz2:=h.2.2.2.2 z hz
  by_cases e:z.1=n
  ·rw[if_pos e]
   refine⟨hx z hz e,fun s hs=>?_⟩
   rcases Qk.mp hs with hs|hs
   ·exact Qy (hz2.2 s hs) hc
   ·exact hk s hs
  ·rw[if_neg e]
   exact⟨Qy hz2.1 hm,fun s hs=>Qy (hz2.2 s hs) hc⟩
theorem Zjt{rl m c S:Nat}{P:List ZY}{nb n:Int}(h:Zb9 rl m c S P nb)(h0:0≤n)(h1:n<(rl:Int)):∃x∈P,x.1=n:=by
 have:n∈ZaY P:=by
  rw[h.1]
  unfold ZdQ
  exact List.mem_map.mpr ⟨n.toNat,Qag.mpr (by omega),by omega⟩
 exact Qo.mp this
theorem Znq{rs:List (Addr×List Str)}(h12:rs.length≤12)(h:∀x∈rs,x.2.length≤60∧∀s∈x.2,s.length≤28):Zb9 rs.length 60 28 720 (Zkv rs) (rs.length:Int):=by
 refine⟨?_,h12,rfl,?_,fun x hx=>?_⟩
 ·unfold ZaY Zkv
  rw[List.map_fst_zip (by rw[Qa,Zdf];exact Qg _)]
 ·rw[Znm]
  have:∀l:List (Addr×List Str),(∀x∈l,x.2.length≤60)→(l.map fun x=>x.2.length).sum≤l.length*60:=fun l h=>by
   induction l with
   | nil=>exact Qg _
   | cons x r ih =>
    have h1:=ih fun y hy=>h y (Qu _ hy)
    have h2:=h x (by simp)
    rw[Qh,Q5,QK]
    omega
  have:=this rs fun x hx=>(h x hx).1
  omega
 ·have:=(List.of_mem_zip hx).2
  obtain⟨y,hy,z⟩:=Qo.mp this
  rw[← z];exact h y hy
theorem LeS.app(x y:Str):LeS x (x++y):=fun z=>by
 have h:∀a b:List Nat,¬ (a++b)<a:=fun a b=>by
  induction a with
  | nil=>simp
  | cons c r ih=>rw[List.cons_append,List.cons_lt_cons_iff];rintro(h|⟨_,h⟩);exact absurd h (Q4 _);exact ih h
 have e:(x++y).cps.toList=x.cps.toList++y.cps.toList:=Zlb x y
 rw[e]at z
 exact h _ _ z
theorem Ze8(s:Str):∀k:Nat,(List.replicate k [V.str s]).flatten=(List.replicate k s).map V.str
 | 0=>rfl
 | k+1=>by rw[Q2,Qaz,Ze8 s k,Q2,Qh];rfl
def ZhM(ss:List Str):Str:=(([""]:List Str)++ss).getLast (by simp)
theorem Zjx{K:PySem.W.Frag}{H:Hp}{σ:L2.St}{Q:VK}{o ra ga:Addr}{Lo:List Zx}{nb li lo:Int}{e:Zx}{i j:Nat}(ow:Own H o ra ga Lo nb li lo)(he:e∈Lo)(hi:σ[i]? = some (some (.ref o)))(hj:σ[j]? = some (some (.int e.1)))(q:∀H',ZH H H'→Q (.str (ZhM e.2.2.1)) H'):tOp (ZpJ K) (tOp Zsd (Zrt (ZpZ (tC (.str "")) ZpN)) (tOp Zqj (tOp Zqj (Zl8 i) (tC (.str "rows"))) (Zl8 j))) (tUn (rU fun i=>.int (-i)) (tC (.int 1))) σ H Q:=by
 refine⟨(by show 1≤sizeLine;decide),fun b hb=>?_⟩
 have sb:=Zh hb (.lst (([""]:List Str).map V.str))
 have hb5:(upd H b (.lst (([""]:List Str).map V.str))) b=some (.lst (([""]:List Str).map V.str)):=Zb
 have ow5:=ow.same sb
 have l2:=(ow.lst e he).2.1
 refine⟨_,hi,o,_,rfl,ZL.k' (k:=.inr "rows") ow5.at' (ZaI ..),_,hj,ra,_,rfl,ZL.k' (k:=.inl e.1) ow5.rows (Zef ow.nd he),xw4 b e.2.1 _ _ ⟨rfl,rfl,hb5,(ow5.lst e he).1,(by rw[Qa,Qa];show 1+e.2.2.1.length≤sizeLine;exact Zbg (by omega)),fun d' hd'=>?_⟩⟩
 rw[← Qe]
 have sd:=sb.trans (Zh hd' (.lst (((([""]:List Str)++e.2.2.1)).map V.str)))
 refine⟨_,rfl,d',_,_,_,rfl,rfl,SqL.of Zb,?_,q _ sd⟩
 refine ZpE ?_ (by rw[Qa,Qf];show 0<1+_;omega)
 unfold ZhM
 rw[Qa,Qn,List.getLast_eq_getElem,Qb (by rw[Qf];show 1+_-1<1+_;omega)];rfl
structure Wk (I:List ZY→Int→Prop) (cR cM:Addr) (HB:Hp) (p:Addr) (H:Hp) (X:MS) (Y:OS):Prop where
 pr:Zd7 cR cM H X Y
 nga:Y.ga≠Y.ra
 nb:X.nb=Y.nb
 inv:I (Z6 X.L) X.nb
 fM:∀b,MFp X b→HB b=none
 fO:∀b,ZU Y b→HB b=none
 but:But p HB H
section
variable {I:List ZY→Int→Prop} {cR cM:Addr} {HB:Hp} {p:Addr} {H H':Hp} {X X':MS} {Y Y':OS}
theorem Wk.to(W:Wk I cR cM HB p H X Y)(hp:∃u,H p=some u)(pr':Zd7 cR cM H' X' Y')(nga':Y'.ga≠Y'.ra)(nb':X'.nb=Y'.nb)(inv':I (Z6 X'.L) X'.nb)(fM:∀b,MFp X' b→MFp X b∨H b=none)(fO:∀b,ZU Y' b→ZU Y b∨H b=none)(k:∀b u,H b=some u→¬ MFp X b→¬ ZU Y b→H' b=some u):Wk I cR cM HB p H' X' Y':=by
 have old:∀b,H b=none→HB b=none:=fun b hb=>by
  cases e:HB b with
  | none=>rfl
  | some u =>
   by_cases z:b=p
   ·obtain⟨u',hu'⟩:=hp;rw[z,hu']at hb;cases hb
   ·rw[W.but b u e z]at hb;cases hb
 refine⟨pr',nga',nb',inv',fun b hb=>(fM b hb).elim (W.fM b) (old b),fun b hb=>(fO b hb).elim (W.fO b) (old b),fun b u hb n=>k b u (W.but b u hb n) (fun z=>?_) (fun z=>?_)⟩
 ·rw[W.fM b z]at hb;cases hb
 ·rw[W.fO b z]at hb;cases hb
theorem Wk.same(W:Wk I cR cM HB p H X Y)(s:ZH H H'):Wk I cR cM HB p H' X Y:=⟨W.pr.same s,W.nga,W.nb,W.inv,W.fM,W.fO,W.but.trans (But.same s)⟩
theorem Wk.np(W:Wk I cR cM HB p H X Y)(hB:∃u,HB p=some u):¬ MFp X p∧¬ ZU Y p:=by
 obtain⟨u,hu⟩:=hB
 exact⟨fun z=>(by rw[W.fM p z]at hu;cases hu),fun z=>(by rw[W.fO p z]at hu;cases hu)⟩
theorem Wk.draw(W:Wk I cR cM HB p H X Y)(hB:∃u,HB p=some u){c:Int}(L:Zaz H p c)(B:But p H H'):Wk I cR cM HB p H' X Y:=⟨W.pr.but L (W.np hB).1 (W.np hB).2 B,W.nga,W.nb,W.inv,W.fM,W.fO,W.but.trans B⟩
theorem Wk.left(W:Wk I cR cM HB p H X Y)(hB:∃u,HB p=some u){c:Int}(L:Zaz H p c)(k:∀b u,H b=some u→¬ MFp X b→¬ ZU Y b→H' b=some u):Zaz H' p c:=by
 obtain⟨g1,g2,hp,c0⟩:=L
 exact⟨g1,g2,k _ _ hp (W.np hB).1 (W.np hB).2,c0⟩
theorem Zmj(hI:∀P nb n,I P nb→I (Zbt P n) nb){P P':List ZY}{ts:List Zc7}{k q nb:Int}(h:ZbI P ts P' k q)(i:I P nb):I P' nb:=by
 induction h with
 | nil=>exact i
 | snoc _ _ ih=>exact hI _ _ _ ih
theorem Wk.imp{J:List ZY→Int→Prop}(W:Wk I cR cM HB p H X Y)(h:I (Z6 X.L) X.nb→J (Z6 X.L) X.nb):Wk J cR cM HB p H X Y:=⟨W.pr,W.nga,W.nb,h W.inv,W.fM,W.fO,W.but⟩
theorem Wk.take(hI:∀P nb n,I P nb→I (Zbt P n) nb){H1 H2:Hp}(W:Wk I cR cM HB p H X Y)(hp:∃u,H p=some u){x y:V}{L':List Zw}{s':StL}{w':Option Int}{k q k' q':Int}{Lo':List Zx}(hR:ZhL X.L X.w x L' k q H1)
  (M1:ZP cR cM H1 X.m X.rd X.sd L' s' X.nb (X.li+k) (X.lo+q) (Zcg w')) (W1:Win (hdM L') (ZA L') w') (ok1:ZR (hdM L') s' (ZA L')) (k1:∀b o,H b=some o→¬ MFp X b→H1 b=some o)
  (hT:Zfr Y.Lo y Lo' k' q' H2) (ow2:Own H2 Y.o Y.ra Y.ga Lo' Y.nb (X.li+k') (X.lo+q')) (k2:∀b u,H1 b=some u→b≠Y.o→b≠Y.ga→H2 b=some u) :
  ∃ (X':MS) (Y':OS),Wk I cR cM HB p H2 X' Y'∧X'.m=X.m∧Y'.o=Y.o∧IsD H2 4 x y∧(∀b,MFp X' b→MFp X b)∧(∀b,ZU Y' b→ZU Y b)∧(∀b u,H b=some u→¬ MFp X b→¬ ZU Y b→H2 b=some u):=by
 obtain⟨ek,eq,pr13,hD13,fpe,owe,hstep⟩:=Zly W.pr hR M1 W1 ok1 k1 hT ow2 k2 2
 have kk:∀b u,H b=some u→¬ MFp X b→¬ ZU Y b→H2 b=some u:=fun b u hb n n'=>k2 b u (k1 b u hb n) (fun z=>n' (.inl z)) (fun z=>n' (.inr (.inr (.inl z))))
 refine⟨_,_,W.to hp pr13 W.nga W.nb ?_ (fun b hb=>.inl ((fpe b).mp hb)) (fun b hb=>.inl (owe b hb)) kk,rfl,rfl,hD13,fun b hb=>(fpe b).mp hb,owe,kk⟩
 rcases hstep with⟨_,e,_⟩|⟨u,z,_,eL⟩
 ·rw[show L'=X.L from e];exact W.inv
 ·show I (Z6 L') X.nb
  rw[eL];exact hI _ _ _ W.inv
theorem Wk.few(hI:∀P nb n,I P nb→I (Zbt P n) nb){H9 H10:Hp}(W:Wk I cR cM HB p H X Y)(hp:∃u,H p=some u){Lo':List Zx}{ts ts2:List Zc7}{k q k2 q2:Int}{L':List Zw}{s':StL}{w':Option Int}(ow9:Own H9 Y.o Y.ra Y.ga Lo' Y.nb (X.li+k) (X.lo+q))(htk:ZbI (Z6 X.L) ts (pur Lo') k q)(owe:∀b,ZU ⟨Y.o,Y.ra,Y.ga,Lo',Y.nb⟩ b↔ZU Y b)(k9:∀b u,H b=some u→¬ ZU Y b→H9 b=some u)
  (htk2:ZbI (Z6 X.L) ts2 (Z6 L') k2 q2) (hl:ts.length=ts2.length) (M10:ZP cR cM H10 X.m X.rd X.sd L' s' X.nb (X.li+k2) (X.lo+q2) (Zcg w')) (W10:Win (hdM L') (ZA L') w') (ok10:ZR (hdM L') s' (ZA L')) (fp10:∀b,Fp X.m X.rd X.sd L' b↔Fp X.m X.rd X.sd X.L b) (k10:∀b o,H9 b=some o→¬ Fp X.m X.rd X.sd X.L b→H10 b=some o) :
  ts=ts2∧∃ (X':MS) (Y':OS),Wk I cR cM HB p H10 X' Y'∧X'.m=X.m∧Y'.o=Y.o∧(∀b,MFp X' b→MFp X b)∧(∀b,ZU Y' b→ZU Y b)∧(∀b u,H b=some u→¬ MFp X b→¬ ZU Y b→H10 b=some u):=by
 obtain⟨ets,ePs,ek,eq⟩:=ZbI.one (Zev W.pr.mg) htk htk2 hl
 subst ek
 subst eq
 have kk:∀b u,H b=some u→¬ MFp X b→¬ ZU Y b→H10 b=some u:=fun b u hb n n'=>k10 b u (k9 b u hb n') n
 refine⟨ets,⟨X.m,X.rd,X.sd,L',s',X.nb,X.li+k,X.lo+q,w'⟩,⟨Y.o,Y.ra,Y.ga,Lo',Y.nb⟩,W.to hp ⟨⟨M10,W10,ok10⟩,ow9.keep fun b u hb ho'=>k10 b u hb fun z=>W.pr.sep b z ((owe b).mp ho'),ePs,fun b hb ho'=>W.pr.sep b ((fp10 b).mp hb) ((owe b).mp ho')⟩ W.nga W.nb (Zmj hI htk2 W.inv) (fun b hb=>.inl ((fp10 b).mp hb)) (fun b hb=>.inl ((owe b).mp hb)) kk,rfl,rfl,fun b hb=>(fp10 b).mp hb,fun b hb=>(owe b).mp hb,kk⟩
theorem Wk.put(W:Wk I cR cM HB p H X Y){r:Addr}{u v:HO}(hr:H r=some u)(ht:∀xs,u≠.tup xs)(nM:¬ MFp X r)(nO:¬ ZU Y r)(hB:HB r=none):Wk I cR cM HB p (upd H r v) X Y:=by
 refine⟨⟨W.pr.mg.keep fun b o hb hor=>?_,W.pr.ow.keep fun b o hb ho'=>?_,W.pr.ag,W.pr.sep⟩,W.nga,W.nb,W.inv,W.fM,W.fO,fun b o hb n=>?_⟩
 ·rw[Zc (fun z=>by
   rcases hor with y|⟨xs,rfl⟩
   ·rw[z]at y;exact nM y
   ·rw[z,hr]at hb;injection hb with hb;exact ht xs hb)]
  exact hb
 ·rw[Zc (fun z=>nO (by rw[← z];exact ho'))];exact hb
 ·rw[Zc (Zd hb hB)];exact W.but b o hb n
end
theorem ZqT{I:List ZY→Int→Prop}{cR cM:Addr}{HB H6 H7 H8:Hp}{p r o ra ga m rd sd:Addr}{rs:List (Addr×List Str)}{Lo:List Zx}{L:List Zw}{st:StL}{w0:Option Int}{k0 q0 k2 q2:Int}
  (hrsB:ZcS HB r rs) (hI:I (Zkv rs) (rs.length:Int)) (ho:HB o=none) (hra:HB ra=none) (hga:HB ga=none) (nga:ga≠ra) (hfr:∀e∈Lo,HB e.2.1=none∧e.2.1≠o)
  (hnewL:ZoS Lo rs) (ow:Own H6 o ra ga Lo (rs.length:Int) k0 q0) (hpl:ZbA (hdL Lo) 8 (Lo.map (·.1)) k0 q0) (s6:ZH HB H6) (hm:H6 m=none) (s7:ZH H6 H7) (M8:ZP cR cM H8 m rd sd L st (rs.length:Int) k2 q2 (Zcg w0)) (hnewM:Zof L rs) (W8:Win (hdM L) (ZA L) w0) (S8:ZeD (hdM L) st 8 (ZA L)) (P8:ZbA (hdM L) 8 (ZA L) k2 q2)
  (fp8:∀b,Fp m rd sd L b→b=m∨H7 b=none) (k8:∀b u,H7 b=some u→b≠m→H8 b=some u):∃ (X:MS) (Y:OS),Wk I cR cM HB p H8 X Y∧X.m=m∧Y.o=o:=by
 have s68:ZH H6 H8:=fun b o hb=>k8 b o (s7 b o hb) (Zd hb hm)
 have sB8:ZH HB H8:=s6.trans s68
 have ag:Agr Lo L:=Zo2 hnewL hnewM rfl
 obtain⟨e1,e2⟩:=hpl.one (by rw[Zhf ag,Zbb ag];exact P8)
 subst e1
 subst e2
 have ok8:=Zc0 8 (hdM L) st (ZA L) M8.up (Qy (show (ZA L).length≤60 by unfold ZA;rw[Qa];exact M8.few) (by decide)) (by decide) S8
 have eP:=ZmF hnewM
 have hLl:L.length=rs.length:=by have:=congrArg List.length hnewM.1;unfold ZA at this;rw[Qa,Zdf]at this;exact this
 refine⟨⟨m,rd,sd,L,st,(rs.length:Int),k0,q0,w0⟩,⟨o,ra,ga,Lo,(rs.length:Int)⟩,⟨⟨⟨M8,W8,ok8⟩,ow.same s68,ag,fun b hb ho'=>?_⟩,nga,rfl,?_,fun b hb=>?_,fun b hb=>?_,But.same sB8⟩,rfl,rfl⟩
 ·obtain⟨u,hu,_⟩:=ow.live ho'
  rcases fp8 b hb with z|z
  ·rw[z,hm]at hu;cases hu
  ·rw[s7 _ _ hu]at z;cases z
 ·show I (Z6 L) _
  rw[eP];exact hI
 ·rcases fp8 b hb with z|z
  ·rw[z];exact s6.free hm
  ·exact s6.free (s7.free z)
 ·rcases hb with z|z|z|⟨e',he',z⟩
  ·rw[z];exact ho
  ·rw[z];exact hra
  ·rw[z];exact hga
  ·rw[z];exact(hfr e' he').1
def ZkT(K:PySem.W.Frag):Sp:=fun vs H Q _=>∃ (a:Addr) (ns:List Int),vs=[.ref a]∧SqL K H a (ns.map V.int)∧ns.length≤63∧∀H',Q (.bl true) H'
def SA(cR cM a p r l:Addr)(ii:Int)(HB:Hp)(I:List ZY→Int→Prop)(bd:Int):L2.St→Hp→Prop:=fun σ H5=>∃ (X:MS) (Y:OS) (c:Int) (v7 v8 v9 v10 v11 v12 v13:Option V),σ=[some (.ref a),some (.int ii),some (.ref p),some (.ref r),some (.ref l),some (.ref Y.o),some (.ref X.m),v7,v8,v9,v10,v11,v12,v13]∧Wk I cR cM HB p H5 X Y∧Zaz H5 p c∧c≤bd
def SB(cR cM a p r l:Addr)(ii i:Int)(v9 v10 v11 v12 v13:Option V)(HB:Hp)(I:List ZY→Int→Prop)(c:Int):L2.St→Hp→Prop:=fun σ H5=>∃ (X:MS) (Y:OS) (v8:Option V),σ=[some (.ref a),some (.int ii),some (.ref p),some (.ref r),some (.ref l),some (.ref Y.o),some (.ref X.m),some (.int i),v8,v9,v10,v11,v12,v13]∧Wk I cR cM HB p H5 X Y∧Zaz H5 p c
def SC(cR cM a p r l:Addr)(ii n0:Int)(HB:Hp)(I:List ZY→Int→Prop)(bd:Int):L2.St→Hp→Prop:=fun σ H5=>∃ (X:MS) (Y:OS) (c:Int) (v7 v8 v10 v11 v12 v13:Option V),σ=[some (.ref a),some (.int ii),some (.ref p),some (.ref r),some (.ref l),some (.ref Y.o),some (.ref X.m),v7,v8,some (.int n0),v10,v11,v12,v13]∧Wk I cR cM HB p H5 X Y∧Zaz H5 p c∧c≤bd
def SD(cR cM a p r l B:Addr)(ii i:Int)(v8 v11 v12 v13:Option V)(HB:Hp)(I:List ZY→Int→Prop)(X:MS)(Y:OS)(c:Int):L2.St→Hp→Prop:=fun σ H5=>∃ (n1 c15:Int),σ=[some (.ref a),some (.int ii),some (.ref p),some (.ref r),some (.ref l),some (.ref Y.o),some (.ref X.m),some (.int i),v8,some (.int n1),some (.ref B),v11,v12,v13]∧(∃e∈Y.Lo,e.1=n1)∧Wk I cR cM HB p H5 X Y∧Zaz H5 p c15∧0≤c15∧c15≤c+5
def SE(cR cM a p r l B:Addr)(ii i n:Int)(v8 v13:Option V)(ls:Str)(m:Nat)(HB:Hp)(I:List ZY→Int→Prop)(X:MS)(Y:OS)(c:Int):L2.St→Hp→Prop:=fun σ H5=>∃ (kl:Addr) (ks:List Str),σ=[some (.ref a),some (.int ii),some (.ref p),some (.ref r),some (.ref l),some (.ref Y.o),some (.ref X.m),some (.int i),v8,some (.int n),some (.ref B),some (.str ls),some (.ref kl),v13]∧H5 kl=some (.lst (ks.map V.str))∧ks.length≤6∧sortedS ks=true∧(∀x∈ks,x.length≤28∧AZ x∧LeS ls x)∧(m≤50∨ks=[])∧kl≠p∧(¬ MFp X kl∧¬ ZU Y kl∧HB kl=none)∧Wk I cR cM HB p H5 X Y∧Zaz H5 p c
def SF(a p r l D:Addr)(ii:Int)(v7' v8' v9' v10' v11' v12' v13':Option V)(X:MS)(Y:OS)(H8:Hp):Nat→List V→L2.St→Hp→Prop:=fun i9 zs σ H9=>∃ (v:Option V) (Lo':List Zx) (us:List (Addr×Zc7)) (k q:Int),σ=[some (.ref a),some (.int ii),some (.ref p),some (.ref r),some (.ref l),some (.ref Y.o),some (.ref X.m),v7',v8',v9',v10',v11',v12',v13',v]∧zs=(us.map fun u=>V.ref u.1)∧(∀u∈us,u.1≠D∧H9 u.1=some (.tup [.int u.2.1,.int (u.2.2.1:Int),.str u.2.2.2]))∧Own H9 Y.o Y.ra Y.ga Lo' Y.nb (X.li+k) (X.lo+q)∧ZbI (pur Y.Lo) (us.map (·.2)) (pur Lo') k q∧us.length=i9∧H9 D=some (.lst zs)∧(∀b,ZU ⟨Y.o,Y.ra,Y.ga,Lo',Y.nb⟩ b↔ZU Y b)∧(∀b u,H8 b=some u→¬ ZU Y b→H9 b=some u)
theorem ZqF{f:Addr}{fd:FuncData}(F:Fun K "law" "law" Zca f fd)(T:Zai K mg cRow cMerge):ZeE P w K mg base CX0 18 f fd ["_law_script"] (ZkT K):=by
 have f_l_mix:Df P w K mg base 1 "_law_mix" ["_law_cell", "_law_k"] Zn4:=Zq7 T
 have f_l_left:Df P w K mg base 1 "_law_left" ["_law_script", "_law_k"] (Znt K):=ZoZ T
 have f_l_pick:Df P w K mg base 2 "_law_pick" ["_law_left_here", "_law_many_here"] Ze1:=Zpp T f_l_mix
 have f_l_stems:Df P w K mg base 3 "_law_stems" ["_law_left_here"] Zi2:=ZnX T f_l_pick
 have f_l_key:Df P w K mg base 3 "_law_key" ["_law_left_here", "_law_stems_here"] Zn6:=ZqI T f_l_pick
 have f_l_keys:Df P w K mg base 4 "_law_keys" ["_law_left_here", "_law_stems_here", "_law_most"] Zkp:=ZoP T f_l_pick f_l_key
 have f_l_many:Df P w K mg base 3 "_law_many" ["_law_left_here"] ZkI:=Zo6 T f_l_pick
 have f_l_row:Df P w K mg base 5 "_law_row" ["_law_left_here", "_law_stems_here", "_law_most"] ZkN:=ZoW T f_l_keys
 have f_l_rows:Df P w K mg base 6 "_law_rows" ["_law_left_here"] Zk6:=ZmE T f_l_pick f_l_stems f_l_many f_l_row
 have f_l_same:Df P w K mg base 5 "_law_same" ["_law_found", "_law_due"] (Ziw 4):=Zlm T 4
 have f_alike_from:Df P w K mg base 1 "alike_from" ["one", "other", "far"] ZcC:=Zhr T
 have f_alike:Df P w K mg base 2 "alike" ["one", "other"] ZcL:=Zmy T f_alike_from
 have f_order_at:Df P w K mg base 1 "order_at" ["one", "other", "at"] Zgk:=ZmX T
 have f_liken:Df P w K mg base 3 "liken" ["one", "other"] Zir:=Zm2 T f_alike f_order_at
 have f_liken_from:Df P w K mg base 2 "liken_from" ["one", "other", "far"] Zee:=Zhq T f_alike_from f_order_at
 have f_first_break:Df P w K mg base 4 "first_break" ["keys"] (ZnK K):=Zob T f_liken
 have f_refuse_break:Df P w K mg base 5 "refuse_break" ["number", "keys"] (Zej K):=ZlG T f_first_break
 have f_alikes:Df P w K mg base 3 "alikes" ["row"] (Zfi K):=Zmr T f_alike
 have f_halves:Df P w K mg base 1 "halves" ["numbers"] (Zb8 K true):=ZlE T
 have f_Row_to_go:=ZoR T (P:=P) (w:=w) (base:=base)
 have f_Row_head:=Zov T f_Row_to_go
 have f_Row_init:=Zku T f_alikes
 have f_Merge_meet:=Zpe T f_Row_head f_liken_from
 have f_Merge_play:=Zli T f_Row_head f_halves f_Merge_meet 8
 have f_Merge_play_all:=Zi8 T f_Merge_play
 have f_Merge_init:=Zhm T f_refuse_break f_Row_init f_Merge_play_all
 have f_Merge_coming:=ZlW T f_Row_head
 have f_Merge_left:=Zm0 T f_Row_to_go
 have f_Merge_heads:=ZlN T f_Row_head
 have f_Merge_likenings:=Zi1 T (P:=P) (w:=w) (base:=base)
 have f_Merge_looks:=ZnG T (P:=P) (w:=w) (base:=base)
 have f_l_alike:Df P w K mg base 1 "_law_alike" ["_law_one", "_law_other"] ZcL:=Zkn T
 have f_l_halves:Df P w K mg base 1 "_law_halves" ["_law_numbers"] (Zb8 K false):=ZjU T
 have f_l_least:=Zmc T (P:=P) (w:=w) (base:=base)
 have f_l_heads:=ZlZ T (P:=P) (w:=w) (base:=base)
 have f_l_first_play:=Zp4 T f_l_halves f_l_least f_l_alike 8
 have f_l_play:=Zny T f_l_heads f_l_first_play
 have f_l_coming:=Zj9 T f_l_heads f_l_least
 have f_l_left_of:=Znb T (P:=P) (w:=w) (base:=base)
 have f_l_world:=Zmh T f_l_play
 have f_l_stands:=ZlB T f_l_heads f_l_same f_l_coming f_l_left_of f_Merge_likenings f_Merge_looks f_Merge_coming f_Merge_left f_Merge_heads
 have f_way_up:Df P w K mg base 2 "way_up" ["numbers", "n"] ZmV:=Zq3 T f_halves
 have f_matches_up:=Zkl T f_way_up
 have f_Merge_play_again:=Znl T f_Merge_meet
 have f_Merge_send_out:=Zpw T f_Row_head f_matches_up f_Merge_play_again
 have f_Merge_take:=ZpC T f_Merge_coming f_Merge_send_out
 have f_Merge_take_few:=ZqN T f_Merge_take
 have f_Merge_add_row:=Zkm T f_refuse_break f_Row_init f_Merge_play_all
 have f_Merge_row_of:=ZlL T (P:=P) (w:=w) (base:=base)
 have f_Merge_drop_row:=ZjR T f_Row_to_go f_Merge_row_of f_Merge_play_all
 have f_Row_lengthen:=ZjM T f_alikes
 have f_Merge_grow:=ZoE T f_Merge_row_of f_refuse_break f_Row_head f_Row_lengthen f_Merge_play_all
 have f_l_way:=Zpa T f_l_halves
 have f_l_taken:=ZlK T f_l_coming f_l_heads f_l_way f_l_least f_l_alike
 have f_l_done:=ZnE T f_l_same f_l_play f_Merge_add_row f_Merge_drop_row f_Merge_grow
 refine F.ok ZaR (fun vs H Q E h=>?_) (fun cdv A outer s H vs Q E hr h=>?_)
 ·obtain⟨a,ns,rfl,_⟩:=h
  rfl
 obtain⟨a,sc,rfl,hS,h63,q⟩:=h
 refine⟨_,#[Zf,#[ZbK,PassesOwn.never,#[Zbi,T.b.n_range,#[Za,#[ZE,Zah,#[Zi],#[Zk,(Zb1 K),(by rfl),T.b.n_len,Qs,#[Za,#[ZdX,(slL K),‹0›,(@ZdD _),(@Zeu _ _ _ #[Zi])],#[Ze]]]],#[Ze]]],#[ZD,1,ZaR.nd,(Or.inl rfl)],#[Zf,#[Zy,2,ZaR.nd,(Or.inl rfl),#[Zv,f_l_left,hr,#[Za,‹0›,#[Za,‹1›,#[Ze]]],(by rfl)]],#[Zf,#[ZfI,3,4,ZaR.nd,#[Za,#[Zv,f_l_rows,hr,#[Za,‹2›,#[Ze]],(by rfl)],#[Za,#[Zv,f_l_stems,hr,#[Za,‹2›,#[Ze]],(by rfl)],#[Ze]]]],(@ZdG _ _ _ _ _ #[Z4,#[ZaC,#[Za,#[Zv,f_l_world,hr,#[Za,‹3›,#[Ze]],(by rfl)],#[Za,#[Zn2,f_Merge_init,hr,#[Za,‹3›,#[Ze]]],#[Ze]]]],#[gT,K,2,#[ZC,#[ZD,5,ZaR.nd,(Or.inr rfl)],#[ZC,#[ZD,6,ZaR.nd,(Or.inl rfl)],(@ZaF _)]]]] (@ZdG _ _ _ _ _ #[ZbK,PassesOwn.never,#[Zbi,T.b.n_range,#[Za,#[ZE,ZdT,#[Zi],#[ZaT,Zft,T.b.n_int,boot_int,#[Za,#[Za5,#[neD,K,hr],‹3›,#[Zab,#[Ze]],(Zs _)],#[Ze]]]],#[Ze]]],#[ZD,7,ZaR.nd,(Or.inl rfl)],(@ZdG _ _ _ _ _ #[ZbK,PassesOwn.never,#[Zbi,T.b.n_range,#[Za,#[Zv,f_l_pick,hr,#[Za,‹2›,#[Za,#[Zi],#[Ze]]],(by rfl)],#[Ze]]],#[ZD,8,ZaR.nd,(Or.inl rfl)],#[Zj,#[Z3,#[Zd4,#[ZbP,#[Zv,f_l_same,hr,#[Za,#[Zav,f_Merge_take,T.cl_Merge,hr,‹6›],#[Za,#[Zv,f_l_taken,hr,#[Za,#[pv,5,(Or.inr (Or.inl rfl))],#[Ze]],(by rfl)],#[Ze]]],(by rfl)]]],#[Zj,#[Zr,#[Zf1]]],#[ZF]]]] #[Zf,#[Zy,9,ZaR.nd,(Or.inl rfl),#[Zv,f_l_pick,hr,#[Za,‹2›,#[Za,#[Zk,(Zb1 K),(by rfl),T.b.n_len,Qs,#[Za,‹3›,#[Ze]]],#[Ze]]],(by rfl)]],#[Zf,(@ZoH _ _ _ #[ZdC,10,ZaR.nd,ZjK,(@Zk9 _ _ _ _ #[Zm,(ixG hr),#[pv,5,(Or.inr (Or.inl rfl))],#[Zz]]),(fun _ _ _ _=>#[cg,14,ZjK]),(fun _ _ _ _=>(@ZiR _ _ _ #[Zo,Za7,#[Zm,(ixG hr),#[Zm,(ixG hr),#[cv,5,ZjK],#[Zz]],#[cw,14,ZjK]],#[Zk,(Zb1 K),(ZbJ ZjK rfl (by ac_rfl)),T.b.n_len,Qs,#[Za,#[Zm,(ixG hr),#[Zm,(ixG hr),#[cv,5,ZjK],#[Zz]],#[cw,14,ZjK]],#[Ze]]],(Zs _)])),(fun _ _ _ _=>#[cw,14,ZjK])]),(@ZdG _ _ _ _ _ #[Z3,(@PW.pt _ _ _ #[ZbQ,#[Zo,#[neD,K,hr],‹10›,#[Zab,#[Ze]],(Zs _)],#[ZbH,#[Zo,Za7,#[Zv,f_l_pick,hr,#[Za,‹2›,#[Za,#[Zi],#[Ze]]],(by rfl)],#[Zi],(Zs _)]]]),#[Zj,#[Zy,9,ZaR.nd,(Or.inl rfl),#[Zm,(ixL K),‹10›,#[Zv,f_l_pick,hr,#[Za,‹2›,#[Za,#[Zk,(Zb1 K),(by rfl),T.b.n_len,Qs,#[Za,‹10›,#[Ze]]],#[Ze]]],(by rfl)]]]],#[ZF]] #[Zf,#[Zy,11,ZaR.nd,(Or.inr rfl),#[Zm,(ixL K),#[ZE,ZcT,#[Zab,#[Za,#[Zz],#[Ze]]],#[Zm,(ixG hr),#[Zm,(ixG hr),#[pv,5,(Or.inr (Or.inl rfl))],#[Zz]],‹9›]],#[Zg1,ZeU,#[Zi]]]],#[Zf,#[Zy,12,ZaR.nd,(Or.inl rfl),#[ZE,ZcT,#[ZE,ZcT,#[Zv,f_l_row,hr,#[Za,‹2›,#[Za,‹4›,#[Za,#[Zi],#[Ze]]]],(by rfl)],#[ZE,ZiU,#[Zab,#[Za,#[Zz],#[Ze]]],#[Zv,f_l_pick,hr,#[Za,‹2›,#[Za,#[Zi],#[Ze]]],(by rfl)]]],#[ZE,ZiU,#[Zab,#[Za,#[pv,11,(Or.inr (Or.inl rfl))],#[Ze]]],#[Zv,f_l_pick,hr,#[Za,‹2›,#[Za,#[Zi],#[Ze]]],(by rfl)]]]],#[Zf,#[ZdC,12,ZaR.nd,ZnI,#[iL,K,#[Zk,(ZrE K),(by rfl),T.b.n_sorted,boot_sorted,#[Za,‹12›,#[Ze]]]],(fun _ _ _ _=>#[cg,14,ZnI]),(fun _ _ _ _=>(@ZiR _ _ _ #[Zo,ZlS,#[cw,14,ZnI],#[cv,11,ZnI],(Zs _)])),(fun _ _ _ _=>#[cw,14,ZnI])],(@ZdG _ _ _ _ _ #[Z3,#[Zo,ZfZ,#[Zk,(Zb1 K),(by rfl),T.b.n_len,Qs,#[Za,#[Zm,(ixG hr),#[Zm,(ixG hr),#[pv,5,(Or.inr (Or.inl rfl))],#[Zz]],‹9›],#[Ze]]],#[Zi],(Zs _)],#[Zj,#[Zy,12,ZaR.nd,(Or.inl rfl),#[Zab,#[Ze]]]],#[ZF]] #[Zf,#[Z3,#[Zd4,#[ZbP,#[Zv,f_l_done,hr,#[Za,‹6›,#[Za,#[pv,5,(Or.inr (Or.inl rfl))],#[Za,#[ZaC,#[Za,#[Zz],#[Za,‹9›,#[Za,‹12›,#[Ze]]]]],#[Ze]]]],(by rfl)]]],#[Zj,#[Zr,#[Zf1]]],#[ZF]],#[Zf,#[Z8,#[ZdJ,QL,QT,QU,Zbk,‹12›,#[Za,#[Zz],#[Ze]]]],#[Zf,#[Z8,(@Zm8 _ _ _ _ _ _ _ _ _ QL PySem.F.slot_list_reverse PySem.F.type_list_reverse ZgZ ‹12› (by rfl) (by rfl))],#[Zj,#[Z3,#[Zd4,#[ZbP,#[Zv,f_l_stands,hr,#[Za,‹6›,#[Za,#[pv,5,(Or.inr (Or.inl rfl))],#[Ze]]],(by rfl)]]],#[Zj,#[Zr,#[Zf1]]],#[ZF]]]]]])]]])]])] #[Zf,#[Zy,9,ZaR.nd,(Or.inl rfl),#[Zv,f_l_pick,hr,#[Za,‹2›,#[Za,#[Zk,(Zh0 rfl),(by rfl),T.b.n_max,boot_max,#[Za,#[Zi],#[Za,#[Zk,(Zb1 K),(by rfl),T.b.n_len,Qs,#[Za,‹3›,#[Ze]]],#[Ze]]]],#[Ze]]],(by rfl)]],(@ZdG _ _ _ _ _ #[ZbK,PassesOwn.never,#[Zbi,T.b.n_range,#[Za,#[ZE,ZdT,#[Zi],#[ZaT,Zft,T.b.n_int,boot_int,#[Za,#[ZdS,#[Za5,#[neD,K,hr],‹3›,#[Zab,#[Ze]],(Zs _)],#[ZeT,#[Za5,Za7,#[Zv,f_l_pick,hr,#[Za,‹2›,#[Za,#[Zi],#[Ze]]],(by rfl)],#[Zi],(Zs _)]]],#[Ze]]]],#[Ze]]],#[ZD,7,ZaR.nd,(Or.inl rfl)],#[Zf,#[Zy,11,ZaR.nd,(Or.inr rfl),#[Zm,(ixL K),#[ZE,ZcT,#[Zab,#[Za,#[Zz],#[Ze]]],#[Zm,(ixG hr),#[Zm,(ixG hr),#[pv,5,(Or.inr (Or.inl rfl))],#[Zz]],‹9›]],#[Zg1,ZeU,#[Zi]]]],#[Zf,#[Zy,12,ZaR.nd,(Or.inl rfl),#[ZE,ZcT,#[ZE,ZiU,#[Zab,#[Za,#[pv,11,(Or.inr (Or.inl rfl))],#[Ze]]],#[Zi]],#[ZE,ZiU,#[Zab,#[Za,#[ZE,Zg2,#[pv,11,(Or.inr (Or.inl rfl))],#[Zm,Zem,#[Zz],#[ZE,ZeQ,‹7›,#[Zi]]]],#[Ze]]],#[Zi]]]],#[Zj,#[Z3,(@PW.pt _ _ _ #[Zig,#[Zd4,#[ZbP,#[Zv,f_l_done,hr,#[Za,‹6›,#[Za,#[pv,5,(Or.inr (Or.inl rfl))],#[Za,#[ZaC,#[Za,#[Zz],#[Za,‹9›,#[Za,‹12›,#[Ze]]]]],#[Ze]]]],(by rfl)]]],(@ZfN _ _ _ _ #[Zd4,#[ZbP,#[Zv,f_l_stands,hr,#[Za,‹6›,#[Za,#[pv,5,(Or.inr (Or.inl rfl))],#[Ze]]],(by rfl)]]])]),#[Zj,#[Zr,#[Zf1]]],#[ZF]]]]]] #[Zf,#[ZdC,13,ZaR.nd,Zk2,#[Zbi,T.b.n_range,#[Za,#[Zv,f_l_left_of,hr,#[Za,#[pv,5,(Or.inr (Or.inl rfl))],#[Ze]],(by rfl)],#[Ze]]],(fun _ _ _ _=>#[cg,14,Zk2]),(fun _ _ _ _=>(@ZcD _)),(fun _ _ _ _=>#[Zv,f_l_taken,hr,#[Za,#[cv,5,Zk2],#[Ze]],(ZbJ Zk2 rfl (by ac_rfl))])],#[Zj,#[Z3,(@PW.pt _ _ _ #[Zig,#[Zd4,#[ZbP,#[Zv,f_l_same,hr,#[Za,#[ZcG,f_Merge_take_few,T.cl_Merge,hr,‹6›,#[Za,#[ZE,ZnV,#[Zi],#[Zi]],#[Ze]]],#[Za,‹13›,#[Ze]]],(by rfl)]]],(@ZfN _ _ _ _ #[Zd4,#[ZbP,#[Zv,f_l_stands,hr,#[Za,‹6›,#[Za,#[pv,5,(Or.inr (Or.inl rfl))],#[Ze]]],(by rfl)]]])]),#[Zj,#[Zr,#[Zf1]]],#[ZF]]]])]))]]],#[Zj,#[Zr,#[Zf1]]]],?_⟩
 have hcl:=ZfY (sc.map V.int) none (some 1)
 have hlen:(sc.map V.int).length=sc.length:=by rw[Qa]
 have sz2:2≤sizeLine:=by decide
 refine⟨_,rfl,_,rfl,a,_,rfl,hS,fun e he=>⟨e,_,rfl,.inl (SqL.of Zb),_,_,rfl,rfl,_,rfl,by omega,by omega,?_⟩⟩
 have s1:ZH H (upd H e (.lst (Zhi (sc.map V.int) none (some 1)))):=Zh he _
 refine ZbR (fun i σ H2=>∃v1 v2 v3 v4 v5 v6 v7 v8 v9 v10 v11 v12 v13:Option V,σ=[some (.ref a),v1,v2,v3,v4,v5,v6,v7,v8,v9,v10,v11,v12,v13]∧ZH H H2) (ZrQ _ _ _ _ _ _ _ _ _ _ _ _ _ ⟨rfl,s1⟩) ?_ ?_
 ·rintro ii σ H2 hi ⟨v1,v2,v3,v4,v5,v6,v7,v8,v9,v10,v11,v12,v13,rfl,s2⟩
  have hi8:(ii:Int)<65:=by omega
  refine⟨_,rfl,_,rfl,a,sc,_,rfl,s2.seq hS,h63,by omega,by omega,fun p H3 hp L3 s3=>?_⟩
  have nHp:H p=none:=s2.free hp
  refine⟨_,rfl,p,0,rfl,L3,by decide,fun r rs c4 H4 hr0 hrs hxs h12 L4 a1 a2 B4=>?_⟩
  refine⟨_,rfl,p,c4,rfl,L4,by omega,fun l ss c5 HB hl0 hl h1 h4 hss LB b1 b2 BB=>?_⟩
  have nrp:r≠p:=by obtain⟨o,ho⟩:=L3.here;exact(Zd ho hr0).symm
  have nlp:l≠p:=by obtain⟨o,ho⟩:=L4.here;exact(Zd ho hl0).symm
  have hsrt:∀x∈rs,sortedS x.2=true:=fun x hx=>(hxs x hx).2.2.2.1
  have hrsB:ZcS HB r rs:=⟨BB _ _ hrs.at' nrp,hrs.few,fun x hx=>let ⟨g1,g2⟩:=hrs.lst x hx;⟨BB _ _ g1 (hxs x hx).2.2.1,g2⟩⟩
  have sHB:ZH H HB:=fun b o hb=>BB b o (B4 b o (s3 b o (s2 b o hb)) (Zd hb nHp)) (Zd hb nHp)
  have hpB:∃u,HB p=some u:=LB.here
  have hc5:0≤c5∧c5≤20000:=by omega
  clear a1 a2 b1 b2 hi hcl hlen hi8 h63
  refine⟨_,_,rfl,?_⟩
  obtain⟨rl,hrl⟩:∃rl,rl=rs.length:=⟨_,rfl⟩
  refine⟨fun σ H9=>∃ (X:MS) (Y:OS),σ=[some (.ref a),some (.int (0+(ii:Int))),some (.ref p),some (.ref r),some (.ref l),some (.ref Y.o),some (.ref X.m),v7,v8,v9,v10,v11,v12,v13]∧Wk (Zb9 rl 60 28 720) cRow cMerge HB p H9 X Y∧Zaz H9 p c5,?_,?_⟩
  ·refine⟨_,rfl,r,rs,rfl,hrsB,fun o ra ga Lo k0 q0 H6 ho hra hga nga hfr hnewL ow hpl s6=>?_⟩
   refine⟨_,rfl,fun m dx hm hdx nmd=>?_⟩
   have s7:ZH H6 (upd (upd H6 dx (.own m)) m (.ins cMerge dx [])):=fun b o hb=>by rw[Zc (Zd hb hm),Zc (Zd hb hdx)];exact hb
   have hm7:(upd (upd H6 dx (.own m)) m (.ins cMerge dx [])) m=some (.ins cMerge dx []):=Zb
   generalize upd (upd H6 dx (.own m)) m (.ins cMerge dx [])=H7 at s7 hm7 ⊢
   refine(xw4 m dx r rs ⟨rfl,hm7,(hrsB.same s6).same s7,hsrt,fun rd sd L st w0 k2 q2 H8 M8 hnewM W8 S8 P8 fp8 k8=>⟨rfl,sz2,fun t ht=>⟨t,_,rfl,SqT.of Zb,rfl,_,_,rfl,_,_,rfl,rfl,?_⟩⟩⟩)
   have W8':∃ (X:MS) (Y:OS),Wk (Zb9 rl 60 28 720) cRow cMerge HB p H8 X Y∧X.m=m∧Y.o=o:=ZqT hrsB (by rw[hrl];exact Znq h12 fun x hx=>⟨(hxs x hx).2.2.2.2.1,(hxs x hx).2.2.2.2.2⟩) ho hra hga nga hfr hnewL ow hpl s6 hm s7 M8 hnewM W8 S8 P8 fp8 k8
   obtain⟨X8,Y8,W8,rfl,rfl⟩:=W8'
   have st8:=Zh ht (.tup [.ref Y8.o,.ref X8.m])
   have W9:=W8.same st8
   generalize upd H8 t (.tup [.ref Y8.o,.ref X8.m])=H9 at st8 W9 ⊢
   have L9:Zaz H9 p c5:=by
    obtain⟨g1,g2,hp',c0⟩:=LB
    exact⟨g1,g2,st8 _ _ (k8 _ _ (s7 _ _ (s6 _ _ hp')) (fun z=>by rw[z]at hp';rw[s6 _ _ hp']at hm;cases hm)),c0⟩
   exact⟨X8,Y8,rfl,W9,L9⟩
  rintro σ H9 ⟨X8,Y8,rfl,W9,L9⟩
  have rowsB:∀ {H':Hp},But p HB H'→ZcS H' r rs:=fun {H'} B=>⟨B _ _ hrsB.at' nrp,hrsB.few,fun x hx=>let ⟨g1,g2⟩:=hrsB.lst x hx;⟨B _ _ g1 (hxs x hx).2.2.1,g2⟩⟩
  have azr:∀x∈rs,∀s∈x.2,AZ s:=fun x hx s hs=>((hrsB.lst x hx).2.2 s hs).2
  have ev0:PyData.eqv (ZeI rs) (.list [])=decide (rs=[]):=by
   unfold ZeI
   cases rs with
   | nil=>simp[PyData.eqv,PyData.eqvAll]
   | cons a r=>simp[PyData.eqv,PyData.eqvAll]
  refine⟨SA cRow cMerge a p r l (0+(ii:Int)) HB (Zb9 rl 60 28 780) (c5+8000),?_,?_⟩
  rotate_left
  ·rintro σ H5 ⟨X,Y,c,v7',v8',v9',v10',v11',v12',v13',rfl,W,L5,hc⟩
   have hlr:(((rs.map fun x=>V.ref x.1).length:Nat):Int)=(rl:Int):=by rw[Qa,hrl]
   have h12':rl≤12:=by rw[hrl];exact h12
   have c0:=L5.ge
   refine⟨_,rfl,_,rfl,r,_,rfl,.inl (SqL.of (rowsB W.but).at'),_,_,rfl,p,c,_,rfl,L5,by omega,by split<;>omega,by split<;>omega,fun n0 H6 n00 n01 L6 B6=>?_⟩
   have W6:=W.draw hpB L5 B6
   have hn01:0<rl→n0<(rl:Int):=fun h=>by split at n01<;>omega
   clear n01
   refine⟨SA cRow cMerge a p r l (0+(ii:Int)) HB (Zb9 rl 120 40 840) (c5+9000),?_,?_⟩
   ·refine⟨_,rfl,(by show 0≤sizeLine;decide),fun z hz=>?_⟩
    have sz:=Zh hz (.lst [])
    refine⟨ZeI rs,.list [],Zls (rowsB (W6.same sz).but),.lst (SqL.of Zb) .nil,Zf3 rs azr,(by ac_rfl),_,rfl,?_⟩
    rw[if_pos rfl,ev0]
    have W7:=W6.same sz
    have L7:=L6.same sz
    by_cases h0:rs=[]
    ·refine Zeh h0 (.inr ⟨_,rfl,_,_,rfl,rfl,.inl ⟨by decide,by decide⟩,0,rfl,by omega,by omega,?_⟩)
     refine ZbR (fun _=>SA cRow cMerge a p r l (0+(ii:Int)) HB (Zb9 rl 120 40 840) (c5+9000)) (Zl7 X Y _ _ _ _ _ _ _ _ ⟨rfl,W7.imp fun h=>ZcZ h (by omega) (by omega) (by omega),L7,by omega⟩) ?_ ?_
     ·rintro i σ H5 hi _
      omega
     ·rintro σ H5 h
      exact h
    refine ZgH h0 ?_
    have hrl0:0<rl:=by rw[hrl];exact List.length_pos_iff.mpr h0
    refine⟨_,rfl,p,c+1,_,rfl,L7,by omega,by decide,by decide,fun pk H8 pk0 pk4 L8 B8=>⟨rfl,.inr ⟨_,rfl,_,_,rfl,rfl,.inl ⟨by decide,by decide⟩,?_⟩⟩⟩
    have W8:=W7.draw hpB L7 B8
    obtain⟨N1,hN1,hN2⟩:∃N1:Int,(6:Int)*(if decide (V.int pk=V.int 0)=true then 1 else 0)=N1∧0≤N1∧N1≤6:=by
     by_cases h0:V.int pk=V.int 0
     ·rw[decide_eq_true h0];exact⟨6,rfl,by omega,by omega⟩
     ·rw[decide_eq_false h0];exact⟨0,rfl,by omega,by omega⟩
    refine⟨N1,congrArg (fun x=>[V.int x]) hN1,by omega,by omega,?_⟩
    refine ZbR (fun i=>SC cRow cMerge a p r l (0+(ii:Int)) n0 HB (Zb9 rl (60+10*i) (28+i) (780+10*i)) (c5+9000)) (xw9 X Y _ _ _ _ _ _ _ ⟨rfl,W8,L8,by omega⟩) ?_ ?_
    ·rintro i σ H6' hi' ⟨X,Y,c',v7',v8',v10',v11',v12',v13',rfl,W6,L6,hc6⟩
     have hi6:i<6:=by omega
     clear hi' hN1 hN2 pk0 pk4
     have ow6:=W6.pr.ow
     obtain⟨e,he,hen⟩:∃e∈Y.Lo,e.1=n0:=by
      obtain⟨x,hx,rfl⟩:=Zjt W6.inv n00 (hn01 hrl0)
      rw[← Zex W6.pr.ag]at hx
      obtain⟨e,he,rfl⟩:=Qo.mp hx
      exact⟨e,he,rfl⟩
     subst hen
     have hvR:Z1 (kvR Y.Lo) (.inl e.1)=some (.ref e.2.1):=Zef ow6.nd he
     obtain⟨lo6,l200,lg,laz⟩:=ow6.lst e he
     have heP:(e.1,e.2.2)∈Z6 X.L:=by rw[← Zex W6.pr.ag];exact Qd (f:=fun e:Zx=>(e.1,e.2.2)) he
     have hinv:=W6.inv.2.2.2.2 _ heP
     have hsrtE:sortedS e.2.2.1=true:=by
      obtain⟨e',he',z⟩:=Qo.mp heP
      injection z with _ z
      rw[← z];exact(W6.pr.mg.M.each e' he').srt
     obtain⟨ls,hls⟩:∃z,z=ZhM e.2.2.1:=⟨_,rfl⟩
     have hlsm:ls∈([""]:List Str)++e.2.2.1:=by rw[hls];exact List.getLast_mem _
     have hlsp:ls.length≤28+i∧AZ ls:=by
      rcases Qk.mp hlsm with h|h
      ·rw[Qp.mp h];exact⟨Qv _,AZ.nil⟩
      ·exact⟨hinv.2 ls h,(laz ls h).2⟩
     refine Zjx (i:=5) (j:=9) ow6 he rfl rfl fun Hs sd=>?_
     rw[← hls]
     have W7:=W6.same sd
     have L7:=L6.same sd
     refine⟨_,rfl,(by show 1≤sizeLine;decide),fun z1 hz1=>?_⟩
     have s1':=Zh hz1 (.lst [V.str ls])
     refine⟨z1,5,_,rfl,rfl,Zb,by decide,by decide,(by show 1*5≤sizeLine;decide),fun z2 hz2=>?_⟩
     rw[Ze8]
     have s2':=s1'.trans (Zh hz2 (.lst ((List.replicate (5:Int).toNat ls).map V.str)))
     have hm0:(0:Int)≤(0+(i:Int)) % 2:=QaM _ (by decide)
     have hm1:(0+(i:Int)) % 2<((("ab" : Str)).length:Int):=Qas _ (by decide)
     obtain⟨ch,hcm,hch⟩:=ZcN (z := "ab") hm0 hm1
     have hchz:AZ ⟨#[ch]⟩:=AZ.one (z := "ab") (by unfold AZ cds;ac_rfl) hcm
     refine⟨_,rfl,_,rfl,_,_,rfl,rfl,(by show (0:Int)<2;decide),_,_,_,rfl,rfl,(by ac_rfl),hch,_,_,rfl,rfl,(by show ls.length+1≤sizeLine;exact Zbg (by omega)),(by show 1≤sizeLine;decide),fun z3 hz3=>?_⟩
     obtain⟨l2,hl2⟩:∃l2,l2=ls++(⟨#[ch]⟩:Str):=⟨_,rfl⟩
     have s3':=s2'.trans (Zh hz3 (.lst [V.str (ls++(⟨#[ch]⟩:Str))]))
     refine⟨z3,5,_,rfl,rfl,Zb,by decide,by decide,(by show 1*5≤sizeLine;decide),fun z4 hz4=>?_⟩
     rw[Ze8]
     have s4':=s3'.trans (Zh hz4 (.lst ((List.replicate (5:Int).toNat (ls++(⟨#[ch]⟩:Str))).map V.str)))
     refine⟨z2,z4,_,_,rfl,rfl,Zh hz4 _ _ _ (Zh hz3 _ _ _ Zb),Zb,(by show 10≤sizeLine;decide),fun kl hkl0=>?_⟩
     rw[← Qe]
     obtain⟨ks,hks⟩:∃ks,ks=List.replicate (5:Int).toNat ls++List.replicate (5:Int).toNat (ls++(⟨#[ch]⟩:Str)):=⟨_,rfl⟩
     rw[← hks]
     rw[← hl2]at hks
     have ksl:ks.length=10:=by rw[hks,Qf,QM,QM];rfl
     have l2l:l2.length≤28+(i+1)∧AZ l2:=by
      rw[hl2,PySem.Str.length_append]
      exact⟨by show ls.length+1≤_;omega,hlsp.2.app hchz⟩
     have hle2:LeS ls l2:=by rw[hl2];exact LeS.app _ _
     have hrf:∀x:Str,LeS x x:=fun x=>List.not_lt.mpr (List.le_refl _)
     have ksp:∀x∈ks,x.length≤28+(i+1)∧AZ x∧LeS ls x:=fun x hx=>by
      rw[hks]at hx
      rcases Qk.mp hx with hx|hx
      ·rw[QS hx];exact⟨by omega,hlsp.2,hrf ls⟩
      ·rw[QS hx];exact⟨l2l.1,l2l.2,hle2⟩
     have kss:sortedS ks=true:=by
      rw[Zgp,hks]
      refine QaB.mpr ⟨List.pairwise_replicate.mpr (.inr (hrf ls)),List.pairwise_replicate.mpr (.inr (hrf l2)),fun x hx y hy=>?_⟩
      rw[QS hx,QS hy];exact hle2
     have W8:=W7.same s4'
     have L8:=L7.same s4'
     have nklp:kl≠p:=by obtain⟨u,hu⟩:=L8.here;exact(Zd hu hkl0).symm
     have nMk:¬ MFp X kl:=W8.pr.mg.M.fp_fresh hkl0
     have nOk:¬ ZU Y kl:=fun y=>by obtain⟨u,hu,_⟩:=W8.pr.ow.live y;rw[hkl0]at hu;cases hu
     have s5':=Zh hkl0 (.lst (ks.map V.str))
     have W9:=W8.same s5'
     have L9:=L8.same s5'
     refine⟨_,rfl,_,rfl,_,rfl,_,rfl,(by show 3≤sizeLine;decide),fun t' ht'=>?_⟩
     have st':=Zh ht' (.tup [.str "grow",.int e.1,.ref kl])
     have W28:=W9.same st'
     have L28:=L9.same st'
     have hkl28:=st' _ _ (show (upd _ kl (.lst (ks.map V.str))) kl=some (.lst (ks.map V.str)) from Zb)
     refine⟨X,Y,t',kl,.grow,e.1,ks,rfl,W28.pr,W28.nga,W28.nb,Zb,hkl28,nMk,nOk,fun x hx=>⟨by have:=(ksp x hx).1;omega,(ksp x hx).2.1⟩,by omega,⟨_,heP,rfl,Zgv hsrtE kss (fun x hx=>by show LeS (ZhM e.2.2.1) x;rw[← hls];exact(ksp x hx).2.2),by rw[Qf];have:=hinv.1;show e.2.2.1.length+ks.length≤_;have h':e.2.2.1.length≤60+10*i:=hinv.1;omega⟩,fun X' Y' H29 pr29 eM eO nga' nb' nbe pure' fM fO kk'=>⟨_,rfl,Zbr ?_⟩⟩
     have W29:Wk (Zb9 rl (60+10*(i+1)) (28+(i+1)) (780+10*(i+1))) cRow cMerge HB p H29 X' Y':=(W28.imp (J:=Zb9 rl (60+10*(i+1)) (28+(i+1)) (780+10*(i+1))) fun h=>ZcZ h (by omega) (by omega) (by omega)).to L28.here pr29 nga' nb' (by
      rw[pure',nbe]
      refine Zim (Zev W28.pr.mg) W28.inv (by omega) (by omega) (by omega) (fun x hx hn=>?_) (fun s hs=>(ksp s hs).1)
      have ex:x=(e.1,e.2.2):=ZbD (Zev W28.pr.mg) hx heP hn
      have h':e.2.2.1.length≤60+10*i:=hinv.1
      rw[ex,Qf];show e.2.2.1.length+ks.length≤_;omega) fM fO kk'
     have L29:=W28.left hpB L28 kk'
     rw[← eM,← eO]
     refine⟨_,rfl,_,rfl,Zp9 X'.m X'.rd X'.sd X'.L X'.s X'.nb X'.li X'.lo X'.w Y'.o Y'.ra Y'.ga Y'.Lo Y'.nb ⟨rfl,W29.pr.mg.M,W29.pr.mg.W,W29.pr.ow,W29.pr.ag,fun H31 s31=>⟨_,rfl,Zbr ?_⟩⟩⟩
     exact⟨X',Y',xw7 c' _ _ _ _ _ _ ⟨rfl,W29.same s31,L29.same s31,hc6⟩⟩
    ·rintro σ H5 ⟨X,Y,c',v7',v8',v10',v11',v12',v13',rfl,W,L,_⟩
     exact(Zl7 X Y c' _ _ _ _ _ _ _ ⟨rfl,W.imp fun h=>ZcZ h (by omega) (by omega) (by omega),L,by omega⟩)
   ·rintro σ H5 ⟨X,Y,c',v7',v8',v9',v10',v11',v12',v13',rfl,W,L5,_⟩
    refine⟨_,rfl,xw7 Y.o Y.ra Y.ga Y.Lo Y.nb X.li X.lo ⟨rfl,W.pr.ow,fun H8 s8=>?_⟩⟩
    have W8:=W.same s8
    have hlp:=Zok W.pr.ow
    have eP':=Zex W.pr.ag
    have ndX:=Zev W.pr.mg
    have hleft:=Zmg W.inv
    have hrise:(Y.Lo.map (·.1)).Pairwise (·<·):=by rw[Zbb W.pr.ag];exact W.pr.mg.M.up
    simp only[hlp,eP']
    refine⟨_,rfl,by omega,by omega,fun D hD=>?_⟩
    have ow8':=W8.pr.ow
    refine ZdF (SF a p r l D (0+(ii:Int)) v7' v8' v9' v10' v11' v12' v13' X Y H8) ?_ ?_ ?_
    ·refine⟨none,Y.Lo,[],0,0,rfl,rfl,(fun u h=>by cases h),?_,.nil,rfl,Zb,fun _=>Iff.rfl,fun b u hb _=>Zh hD _ _ _ hb⟩
     rw[QR,QR]
     exact ow8'.same (Zh hD _)
    ·rintro i9 zs σ H9 hi9 ⟨v,Lo',us,k,q',rfl,rfl,hus,ow9,htk,hul,hD9,owe,k9⟩
     have hDo:¬ ZU Y D:=fun z=>by
      obtain⟨u,hu,_⟩:=ow8'.live z
      rw[hD]at hu;cases hu
     have hnum:ZaY (pur Lo')=ZaY (pur Y.Lo):=htk.num
     have hr':(Lo'.map (·.1)).Pairwise (·<·):=by rw[Zci,hnum,← Zci];exact hrise
     have ndO:(ZaY (pur Y.Lo)).Nodup:=by rw[eP'];exact ndX
     refine⟨_,rfl,Y.o,Y.ra,Y.ga,Lo',Y.nb,_,_,rfl,ow9,hr',fun x Lo'' k' q'' H10 hT ow10 k10=>?_⟩
     have hlt:=htk.left ndO
     rw[Qa,eP']at hlt
     rcases ZkD hT with⟨w0,_⟩|⟨yy,z,t,stp,eL,rfl,ht⟩
     ·have:=ZhH (by rw[hnum];exact ndO) w0 (Zqd ow9)
      omega
     have kO:∀b u,H9 b=some u→¬ ZU Y b→H10 b=some u:=fun b u hb n=>k10 b u hb (fun e=>n (.inl e)) (fun e=>n (.inr (.inr (.inl e))))
     have hD10:=kO _ _ hD9 hDo
     have htD:t≠D:=fun e=>by rw[e,hD10]at ht;cases ht
     refine⟨hD10,(by rw[Qa,hul];exact ZB (by omega)),_,Lo'',us++[(t,(yy.1,yy.2.2,z))],k+k',q'+q'',rfl,by rw[Qe];rfl,fun u hu=>?_,?_,?_,by rw[Qf,Qt,hul],Zb,fun b=>(hT.own).trans (owe b),fun b u hb n=>?_⟩
     ·rcases Qk.mp hu with hu|hu
      ·obtain⟨g1,g2⟩:=hus u hu
       refine⟨g1,?_⟩
       rw[Zc g1]
       refine kO _ _ g2 fun z=>?_
       obtain⟨u',hu',hn⟩:=ow9.live ((owe _).mpr z)
       rw[g2]at hu';cases hu';exact hn _ rfl
      ·rw[Qp.mp hu]
       exact⟨htD,by rw[Zc htD];exact ht⟩
     ·rw[← Int.add_assoc,← Int.add_assoc]
      refine ow10.keep fun b u hb ho'=>?_
      rw[Zc (show b≠D from fun e=>hDo (by rw[← e];exact(owe b).mp ((hT.own).mp ho')))]
      exact hb
     ·rw[Qe,eL]
      exact .snoc htk stp
     ·rw[Zc (Zd hb hD)]
      exact kO b u (k9 b u hb n) n
    rintro zs σ H9 ⟨v,Lo',us,k,q',rfl,rfl,hus,ow9,htk,hul,hD9,owe,k9⟩
    have mg8:=W8.pr.mg
    have mg9:MOk cRow cMerge H9 X:=mg8.keep fun b u hb hor=>k9 b u hb (W8.pr.nO hb hor)
    obtain⟨dx9,hm9⟩:=mg9.M.ob
    have hDm:¬ MFp X D:=mg8.M.fp_fresh hD
    refine⟨_,rfl,X.m,dx9,_,rfl,hm9,Zmp ..,_,_,rfl,rfl,⟨by decide,by decide,by decide⟩,X.m,X.rd,X.sd,X.L,X.s,X.nb,X.li,X.lo,X.w,1000000,rfl,mg9.M,mg9.W,mg9.ok,by omega,fun rr us2 L' s' w' k2' q2' H10 hrr hrr10 hus2 htk2 hfin hmany M10 W10' ok10 fp10 k10=>?_⟩
    have hlen2:=ZnS (ts:=us2.map (·.2)) (many:=1000000) ndX htk2 (by rw[Qa];exact hfin) (by rw[Qa];exact fun z=>hmany fun y=>z (by rw[y];rfl)) W10' (fun x hx=>by obtain⟨e,he,rfl⟩:=Qo.mp hx;exact(M10.each e he).le)
    rw[Qa]at hlen2
    rw[eP']at htk
    obtain⟨ets,X',Y',W12,eM,eO,_,_,kk⟩:=W8.few ZhS (L5.same s8).here ow9 htk owe k9 htk2 (by rw[Qa,Qa,hul,hlen2];omega) M10 W10' ok10 fp10 k10
    have hus10:∀u∈us,H10 u.1=some (.tup [.int u.2.1,.int (u.2.2.1:Int),.str u.2.2.2]):=fun u hu=>k10 _ _ (hus u hu).2 (mg9.M.fp_tup (hus u hu).2)
    refine⟨_,rfl,.ref rr,.ref D,rfl,Zgj hrr10 (k10 _ _ hD9 hDm) (by rw[Qa,hlen2];omega) (ZhD us2 us ets.symm hus2 hus10),fun H11' s11=>⟨_,rfl,Zbr ?_⟩⟩
    have W13:=W12.same s11
    rw[← eM,← eO]
    refine⟨_,rfl,_,rfl,Zp9 X'.m X'.rd X'.sd X'.L X'.s X'.nb X'.li X'.lo X'.w Y'.o Y'.ra Y'.ga Y'.Lo Y'.nb ⟨rfl,W13.pr.mg.M,W13.pr.mg.W,W13.pr.ow,W13.pr.ag,fun H15 s15=>⟨_,rfl,Zbr ?_⟩⟩⟩
    exact(ZrQ _ _ _ _ _ _ _ _ _ _ _ _ _ ⟨rfl,fun b u hb=>(W13.same s15).but b u (sHB b u hb) (Zd hb nHp)⟩)
  refine⟨_,rfl,(by show 0≤sizeLine;decide),fun z hz=>?_⟩
  have sz:=Zh hz (.lst [])
  refine⟨ZeI rs,.list [],Zls (rowsB (W9.same sz).but),.lst (SqL.of Zb) .nil,Zf3 rs azr,(by ac_rfl),.inr ⟨_,rfl,_,_,rfl,rfl,.inl ⟨by decide,by decide⟩,?_⟩⟩
  rw[if_pos rfl,ev0]
  have W10:=W9.same sz
  have L10:=L9.same sz
  obtain⟨N1,hN1,hN2⟩:∃N1:Int,(10:Int)*(if (!decide (rs=[]))=true then 1 else 0)=N1∧0≤N1∧N1≤10∧(0<N1→0<rl):=by
   by_cases h0:rs=[]
   ·rw[decide_eq_true h0];exact⟨0,rfl,by omega,by omega,fun h=>absurd h (by omega)⟩
   ·rw[decide_eq_false h0];exact⟨10,rfl,by omega,by omega,fun _=>by rw[hrl];exact List.length_pos_iff.mpr h0⟩
  refine⟨N1,congrArg (fun x=>[V.int x]) hN1,by omega,by omega,?_⟩
  refine ZbR (fun i=>SA cRow cMerge a p r l (0+(ii:Int)) HB (Zb9 rl 60 28 (720+6*i)) (c5+700*(i:Int))) ⟨X8,Y8,xw8 c5 _ _ _ _ _ _ _ ⟨rfl,W10,L10,by omega⟩⟩ ?_ ?_
  ·rintro i σ H5 hi' ⟨X0,Y0,c,v7',v8',v9',v10',v11',v12',v13',rfl,W0,L5,hc⟩
   have hi10:i<10:=by omega
   have hrl0:0<rl:=hN2.2.2 (by omega)
   have c0:=L5.ge
   clear hi' hN1 hN2
   refine⟨SB cRow cMerge a p r l (0+(ii:Int)) (0+(i:Int)) v9' v10' v11' v12' v13' HB (Zb9 rl 60 28 (720+6*i)) (c+1),?_,?_⟩
   ·refine⟨_,rfl,p,c,_,rfl,L5,by omega,by decide,by decide,fun tk H10 tk0 tk6 L10 B10=>?_⟩
    have W10:=W0.draw hpB L5 B10
    refine⟨_,rfl,by omega,by omega,?_⟩
    refine ZbR (fun _=>SB cRow cMerge a p r l (0+(ii:Int)) (0+(i:Int)) v9' v10' v11' v12' v13' HB (Zb9 rl 60 28 (720+6*i)) (c+1)) ⟨X0,Y0,_,rfl,W10,L10⟩ ?_ ?_
    ·rintro j σ H11 hj ⟨X,Y,v8'',rfl,W,L11⟩
     have pr:=W.pr
     have hrise:(Y.Lo.map (·.1)).Pairwise (·<·):=by rw[Zbb pr.ag];exact pr.mg.M.up
     obtain⟨dx11,hm11⟩:=pr.mg.M.ob
     refine⟨_,rfl,X.m,dx11,_,rfl,hm11,ZgB ..,xw9 X.m X.rd X.sd X.L X.s X.nb X.li X.lo X.w ⟨rfl,pr.mg.M,pr.mg.W,pr.mg.ok,fun x L' s' w' k3 q3 H12 hR M12 W12 ok12 k12=>?_⟩⟩
     have ow12:Own H12 Y.o Y.ra Y.ga Y.Lo Y.nb X.li X.lo:=pr.ow.keep fun b u hb ho'=>k12 b u hb fun z=>pr.sep b z ho'
     refine⟨_,rfl,xw7 Y.o Y.ra Y.ga Y.Lo Y.nb X.li X.lo ⟨rfl,ow12,hrise,fun y Lo' k4 q4 H13 hT ow13 k13=>?_⟩⟩
     obtain⟨X',Y',W13,eM,eO,hD13,_,_,kk⟩:=W.take ZhS L11.here hR M12 W12 ok12 k12 hT ow13 k13
     have L13:=W.left hpB L11 kk
     refine⟨x,y,rfl,hD13,fun H14 s14=>⟨_,rfl,Zbr ?_⟩⟩
     rw[← eM,← eO]
     exact⟨X',Y',_,rfl,W13.same s14,L13.same s14⟩
    rintro σ H11 ⟨X,Y,v8'',rfl,W,L11⟩
    exact⟨X,Y,v8'',rfl,W,L11⟩
   rintro σ H11 ⟨X,Y,v8'',rfl,W,L11⟩
   have hlr:(((rs.map fun x=>V.ref x.1).length:Nat):Int)=(rl:Int):=by rw[Qa,hrl]
   have h12':rl≤12:=by rw[hrl];exact h12
   refine⟨_,rfl,_,rfl,r,_,rfl,.inl (SqL.of (rowsB W.but).at'),p,c+1,_,rfl,L11,by omega,by omega,by omega,fun n0 H12 n00 n01 L12 B12=>?_⟩
   have W12:=W.draw hpB L11 B12
   have ow12:=W12.pr.ow
   have hLoN:∀n:Int,0≤n→n<(rl:Int)→∃e∈Y.Lo,e.1=n:=fun n h0 h1=>by
    obtain⟨x,hx,rfl⟩:=Zjt W.inv h0 h1
    rw[← Zex W.pr.ag]at hx
    obtain⟨e,he,rfl⟩:=Qo.mp hx
    exact⟨e,he,rfl⟩
   have hn0:∃e∈Y.Lo,e.1=n0:=hLoN n0 n00 (by omega)
   refine⟨Y.ra,_,ow12.rows,True.intro,_,rfl,Y.o,_,rfl,ZL.k' (k:=.inr "rows") ow12.at' (ZaI ..),Y.ra,_,rfl,ow12.rows,fun ob B hB=>?_⟩
   have hfz:(upd H12 Y.ra (.frz ob (.dK (kvR Y.Lo)))) Y.ra=some (.frz ob (.dK (kvR Y.Lo))):=Zb
   have k13:∀b x,H12 b=some x→b≠Y.ra→(upd H12 Y.ra (.frz ob (.dK (kvR Y.Lo)))) b=some x:=fun b x h n=>by rw[Zc n];exact h
   have hBn:B≠Y.ra:=fun z=>by rw[z,Zb]at hB;cases hB
   generalize upd H12 Y.ra (.frz ob (.dK (kvR Y.Lo)))=H13 at hfz k13 hB ⊢
   obtain⟨n1r,n2r⟩:=ow12.ne
   refine ZkQ (d:=Y.ra) (o:=ob) (kvs:=kvR Y.Lo) (fun i9 zs σ H2=>(∃v:Option V,σ=[some (.ref a),some (.int (0+(ii:Int))),some (.ref p),some (.ref r),some (.ref l),some (.ref Y.o),some (.ref X.m),some (.int (0+(i:Int))),v8'',some (.int n0),v10',v11',v12',v13',v])∧(∃ns:List Int,zs=ns.map V.int∧(∀n∈ns,∃e∈Y.Lo,e.1=n)∧ns.length≤i9)∧i9≤Y.Lo.length∧H2 B=some (.lst zs)∧ZH H13 H2) ⟨⟨none,rfl⟩,⟨[],rfl,(fun n h=>by cases h),Qg _⟩,Qv _,Zb,Zh hB _⟩ (fun _ _ _ _ h=>h.2.2.2.2 _ _ hfz) ?_ ?_
   ·rintro i9 k x zs σ H2 hkx ⟨⟨v,rfl⟩,⟨ns,rfl,hns,hnl⟩,hi9,hB2,s2⟩
    unfold kvR at hkx
    rw[Qn]at hkx
    cases hu:Y.Lo[i9]? with
    | none=>rw[hu]at hkx;cases hkx
    | some e =>
    rw[hu]at hkx
    cases hkx
    have hil:i9<Y.Lo.length:=(Qi.mp hu).1
    have he:=Qw hu
    have hfew:=ow12.few
    have ho2:=s2 _ _ (k13 _ _ ow12.at' n1r.symm)
    have hg2:=s2 _ _ (k13 _ _ ow12.gone W12.nga)
    have hl2:=s2 _ _ (k13 _ _ (ow12.lst e he).1 (ow12.ne_l he).2.1)
    refine⟨_,rfl,Y.o,_,rfl,ZL.k' (k:=.inr "gone") ho2 (ZbF ..),_,rfl,Y.ga,_,rfl,ZL.k' (k:=.inl e.1) hg2 (ZfD ow12.nd he),_,rfl,Y.o,_,rfl,ZL.k' (k:=.inr "rows") ho2 (ZaI ..),_,rfl,Y.ra,_,rfl,ZL.fz (k:=.inl e.1) (s2 _ _ hfz) (Zef ow12.nd he),e.2.1,_,rfl,.inl (SqL.of hl2),rfl,_,rfl,Zbc (fun d=>?_) (fun d=>?_)⟩
    ·refine⟨_,rfl,hB2,(by rw[Qa];exact ZB (by omega)),⟨_,rfl⟩,⟨ns++[e.1],by rw[Qe];rfl,fun n hn=>?_,by rw[Qf,Qt];omega⟩,hil,Zb,fun b u hb=>?_⟩
     ·rcases Qk.mp hn with hn|hn
      ·exact hns n hn
      ·rw[Qp.mp hn];exact⟨e,he,rfl⟩
     ·rw[Zc (Zd hb hB)];exact s2 b u hb
    ·exact⟨⟨_,rfl⟩,⟨ns,rfl,hns,by omega⟩,hil,hB2,s2⟩
   rintro zs σ H2 ⟨⟨v,rfl⟩,⟨ns,rfl,hns,hnl⟩,_,hB2,s2⟩
   have hkl:(kvR Y.Lo).length=Y.Lo.length:=by unfold kvR;rw[Qa]
   rw[hkl]at hnl
   refine⟨ob,s2 _ _ hfz,?_⟩
   have s14:ZH H12 (upd H2 Y.ra (.dK (kvR Y.Lo))):=fun b u hb=>by
    by_cases z:b=Y.ra
    ·rw[z,Zb,← ow12.rows,← z];exact hb
    ·rw[Zc z];exact s2 _ _ (k13 b u hb z)
   have hB14:(upd H2 Y.ra (.dK (kvR Y.Lo))) B=some (.lst (ns.map V.int)):=by rw[Zc hBn];exact hB2
   generalize upd H2 Y.ra (.dK (kvR Y.Lo))=H14 at s14 hB14 ⊢
   have W14:=W12.same s14
   have L14:=L12.same s14
   have hfew:=ow12.few
   have nBp:B≠p:=fun z=>by
    obtain⟨u,hu⟩:=L12.here
    rw[z]at hB
    have:=k13 p u hu (fun y=>hBn (by rw[z];exact y))
    rw[this]at hB;cases hB
   refine⟨SD cRow cMerge a p r l B (0+(ii:Int)) (0+(i:Int)) v8'' v11' v12' v13' HB (Zb9 rl 60 28 (720+6*i)) X Y c,?_,?_⟩
   rotate_left
   ·rintro σ H16 ⟨n1,c15,rfl,⟨e,he,rfl⟩,W16,L16,c150,c155⟩
    have ow16:=W16.pr.ow
    have hvR:Z1 (kvR Y.Lo) (.inl e.1)=some (.ref e.2.1):=Zef ow16.nd he
    obtain⟨lo16,l200,lg,laz⟩:=ow16.lst e he
    have heP:(e.1,e.2.2)∈Z6 X.L:=by rw[← Zex W16.pr.ag];exact Qd (f:=fun e:Zx=>(e.1,e.2.2)) he
    have hinv:=W16.inv.2.2.2.2 _ heP
    have hsrtE:sortedS e.2.2.1=true:=by
     obtain⟨e',he',z⟩:=Qo.mp heP
     injection z with _ z
     rw[← z];exact(W16.pr.mg.M.each e' he').srt
    obtain⟨ls,hls⟩:∃z,z=ZhM e.2.2.1:=⟨_,rfl⟩
    have hlsm:ls∈([""]:List Str)++e.2.2.1:=by rw[hls];exact List.getLast_mem _
    have hlsp:ls.length≤28∧AZ ls:=by
     rcases Qk.mp hlsm with h|h
     ·rw[Qp.mp h];exact⟨by ac_rfl,AZ.nil⟩
     ·exact⟨hinv.2 ls h,(laz ls h).2⟩
    refine Zjx (i:=5) (j:=9) ow16 he rfl rfl fun Hs sd=>?_
    rw[← hls]
    have W17:=W16.same sd
    have L17:=L16.same sd
    refine⟨_,rfl,_,rfl,p,l,c15,4,ss,rfl,L17,by omega,by decide,by decide,W17.but _ _ hl nlp,h1,h4,hss,fun rw' ts c6 H18 hrw0 hrw hts hsr hts2 L18 d1 d2 B18=>?_⟩
    have W18:=W17.draw hpB L17 B18
    have nrwp:rw'≠p:=by obtain⟨u,hu⟩:=L17.here;exact(Zd hu hrw0).symm
    refine⟨(by show 1≤sizeLine;decide),fun z1 hz1=>?_⟩
    have s1':=Zh hz1 (.lst [V.str "zz"])
    have W19:=W18.same s1'
    have L19:=L18.same s1'
    have nz1p:z1≠p:=by obtain⟨u,hu⟩:=L18.here;exact(Zd hu hz1).symm
    refine⟨_,rfl,p,c6,_,rfl,L19,by omega,by decide,by decide,fun k1 H20 k10 k12' L20 B20=>?_⟩
    have W20:=W19.draw hpB L19 B20
    have hz120:H20 z1=some (.lst [V.str "zz"]):=B20 _ _ Zb nz1p
    have hrw20:=B20 _ _ (s1' _ _ hrw) nrwp
    refine⟨z1,k1,_,rfl,rfl,hz120,by omega,by omega,(by show 1*k1.toNat≤sizeLine;exact Qy (show _≤1000 by omega) (by decide)),fun z2 hz2=>?_⟩
    rw[Ze8]
    have s2':=Zh hz2 (.lst ((List.replicate k1.toNat ("zz" : Str)).map V.str))
    refine⟨rw',z2,_,_,rfl,rfl,s2' _ _ hrw20,Zb,(by rw[Qa,Qa,QM];exact Zbg (by omega)),fun z3 hz3=>?_⟩
    rw[← Qe]
    have s3':=s2'.trans (Zh hz3 (.lst ((ts++List.replicate k1.toNat ("zz" : Str)).map V.str)))
    have hz3':(upd (upd H20 z2 (.lst ((List.replicate k1.toNat ("zz" : Str)).map V.str))) z3 (.lst ((ts++List.replicate k1.toNat ("zz" : Str)).map V.str))) z3=some (.lst ((ts++List.replicate k1.toNat ("zz" : Str)).map V.str)):=Zb
    generalize upd (upd H20 z2 (.lst ((List.replicate k1.toNat ("zz" : Str)).map V.str))) z3 (.lst ((ts++List.replicate k1.toNat ("zz" : Str)).map V.str))=H21 at s3' hz3' ⊢
    have W21:=W20.same s3'
    have L21:=L20.same s3'
    have nz3p:z3≠p:=by
     obtain⟨u,hu⟩:=(L20.same s2').here
     exact(Zd hu hz3).symm
    refine⟨_,rfl,(by show 1≤sizeLine;decide),fun z4 hz4=>?_⟩
    have s4':=Zh hz4 (.lst [V.str ls])
    have W22:=W21.same s4'
    have L22:=L21.same s4'
    have nz4p:z4≠p:=by obtain⟨u,hu⟩:=L21.here;exact(Zd hu hz4).symm
    refine⟨_,rfl,p,c6+1,_,rfl,L22,by omega,by decide,by decide,fun k2' H23 k20 k22 L23 B23=>?_⟩
    have W23:=W22.draw hpB L22 B23
    have hz423:H23 z4=some (.lst [V.str ls]):=B23 _ _ Zb nz4p
    have hz323:=B23 _ _ (s4' _ _ hz3') nz3p
    refine⟨z4,k2',_,rfl,rfl,hz423,by omega,by omega,(by show 1*k2'.toNat≤sizeLine;exact Qy (show _≤1000 by omega) (by decide)),fun z5 hz5=>?_⟩
    rw[Ze8]
    have s5':=Zh hz5 (.lst ((List.replicate k2'.toNat ls).map V.str))
    refine⟨z3,z5,_,_,rfl,rfl,s5' _ _ hz323,Zb,(by rw[Qa,Qa,Qf,QM,QM];exact Zbg (by omega)),fun z6 hz6=>?_⟩
    rw[← Qe]
    obtain⟨kz,hkz⟩:∃kz,kz=ts++List.replicate k1.toNat ("zz" : Str)++List.replicate k2'.toNat ls:=⟨_,rfl⟩
    rw[← hkz]
    have kzl:kz.length≤6:=by rw[hkz,Qf,Qf,QM,QM];omega
    have kzp:∀x∈kz,x.length≤28∧AZ x:=fun x hx=>by
     rw[hkz]at hx
     rcases Qk.mp hx with hx|hx
     ·rcases Qk.mp hx with hx|hx
      ·exact hts2 x hx
      ·rw[QS hx];exact⟨by ac_rfl,by unfold AZ cds;ac_rfl⟩
     ·rw[QS hx];exact hlsp
    have s6':=s5'.trans (Zh hz6 (.lst (kz.map V.str)))
    have W24:=W23.same s6'
    have L24:=L23.same s6'
    refine⟨_,rfl,z6,_,rfl,SqL.of Zb,(by omega),fun sl kk hsl hper' hsrt'=>?_⟩
    have s7':=Zh hsl (.lst (kk.map V.str))
    have W25:=W24.same s7'
    have L25:=L24.same s7'
    refine⟨sl,rfl,⟨_,SqL.of Zb⟩,fun D hD=>?_⟩
    refine ZnU (K:=K) (a:=sl) (ss:=kk) (fun x=>!decide (x.cps.toList<ls.cps.toList)) (fun x=>x) (fun σ=>∃v:Option V,σ=[some (.ref a),some (.int (0+(ii:Int))),some (.ref p),some (.ref r),some (.ref l),some (.ref Y.o),some (.ref X.m),some (.int (0+(i:Int))),v8'',some (.int e.1),some (.ref B),some (.str ls),some (.ref z6),v13',v]) hD (SqL.of Zb) (by rw[hper'.length_eq];omega) ⟨_,rfl⟩ ?_ ?_
    ·rintro x hx σ Hx N M ⟨v,rfl⟩ hN hM
     exact⟨_,rfl,_,rfl,x,ls,rfl,rfl,_,rfl,Zbc (fun d=>⟨_,rfl,hN _ ⟨_,rfl⟩ d⟩) (fun d=>hM _ ⟨_,rfl⟩ (Qan.mpr d))⟩
    rintro σ5 ⟨v5,rfl⟩
    obtain⟨k0',hk0⟩:∃z,z=kk.filter (fun x=>!decide (x.cps.toList<ls.cps.toList)):=⟨_,rfl⟩
    rw[List.map_id',← hk0]
    have k0s:sortedS k0'=true:=by
     rw[Zgp]at hsrt' ⊢
     rw[hk0];exact hsrt'.sublist Qao
    have k0p:∀x∈k0',x.length≤28∧AZ x∧LeS ls x:=fun x hx=>by
     rw[hk0]at hx
     obtain⟨hx1,hx2⟩:=Qau.mp hx
     have:=kzp x (hper'.mem_iff.mp hx1)
     exact⟨this.1,this.2,fun z=>by rw[decide_eq_true z]at hx2;cases hx2⟩
    have k0l:k0'.length≤6:=by have:=Qaj (fun x:Str=>!decide (x.cps.toList<ls.cps.toList)) kk;rw[← hk0,hper'.length_eq]at this;omega
    have sD:=Zh hD (.lst (k0'.map V.str))
    have W26:=W25.same sD
    have L26:=L25.same sD
    have nDf:∀ {H':Hp} {b:Addr},Wk (Zb9 rl 60 28 (720+6*i)) cRow cMerge HB p H' X Y→H' b=none→¬ MFp X b∧¬ ZU Y b∧HB b=none∨b=p:=fun {H' b} W hb=>by
     by_cases z:b=p
     ·exact .inr z
     ·refine .inl ⟨W.pr.mg.M.fp_fresh hb,fun y=>?_,?_⟩
      ·obtain⟨u,hu,_⟩:=W.pr.ow.live y;rw[hb]at hu;cases hu
      ·cases e':HB b with
       | none=>rfl
       | some u=>rw[W.but b u e' z]at hb;cases hb
    have nDp:D≠p:=by obtain⟨u,hu⟩:=L25.here;exact(Zd hu hD).symm
    refine⟨SE cRow cMerge a p r l B (0+(ii:Int)) (0+(i:Int)) e.1 v8'' v13' ls e.2.2.1.length HB (Zb9 rl 60 28 (720+6*i)) X Y (c6+1+1),?_,?_⟩
    ·have ow26:=W26.pr.ow
     refine⟨_,rfl,Y.o,_,rfl,ZL.k' (k:=.inr "rows") ow26.at' (ZaI ..),_,rfl,Y.ra,_,rfl,ZL.k' (k:=.inl e.1) ow26.rows hvR,e.2.1,_,rfl,.inl (SqL.of (ow26.lst e he).1),_,_,rfl,rfl,_,rfl,Zbc (fun d=>?_) (fun d=>?_)⟩
     ·refine⟨(by show 0≤sizeLine;decide),fun z hz=>?_⟩
      have nzp:z≠p:=by obtain⟨u,hu⟩:=L26.here;exact(Zd hu hz).symm
      exact⟨z,[],rfl,Zb,by decide,rfl,fun x hx=>(by cases hx),.inr rfl,nzp,(nDf W26 hz).resolve_right nzp,W26.same (Zh hz _),L26.same (Zh hz _)⟩
     ·have d50:e.2.2.1.length≤50:=by
       have:¬ (50:Int)<(((e.2.2.1.map V.str).length:Nat):Int):=fun z=>d (decide_eq_true z)
       rw[Qa]at this
       omega
      exact⟨D,k0',rfl,Zb,k0l,k0s,k0p,.inl d50,nDp,(nDf W25 hD).resolve_right nDp,W26,L26⟩
    rintro σ H27 ⟨kl,ks,rfl,hkl,hk6,hks,hkp,hk50,nklp,⟨nMk,nOk,hBk⟩,W27,L27⟩
    refine⟨_,rfl,_,rfl,_,rfl,_,rfl,(by show 3≤sizeLine;decide),fun t' ht'=>?_⟩
    have st':=Zh ht' (.tup [.str "grow",.int e.1,.ref kl])
    have W28:=W27.same st'
    have L28:=L27.same st'
    have hkl28:=st' _ _ hkl
    have hlen60:e.2.2.1.length+ks.length≤60:=by
     rcases hk50 with h|rfl
     ·omega
     ·exact hinv.1
    refine⟨X,Y,t',kl,.grow,e.1,ks,rfl,W28.pr,W28.nga,W28.nb,Zb,hkl28,nMk,nOk,fun x hx=>⟨by have:=(hkp x hx).1;omega,(hkp x hx).2.1⟩,by omega,⟨_,heP,rfl,Zgv hsrtE hks (fun x hx=>by show LeS (ZhM e.2.2.1) x;rw[← hls];exact(hkp x hx).2.2),by rw[Qf];show e.2.2.1.length+ks.length≤_;omega⟩,fun X' Y' H29 pr29 eM eO nga' nb' nbe pure' fM fO kk'=>⟨_,rfl,Zbr ?_⟩⟩
    have W29:Wk (Zb9 rl 60 28 (720+6*(i+1))) cRow cMerge HB p H29 X' Y':=(W28.imp (J:=Zb9 rl 60 28 (720+6*(i+1))) fun h=>ZcZ h (Qg _) (Qg _) (by omega)).to L28.here pr29 nga' nb' (by
     rw[pure',nbe]
     refine Zim (Zev W28.pr.mg) W28.inv (Qg _) (Qg _) (by omega) (fun x hx hn=>?_) (fun s hs=>(hkp s hs).1)
     have ex:x=(e.1,e.2.2):=ZbD (Zev W28.pr.mg) hx heP hn
     rw[ex,Qf];exact hlen60) fM fO kk'
    have L29:=W28.left hpB L28 kk'
    have hkl29:=kk' _ _ hkl28 nMk nOk
    have nM':¬ MFp X' kl:=fun z=>(fM kl z).elim nMk fun y=>by rw[hkl28]at y;cases y
    have nO':¬ ZU Y' kl:=fun z=>(fO kl z).elim nOk fun y=>by rw[hkl28]at y;cases y
    rw[← eM,← eO]
    refine⟨_,rfl,.inl ⟨rfl,_,SqL.of hkl29⟩,kl,_,_,rfl,rfl,hkl29,(by rw[Qa];exact ZB (by omega)),?_⟩
    refine⟨_,rfl,.inl ⟨rfl,_,SqL.of Zb⟩,kl,_,rfl,rfl,Zb,?_⟩
    have W30:=(W29.put (v:=.lst (ks.map V.str++[V.str "a"])) hkl29 (fun xs z=>by cases z) nM' nO' hBk).put (v:=.lst (ks.map V.str++[V.str "a"]).reverse) Zb (fun xs z=>by cases z) nM' nO' hBk
    have L30:Zaz (upd (upd H29 kl (.lst (ks.map V.str++[V.str "a"]))) kl (.lst (ks.map V.str++[V.str "a"]).reverse)) p (c6+1+1):=(L29.at nklp.symm).at nklp.symm
    refine⟨_,rfl,_,rfl,Zp9 X'.m X'.rd X'.sd X'.L X'.s X'.nb X'.li X'.lo X'.w Y'.o Y'.ra Y'.ga Y'.Lo Y'.nb ⟨rfl,W30.pr.mg.M,W30.pr.mg.W,W30.pr.ow,W30.pr.ag,fun H31 s31=>⟨_,rfl,Zbr ?_⟩⟩⟩
    exact⟨X',Y',c6+1+1,xw7 _ _ _ _ _ _ _ ⟨rfl,W30.same s31,L30.same s31,by omega⟩⟩
   refine⟨_,rfl,(by show 0≤sizeLine;decide),fun z hz=>?_⟩
   have sz':=Zh hz (.lst [])
   refine⟨.list (ns.map PyData.int),.list [],.lst (SqL.of (sz' _ _ hB14)) (Zk5 ns),.lst (SqL.of Zb) .nil,ZjQ ns,(by ac_rfl),_,rfl,?_⟩
   rw[if_pos rfl,show PyData.eqv (.list (ns.map PyData.int)) (.list [])=decide (ns=[]) by
    cases ns with
    | nil=>simp[PyData.eqv,PyData.eqvAll]
    | cons a r=>simp[PyData.eqv,PyData.eqvAll]]
   have W15:=W14.same sz'
   have L15:=L14.same sz'
   have hB15:=sz' _ _ hB14
   generalize upd H14 z (.lst [])=H15 at sz' W15 L15 hB15 ⊢
   rcases Classical.em (ns=[]) with he0|he0
   ·exact Zeh he0 (Zbr ⟨n0,_,rfl,hn0,W15,L15,by omega,by omega⟩)
   ·refine ZgH he0 ?_
    refine⟨_,rfl,p,c+1+1,_,rfl,L15,by omega,by decide,by decide,fun pk H16 pk0 pk2 L16 B16=>⟨rfl,_,rfl,?_⟩⟩
    have W16:=W15.draw hpB L15 B16
    have hB16:=B16 _ _ hB15 nBp
    refine Zbc (fun dp=>?_) (fun dp=>⟨n0,_,rfl,hn0,W16,L16,by omega,by omega⟩)
    have hnpos:0<ns.length:=List.length_pos_iff.mpr he0
    have hlenB:(((ns.map V.int).length:Nat):Int)=(ns.length:Int):=by rw[Qa]
    refine⟨_,rfl,_,rfl,_,rfl,B,_,rfl,.inl (SqL.of hB16),p,c+1+1+1,_,rfl,L16,by omega,by omega,by omega,fun i2 H17 i20 i21 L17 B17=>?_⟩
    obtain⟨n1,hn1m,hat⟩:=ZiV (ns:=ns) i20 (by omega)
    exact⟨B,_,_,_,rfl,rfl,SqL.of (B17 _ _ hB16 nBp),hat,n1,_,rfl,hns n1 hn1m,W16.draw hpB L16 B17,L17,by omega,by omega⟩
  ·rintro σ H5 ⟨X,Y,c,v7',v8',v9',v10',v11',v12',v13',rfl,W,L5,hc⟩
   exact(Zl7 X Y c _ _ _ _ _ _ _ ⟨rfl,W.imp fun h=>ZcZ h (Qg _) (Qg _) (by omega),L5,by omega⟩)
 ·rintro σ H2 ⟨v1,v2,v3,v4,v5,v6,v7,v8,v9,v10,v11,v12,v13,rfl,s2⟩
  exact q H2
end
theorem ZX{K:PySem.W.Frag}{h:Heap}{mg:Str→Option Value}{x:Str}{st:Stmt}{ps:List Str}{f:Addr}{od an:Option Addr}{sl:Array (Option Value)}{oc kV dc pm cd ct:Value}(X:K.In h)(G:h.Ns mainGlobals mg)
  (a:PySem.W.nsIn K mainGlobals x=some (some (.ref f))) (l:K.lookup f=some ⟨oc,od,.func (PySem.W.fnOf x x (Zp st) (Zn st) (Zg st) .none kV dc pm an cd ct),sl⟩) (c:PySem.W.codeIn K cd x=true) (k:PySem.W.keepIn K (.ref f)=true)
  (hb:∀ (kV doc pm:Value) (an:Option Addr) (cdv ct:Value) (us:List Value),us.length=ps.length→bindArgs (PySem.W.fnOf x x (Zp st) (Zn st) (Zg st) .none kV doc pm an cdv ct) ⟨us,[]⟩=pure (ps.zip us)):Top K mg x st ps :=
 ⟨_,_,ZJ (st:=st) l c k,Qa3 X G a,(ZJ (st:=st) l c k).binds hb⟩
theorem ZcB:∀us:List Value,us.length=1→∃a0,us=[a0]
 | [a0],_=>⟨a0,rfl⟩
theorem Zce:∀us:List Value,us.length=2→∃a0 a1,us=[a0,a1]
 | [a0,a1],_=>⟨a0,a1,rfl⟩
theorem Zjf:∀us:List Value,us.length=3→∃a0 a1 a2,us=[a0,a1,a2]
 | [a0,a1,a2],_=>⟨a0,a1,a2,rfl⟩
theorem ZsT:∀us:List Value,us.length=4→∃a0 a1 a2 a3,us=[a0,a1,a2,a3]
 | [a0,a1,a2,a3],_=>⟨a0,a1,a2,a3,rfl⟩
theorem all_mk{l:PySem.W.OpenLaw}{w:World}{K:PySem.W.Frag}{h:Heap}{mg:Str→Option Value}{fa:Addr}(X:K.In h)(G:h.Ns mainGlobals mg)(hfa:mg "law" = some (.ref fa))
  {cRow:Addr}
  {cMerge:Addr}
  {tkMOST_ROWS:Tok}
  (aCRow:#[Xns,K,"Row",cRow]) (pgRow:PySem.W.plainGet K cRow Str.empty=true) (hdRow:PySem.W.hasDictIn K cRow=true) (poRow:PySem.W.plainOver K cRow=true) (saRow:PySem.W.findIn K (.ref cRow) "__setattr__" = some (some (.builtin "object.__setattr__"))) (mkRow:PySem.W.makesIn K cRow=true) (kcRow:#[Xki,K,cRow])
  (nARow_all_keys:PySem.W.findIn K (.ref cRow) "all_keys" = some none)
  (nARow_fars:PySem.W.findIn K (.ref cRow) "fars" = some none)
  (nARow_gone:PySem.W.findIn K (.ref cRow) "gone" = some none)
  (aCMerge:#[Xns,K,"Merge",cMerge]) (pgMerge:PySem.W.plainGet K cMerge Str.empty=true) (hdMerge:PySem.W.hasDictIn K cMerge=true) (poMerge:PySem.W.plainOver K cMerge=true) (saMerge:PySem.W.findIn K (.ref cMerge) "__setattr__" = some (some (.builtin "object.__setattr__"))) (mkMerge:PySem.W.makesIn K cMerge=true) (kcMerge:#[Xki,K,cMerge])
  (nAMerge_best:PySem.W.findIn K (.ref cMerge) "best" = some none)
  (nAMerge_likened:PySem.W.findIn K (.ref cMerge) "likened" = some none)
  (nAMerge_looked:PySem.W.findIn K (.ref cMerge) "looked" = some none)
  (nAMerge_next_number:PySem.W.findIn K (.ref cMerge) "next_number" = some none)
  (nAMerge_rows:PySem.W.findIn K (.ref cMerge) "rows" = some none)
  (nAMerge_stays:PySem.W.findIn K (.ref cMerge) "stays" = some none)
  (a0:#[Xns,K,"halves",f0]) (l0:#[Xlk,K,f0,oc0,od0,"halves","halves",Zc8,kV0,dc0,pm0,an0,cd0,ct0,sl0]) (c0:#[Xci,K,cd0,"halves"]) (k0:#[Xki,K,f0])
  (a1:#[Xns,K,"way_up",f1]) (l1:#[Xlk,K,f1,oc1,od1,"way_up","way_up",Zc9,kV1,dc1,pm1,an1,cd1,ct1,sl1]) (c1:#[Xci,K,cd1,"way_up"]) (k1:#[Xki,K,f1])
  (a2:#[Xns,K,"alike",f2]) (l2:#[Xlk,K,f2,oc2,od2,"alike","alike",Zd5,kV2,dc2,pm2,an2,cd2,ct2,sl2]) (c2:#[Xci,K,cd2,"alike"]) (k2:#[Xki,K,f2])
  (a3:#[Xns,K,"liken",f3]) (l3:#[Xlk,K,f3,oc3,od3,"liken","liken",Zen,kV3,dc3,pm3,an3,cd3,ct3,sl3]) (c3:#[Xci,K,cd3,"liken"]) (k3:#[Xki,K,f3])
  (a4:#[Xns,K,"liken_from",f4]) (l4:#[Xlk,K,f4,oc4,od4,"liken_from","liken_from",Zbp,kV4,dc4,pm4,an4,cd4,ct4,sl4]) (c4:#[Xci,K,cd4,"liken_from"]) (k4:#[Xki,K,f4])
  (a5:#[Xns,K,"alike_from",f5]) (l5:#[Xlk,K,f5,oc5,od5,"alike_from","alike_from",Zbq,kV5,dc5,pm5,an5,cd5,ct5,sl5]) (c5:#[Xci,K,cd5,"alike_from"]) (k5:#[Xki,K,f5])
  (a6:#[Xns,K,"order_at",f6]) (l6:#[Xlk,K,f6,oc6,od6,"order_at","order_at",ZbW,kV6,dc6,pm6,an6,cd6,ct6,sl6]) (c6:#[Xci,K,cd6,"order_at"]) (k6:#[Xki,K,f6])
  (a7:#[Xns,K,"first_break",f7]) (l7:#[Xlk,K,f7,oc7,od7,"first_break","first_break",Zbd,kV7,dc7,pm7,an7,cd7,ct7,sl7]) (c7:#[Xci,K,cd7,"first_break"]) (k7:#[Xki,K,f7])
  (a8:#[Xns,K,"alikes",f8]) (l8:#[Xlk,K,f8,oc8,od8,"alikes","alikes",Zda,kV8,dc8,pm8,an8,cd8,ct8,sl8]) (c8:#[Xci,K,cd8,"alikes"]) (k8:#[Xki,K,f8])
  (a9:#[Xns,K,"refuse_break",f9]) (l9:#[Xlk,K,f9,oc9,od9,"refuse_break","refuse_break",Za1,kV9,dc9,pm9,an9,cd9,ct9,sl9]) (c9:#[Xci,K,cd9,"refuse_break"]) (k9:#[Xki,K,f9])
  (a10:#[Xns,K,"matches_up",f10]) (l10:#[Xlk,K,f10,oc10,od10,"matches_up","matches_up",Zbs,kV10,dc10,pm10,an10,cd10,ct10,sl10]) (c10:#[Xci,K,cd10,"matches_up"]) (k10:#[Xki,K,f10])
  (a11:#[Xns,K,"_law_mix",f11]) (l11:#[Xlk,K,f11,oc11,od11,"_law_mix","_law_mix",Zec,kV11,dc11,pm11,an11,cd11,ct11,sl11]) (c11:#[Xci,K,cd11,"_law_mix"]) (k11:#[Xki,K,f11])
  (a12:#[Xns,K,"_law_left",f12]) (l12:#[Xlk,K,f12,oc12,od12,"_law_left","_law_left",Zdi,kV12,dc12,pm12,an12,cd12,ct12,sl12]) (c12:#[Xci,K,cd12,"_law_left"]) (k12:#[Xki,K,f12])
  (a13:#[Xns,K,"_law_pick",f13]) (l13:#[Xlk,K,f13,oc13,od13,"_law_pick","_law_pick",Zdc,kV13,dc13,pm13,an13,cd13,ct13,sl13]) (c13:#[Xci,K,cd13,"_law_pick"]) (k13:#[Xki,K,f13])
  (a14:#[Xns,K,"_law_stems",f14]) (l14:#[Xlk,K,f14,oc14,od14,"_law_stems","_law_stems",ZbN,kV14,dc14,pm14,an14,cd14,ct14,sl14]) (c14:#[Xci,K,cd14,"_law_stems"]) (k14:#[Xki,K,f14])
  (a15:#[Xns,K,"_law_key",f15]) (l15:#[Xlk,K,f15,oc15,od15,"_law_key","_law_key",Zc2,kV15,dc15,pm15,an15,cd15,ct15,sl15]) (c15:#[Xci,K,cd15,"_law_key"]) (k15:#[Xki,K,f15])
  (a16:#[Xns,K,"_law_keys",f16]) (l16:#[Xlk,K,f16,oc16,od16,"_law_keys","_law_keys",Zdj,kV16,dc16,pm16,an16,cd16,ct16,sl16]) (c16:#[Xci,K,cd16,"_law_keys"]) (k16:#[Xki,K,f16])
  (a17:#[Xns,K,"_law_row",f17]) (l17:#[Xlk,K,f17,oc17,od17,"_law_row","_law_row",Zd9,kV17,dc17,pm17,an17,cd17,ct17,sl17]) (c17:#[Xci,K,cd17,"_law_row"]) (k17:#[Xki,K,f17])
  (a18:#[Xns,K,"_law_many",f18]) (l18:#[Xlk,K,f18,oc18,od18,"_law_many","_law_many",Zc6,kV18,dc18,pm18,an18,cd18,ct18,sl18]) (c18:#[Xci,K,cd18,"_law_many"]) (k18:#[Xki,K,f18])
  (a19:#[Xns,K,"_law_rows",f19]) (l19:#[Xlk,K,f19,oc19,od19,"_law_rows","_law_rows",Zcj,kV19,dc19,pm19,an19,cd19,ct19,sl19]) (c19:#[Xci,K,cd19,"_law_rows"]) (k19:#[Xki,K,f19])
  (a20:#[Xns,K,"_law_alike",f20]) (l20:#[Xlk,K,f20,oc20,od20,"_law_alike","_law_alike",Zcs,kV20,dc20,pm20,an20,cd20,ct20,sl20]) (c20:#[Xci,K,cd20,"_law_alike"]) (k20:#[Xki,K,f20])
  (a21:#[Xns,K,"_law_halves",f21]) (l21:#[Xlk,K,f21,oc21,od21,"_law_halves","_law_halves",ZbX,kV21,dc21,pm21,an21,cd21,ct21,sl21]) (c21:#[Xci,K,cd21,"_law_halves"]) (k21:#[Xki,K,f21])
  (a22:#[Xns,K,"_law_least",f22]) (l22:#[Xlk,K,f22,oc22,od22,"_law_least","_law_least",ZbM,kV22,dc22,pm22,an22,cd22,ct22,sl22]) (c22:#[Xci,K,cd22,"_law_least"]) (k22:#[Xki,K,f22])
  (a23:#[Xns,K,"_law_same",f23]) (l23:#[Xlk,K,f23,oc23,od23,"_law_same","_law_same",Zck,kV23,dc23,pm23,an23,cd23,ct23,sl23]) (c23:#[Xci,K,cd23,"_law_same"]) (k23:#[Xki,K,f23])
  (a24:#[Xns,K,"_law_world",f24]) (l24:#[Xlk,K,f24,oc24,od24,"_law_world","_law_world",Zct,kV24,dc24,pm24,an24,cd24,ct24,sl24]) (c24:#[Xci,K,cd24,"_law_world"]) (k24:#[Xki,K,f24])
  (a25:#[Xns,K,"_law_heads",f25]) (l25:#[Xlk,K,f25,oc25,od25,"_law_heads","_law_heads",Zcr,kV25,dc25,pm25,an25,cd25,ct25,sl25]) (c25:#[Xci,K,cd25,"_law_heads"]) (k25:#[Xki,K,f25])
  (a26:#[Xns,K,"_law_first_play",f26]) (l26:#[Xlk,K,f26,oc26,od26,"_law_first_play","_law_first_play",Za2,kV26,dc26,pm26,an26,cd26,ct26,sl26]) (c26:#[Xci,K,cd26,"_law_first_play"]) (k26:#[Xki,K,f26])
  (a27:#[Xns,K,"_law_play",f27]) (l27:#[Xlk,K,f27,oc27,od27,"_law_play","_law_play",Zc3,kV27,dc27,pm27,an27,cd27,ct27,sl27]) (c27:#[Xci,K,cd27,"_law_play"]) (k27:#[Xki,K,f27])
  (a28:#[Xns,K,"_law_way",f28]) (l28:#[Xlk,K,f28,oc28,od28,"_law_way","_law_way",ZdU,kV28,dc28,pm28,an28,cd28,ct28,sl28]) (c28:#[Xci,K,cd28,"_law_way"]) (k28:#[Xki,K,f28])
  (a29:#[Xns,K,"_law_coming",f29]) (l29:#[Xlk,K,f29,oc29,od29,"_law_coming","_law_coming",Zb5,kV29,dc29,pm29,an29,cd29,ct29,sl29]) (c29:#[Xci,K,cd29,"_law_coming"]) (k29:#[Xki,K,f29])
  (a30:#[Xns,K,"_law_taken",f30]) (l30:#[Xlk,K,f30,oc30,od30,"_law_taken","_law_taken",Zcz,kV30,dc30,pm30,an30,cd30,ct30,sl30]) (c30:#[Xci,K,cd30,"_law_taken"]) (k30:#[Xki,K,f30])
  (a31:#[Xns,K,"_law_left_of",f31]) (l31:#[Xlk,K,f31,oc31,od31,"_law_left_of","_law_left_of",Zbh,kV31,dc31,pm31,an31,cd31,ct31,sl31]) (c31:#[Xci,K,cd31,"_law_left_of"]) (k31:#[Xki,K,f31])
  (a32:#[Xns,K,"_law_stands",f32]) (l32:#[Xlk,K,f32,oc32,od32,"_law_stands","_law_stands",Zb3,kV32,dc32,pm32,an32,cd32,ct32,sl32]) (c32:#[Xci,K,cd32,"_law_stands"]) (k32:#[Xki,K,f32])
  (a33:#[Xns,K,"_law_done",f33]) (l33:#[Xlk,K,f33,oc33,od33,"_law_done","_law_done",ZcW,kV33,dc33,pm33,an33,cd33,ct33,sl33]) (c33:#[Xci,K,cd33,"_law_done"]) (k33:#[Xki,K,f33])
  (a34:#[Xns,K,"law",f34]) (l34:#[Xlk,K,f34,oc34,od34,"law","law",Zca,kV34,dc34,pm34,an34,cd34,ct34,sl34]) (c34:#[Xci,K,cd34,"law"]) (k34:#[Xki,K,f34])
  (a35:#[Xfi,K,cRow,"__init__",f35]) (i35:#[Xif,K,f35]) (l35:#[Xlk,K,f35,oc35,od35,"__init__","Row.__init__",Zbe,kV35,dc35,pm35,an35,cd35,ct35,sl35]) (c35:#[Xci,K,cd35,"Row.__init__"]) (k35:#[Xki,K,f35])
  (a36:#[Xfi,K,cRow,"to_go",f36]) (i36:#[Xif,K,f36]) (l36:#[Xlk,K,f36,oc36,od36,"to_go","Row.to_go",ZaW,kV36,dc36,pm36,an36,cd36,ct36,sl36]) (c36:#[Xci,K,cd36,"Row.to_go"]) (k36:#[Xki,K,f36])
  (a37:#[Xfi,K,cRow,"head",f37]) (i37:#[Xif,K,f37]) (l37:#[Xlk,K,f37,oc37,od37,"head","Row.head",Zbf,kV37,dc37,pm37,an37,cd37,ct37,sl37]) (c37:#[Xci,K,cd37,"Row.head"]) (k37:#[Xki,K,f37])
  (a38:#[Xfi,K,cRow,"lengthen",f38]) (i38:#[Xif,K,f38]) (l38:#[Xlk,K,f38,oc38,od38,"lengthen","Row.lengthen",Zas,kV38,dc38,pm38,an38,cd38,ct38,sl38]) (c38:#[Xci,K,cd38,"Row.lengthen"]) (k38:#[Xki,K,f38])
  (a39:#[Xfi,K,cMerge,"__init__",f39]) (i39:#[Xif,K,f39]) (l39:#[Xlk,K,f39,oc39,od39,"__init__","Merge.__init__",ZaK,kV39,dc39,pm39,an39,cd39,ct39,sl39]) (c39:#[Xci,K,cd39,"Merge.__init__"]) (k39:#[Xki,K,f39])
  (a40:#[Xfi,K,cMerge,"coming",f40]) (i40:#[Xif,K,f40]) (l40:#[Xlk,K,f40,oc40,od40,"coming","Merge.coming",Zar,kV40,dc40,pm40,an40,cd40,ct40,sl40]) (c40:#[Xci,K,cd40,"Merge.coming"]) (k40:#[Xki,K,f40])
  (a41:#[Xfi,K,cMerge,"take",f41]) (i41:#[Xif,K,f41]) (l41:#[Xlk,K,f41,oc41,od41,"take","Merge.take",ZaP,kV41,dc41,pm41,an41,cd41,ct41,sl41]) (c41:#[Xci,K,cd41,"Merge.take"]) (k41:#[Xki,K,f41])
  (a42:#[Xfi,K,cMerge,"take_few",f42]) (i42:#[Xif,K,f42]) (l42:#[Xlk,K,f42,oc42,od42,"take_few","Merge.take_few",Zaa,kV42,dc42,pm42,an42,cd42,ct42,sl42]) (c42:#[Xci,K,cd42,"Merge.take_few"]) (k42:#[Xki,K,f42])
  (a43:#[Xfi,K,cMerge,"left",f43]) (i43:#[Xif,K,f43]) (l43:#[Xlk,K,f43,oc43,od43,"left","Merge.left",Zax,kV43,dc43,pm43,an43,cd43,ct43,sl43]) (c43:#[Xci,K,cd43,"Merge.left"]) (k43:#[Xki,K,f43])
  (a44:#[Xfi,K,cMerge,"heads",f44]) (i44:#[Xif,K,f44]) (l44:#[Xlk,K,f44,oc44,od44,"heads","Merge.heads",Zao,kV44,dc44,pm44,an44,cd44,ct44,sl44]) (c44:#[Xci,K,cd44,"Merge.heads"]) (k44:#[Xki,K,f44])
  (a45:#[Xfi,K,cMerge,"likenings",f45]) (i45:#[Xif,K,f45]) (l45:#[Xlk,K,f45,oc45,od45,"likenings","Merge.likenings",Z5,kV45,dc45,pm45,an45,cd45,ct45,sl45]) (c45:#[Xci,K,cd45,"Merge.likenings"]) (k45:#[Xki,K,f45])
  (a46:#[Xfi,K,cMerge,"looks",f46]) (i46:#[Xif,K,f46]) (l46:#[Xlk,K,f46,oc46,od46,"looks","Merge.looks",ZaA,kV46,dc46,pm46,an46,cd46,ct46,sl46]) (c46:#[Xci,K,cd46,"Merge.looks"]) (k46:#[Xki,K,f46])
  (a47:#[Xfi,K,cMerge,"add_row",f47]) (i47:#[Xif,K,f47]) (l47:#[Xlk,K,f47,oc47,od47,"add_row","Merge.add_row",Zal,kV47,dc47,pm47,an47,cd47,ct47,sl47]) (c47:#[Xci,K,cd47,"Merge.add_row"]) (k47:#[Xki,K,f47])
  (a48:#[Xfi,K,cMerge,"drop_row",f48]) (i48:#[Xif,K,f48]) (l48:#[Xlk,K,f48,oc48,od48,"drop_row","Merge.drop_row",Zad,kV48,dc48,pm48,an48,cd48,ct48,sl48]) (c48:#[Xci,K,cd48,"Merge.drop_row"]) (k48:#[Xki,K,f48])
  (a49:#[Xfi,K,cMerge,"grow",f49]) (i49:#[Xif,K,f49]) (l49:#[Xlk,K,f49,oc49,od49,"grow","Merge.grow",ZaM,kV49,dc49,pm49,an49,cd49,ct49,sl49]) (c49:#[Xci,K,cd49,"Merge.grow"]) (k49:#[Xki,K,f49])
  (a50:#[Xfi,K,cMerge,"row_of",f50]) (i50:#[Xif,K,f50]) (l50:#[Xlk,K,f50,oc50,od50,"row_of","Merge.row_of",Zap,kV50,dc50,pm50,an50,cd50,ct50,sl50]) (c50:#[Xci,K,cd50,"Merge.row_of"]) (k50:#[Xki,K,f50])
  (a51:#[Xfi,K,cMerge,"play_all",f51]) (i51:#[Xif,K,f51]) (l51:#[Xlk,K,f51,oc51,od51,"play_all","Merge.play_all",Zae,kV51,dc51,pm51,an51,cd51,ct51,sl51]) (c51:#[Xci,K,cd51,"Merge.play_all"]) (k51:#[Xki,K,f51])
  (a52:#[Xfi,K,cMerge,"play",f52]) (i52:#[Xif,K,f52]) (l52:#[Xlk,K,f52,oc52,od52,"play","Merge.play",ZaL,kV52,dc52,pm52,an52,cd52,ct52,sl52]) (c52:#[Xci,K,cd52,"Merge.play"]) (k52:#[Xki,K,f52])
  (a53:#[Xfi,K,cMerge,"send_out",f53]) (i53:#[Xif,K,f53]) (l53:#[Xlk,K,f53,oc53,od53,"send_out","Merge.send_out",Zac,kV53,dc53,pm53,an53,cd53,ct53,sl53]) (c53:#[Xci,K,cd53,"Merge.send_out"]) (k53:#[Xki,K,f53])
  (a54:#[Xfi,K,cMerge,"play_again",f54]) (i54:#[Xif,K,f54]) (l54:#[Xlk,K,f54,oc54,od54,"play_again","Merge.play_again",ZZ,kV54,dc54,pm54,an54,cd54,ct54,sl54]) (c54:#[Xci,K,cd54,"Merge.play_again"]) (k54:#[Xki,K,f54])
  (a55:#[Xfi,K,cMerge,"meet",f55]) (i55:#[Xif,K,f55]) (l55:#[Xlk,K,f55,oc55,od55,"meet","Merge.meet",ZaJ,kV55,dc55,pm55,an55,cd55,ct55,sl55]) (c55:#[Xci,K,cd55,"Merge.meet"]) (k55:#[Xki,K,f55])
  (giMOST_ROWS:PySem.W.nsIn K mainGlobals "MOST_ROWS" = some (some (.int 16 tkMOST_ROWS)))
  (z0:PySem.W.nsIn K mainGlobals "abs" = some none) (z1:PySem.W.nsIn K mainGlobals "all" = some none) (z2:PySem.W.nsIn K mainGlobals "bool" = some none) (z3:PySem.W.nsIn K mainGlobals "enumerate" = some none) (z4:PySem.W.nsIn K mainGlobals "int" = some none) (z5:PySem.W.nsIn K mainGlobals "isinstance" = some none) (z6:PySem.W.nsIn K mainGlobals "len" = some none) (z7:PySem.W.nsIn K mainGlobals "list" = some none) (z8:PySem.W.nsIn K mainGlobals "max" = some none) (z9:PySem.W.nsIn K mainGlobals "min" = some none) (z10:PySem.W.nsIn K mainGlobals "range" = some none) (z11:PySem.W.nsIn K mainGlobals "sorted" = some none) (z12:PySem.W.nsIn K mainGlobals "str" = some none) (z13:PySem.W.nsIn K mainGlobals "sum" = some none) (z14:PySem.W.nsIn K mainGlobals "tuple" = some none) (z15:PySem.W.nsIn K mainGlobals "zip" = some none) :
  ∃fd:FuncData,(∀ (s:Shared) (v:Value),BindsTo s fd ⟨[v],[]⟩ [("_law_script",v)])∧∀base:Heap,K.In base→base.Ns mainGlobals mg→ZeE l.prog w K mg base CX0 18 fa fd ["_law_script"] (ZkT K):=by
 have e:=hfa.symm.trans (Qa3 X G a34)
 cases e
 have T:Zai K mg cRow cMerge:=⟨⟨QG X G z0,QG X G z1,QG X G z2,QG X G z3,QG X G z4,QG X G z5,QG X G z6,QG X G z7,QG X G z8,QG X G z9,QG X G z10,QG X G z11,QG X G z12,QG X G z13,QG X G z14,QG X G z15⟩,ZX X G a0 l0 c0 k0 (fun _ _ _ _ _ _ us hl=>by obtain⟨_,rfl⟩:=ZcB us hl;exact rfl),ZX X G a1 l1 c1 k1 (fun _ _ _ _ _ _ us hl=>by obtain⟨_,_,rfl⟩:=Zce us hl;exact rfl),ZX X G a2 l2 c2 k2 (fun _ _ _ _ _ _ us hl=>by obtain⟨_,_,rfl⟩:=Zce us hl;exact rfl),ZX X G a3 l3 c3 k3 (fun _ _ _ _ _ _ us hl=>by obtain⟨_,_,rfl⟩:=Zce us hl;exact rfl),ZX X G a4 l4 c4 k4 (fun _ _ _ _ _ _ us hl=>by obtain⟨_,_,_,rfl⟩:=Zjf us hl;exact rfl),ZX X G a5 l5 c5 k5 (fun _ _ _ _ _ _ us hl=>by obtain⟨_,_,_,rfl⟩:=Zjf us hl;exact rfl),ZX X G a6 l6 c6 k6 (fun _ _ _ _ _ _ us hl=>by obtain⟨_,_,_,rfl⟩:=Zjf us hl;exact rfl),ZX X G a7 l7 c7 k7 (fun _ _ _ _ _ _ us hl=>by obtain⟨_,rfl⟩:=ZcB us hl;exact rfl),ZX X G a8 l8 c8 k8 (fun _ _ _ _ _ _ us hl=>by obtain⟨_,rfl⟩:=ZcB us hl;exact rfl),ZX X G a9 l9 c9 k9 (fun _ _ _ _ _ _ us hl=>by obtain⟨_,_,rfl⟩:=Zce us hl;exact rfl),ZX X G a10 l10 c10 k10 (fun _ _ _ _ _ _ us hl=>by obtain⟨_,_,rfl⟩:=Zce us hl;exact rfl),ZX X G a11 l11 c11 k11 (fun _ _ _ _ _ _ us hl=>by obtain⟨_,_,rfl⟩:=Zce us hl;exact rfl),ZX X G a12 l12 c12 k12 (fun _ _ _ _ _ _ us hl=>by obtain⟨_,_,rfl⟩:=Zce us hl;exact rfl),ZX X G a13 l13 c13 k13 (fun _ _ _ _ _ _ us hl=>by obtain⟨_,_,rfl⟩:=Zce us hl;exact rfl),ZX X G a14 l14 c14 k14 (fun _ _ _ _ _ _ us hl=>by obtain⟨_,rfl⟩:=ZcB us hl;exact rfl),ZX X G a15 l15 c15 k15 (fun _ _ _ _ _ _ us hl=>by obtain⟨_,_,rfl⟩:=Zce us hl;exact rfl),ZX X G a16 l16 c16 k16 (fun _ _ _ _ _ _ us hl=>by obtain⟨_,_,_,rfl⟩:=Zjf us hl;exact rfl),ZX X G a17 l17 c17 k17 (fun _ _ _ _ _ _ us hl=>by obtain⟨_,_,_,rfl⟩:=Zjf us hl;exact rfl),ZX X G a18 l18 c18 k18 (fun _ _ _ _ _ _ us hl=>by obtain⟨_,rfl⟩:=ZcB us hl;exact rfl),ZX X G a19 l19 c19 k19 (fun _ _ _ _ _ _ us hl=>by obtain⟨_,rfl⟩:=ZcB us hl;exact rfl),ZX X G a20 l20 c20 k20 (fun _ _ _ _ _ _ us hl=>by obtain⟨_,_,rfl⟩:=Zce us hl;exact rfl),ZX X G a21 l21 c21 k21 (fun _ _ _ _ _ _ us hl=>by obtain⟨_,rfl⟩:=ZcB us hl;exact rfl),ZX X G a22 l22 c22 k22 (fun _ _ _ _ _ _ us hl=>by obtain⟨_,_,rfl⟩:=Zce us hl;exact rfl),ZX X G a23 l23 c23 k23 (fun _ _ _ _ _ _ us hl=>by obtain⟨_,_,rfl⟩:=Zce us hl;exact rfl),ZX X G a24 l24 c24 k24 (fun _ _ _ _ _ _ us hl=>by obtain⟨_,rfl⟩:=ZcB us hl;exact rfl),ZX X G a25 l25 c25 k25 (fun _ _ _ _ _ _ us hl=>by obtain⟨_,rfl⟩:=ZcB us hl;exact rfl),ZX X G a26 l26 c26 k26 (fun _ _ _ _ _ _ us hl=>by obtain⟨_,_,rfl⟩:=Zce us hl;exact rfl),ZX X G a27 l27 c27 k27 (fun _ _ _ _ _ _ us hl=>by obtain⟨_,rfl⟩:=ZcB us hl;exact rfl),ZX X G a28 l28 c28 k28 (fun _ _ _ _ _ _ us hl=>by obtain⟨_,_,rfl⟩:=Zce us hl;exact rfl),ZX X G a29 l29 c29 k29 (fun _ _ _ _ _ _ us hl=>by obtain⟨_,rfl⟩:=ZcB us hl;exact rfl),ZX X G a30 l30 c30 k30 (fun _ _ _ _ _ _ us hl=>by obtain⟨_,rfl⟩:=ZcB us hl;exact rfl),ZX X G a31 l31 c31 k31 (fun _ _ _ _ _ _ us hl=>by obtain⟨_,rfl⟩:=ZcB us hl;exact rfl),ZX X G a32 l32 c32 k32 (fun _ _ _ _ _ _ us hl=>by obtain⟨_,_,rfl⟩:=Zce us hl;exact rfl),ZX X G a33 l33 c33 k33 (fun _ _ _ _ _ _ us hl=>by obtain⟨_,_,_,rfl⟩:=Zjf us hl;exact rfl),⟨_,_,ZJ (st:=Zbe) l35 c35 k35,⟨mkRow,a35,i35,kcRow⟩,(ZJ (st:=Zbe) l35 c35 k35).binds (ps:=["self", "keys"]) (fun _ _ _ _ _ _ us hl=>by obtain⟨_,_,rfl⟩:=Zce us hl;exact rfl),Qa3 X G aCRow⟩,⟨_,_,ZJ (st:=ZaW) l36 c36 k36,⟨a36,i36,k36⟩,(ZJ (st:=ZaW) l36 c36 k36).binds (ps:=["self"]) (fun _ _ _ _ _ _ us hl=>by obtain⟨_,rfl⟩:=ZcB us hl;exact rfl)⟩,⟨_,_,ZJ (st:=Zbf) l37 c37 k37,⟨a37,i37,k37⟩,(ZJ (st:=Zbf) l37 c37 k37).binds (ps:=["self"]) (fun _ _ _ _ _ _ us hl=>by obtain⟨_,rfl⟩:=ZcB us hl;exact rfl)⟩,⟨_,_,ZJ (st:=Zas) l38 c38 k38,⟨a38,i38,k38⟩,(ZJ (st:=Zas) l38 c38 k38).binds (ps:=["self", "keys"]) (fun _ _ _ _ _ _ us hl=>by obtain⟨_,_,rfl⟩:=Zce us hl;exact rfl)⟩,⟨_,_,ZJ (st:=ZaK) l39 c39 k39,⟨mkMerge,a39,i39,kcMerge⟩,(ZJ (st:=ZaK) l39 c39 k39).binds (ps:=["self", "rows"]) (fun _ _ _ _ _ _ us hl=>by obtain⟨_,_,rfl⟩:=Zce us hl;exact rfl),Qa3 X G aCMerge⟩,⟨_,_,ZJ (st:=Zar) l40 c40 k40,⟨a40,i40,k40⟩,(ZJ (st:=Zar) l40 c40 k40).binds (ps:=["self"]) (fun _ _ _ _ _ _ us hl=>by obtain⟨_,rfl⟩:=ZcB us hl;exact rfl)⟩,⟨_,_,ZJ (st:=ZaP) l41 c41 k41,⟨a41,i41,k41⟩,(ZJ (st:=ZaP) l41 c41 k41).binds (ps:=["self"]) (fun _ _ _ _ _ _ us hl=>by obtain⟨_,rfl⟩:=ZcB us hl;exact rfl)⟩,⟨_,_,ZJ (st:=Zaa) l42 c42 k42,⟨a42,i42,k42⟩,(ZJ (st:=Zaa) l42 c42 k42).binds (ps:=["self", "many"]) (fun _ _ _ _ _ _ us hl=>by obtain⟨_,_,rfl⟩:=Zce us hl;exact rfl)⟩,⟨_,_,ZJ (st:=Zax) l43 c43 k43,⟨a43,i43,k43⟩,(ZJ (st:=Zax) l43 c43 k43).binds (ps:=["self"]) (fun _ _ _ _ _ _ us hl=>by obtain⟨_,rfl⟩:=ZcB us hl;exact rfl)⟩,⟨_,_,ZJ (st:=Zao) l44 c44 k44,⟨a44,i44,k44⟩,(ZJ (st:=Zao) l44 c44 k44).binds (ps:=["self"]) (fun _ _ _ _ _ _ us hl=>by obtain⟨_,rfl⟩:=ZcB us hl;exact rfl)⟩,⟨_,_,ZJ (st:=Z5) l45 c45 k45,⟨a45,i45,k45⟩,(ZJ (st:=Z5) l45 c45 k45).binds (ps:=["self"]) (fun _ _ _ _ _ _ us hl=>by obtain⟨_,rfl⟩:=ZcB us hl;exact rfl)⟩,⟨_,_,ZJ (st:=ZaA) l46 c46 k46,⟨a46,i46,k46⟩,(ZJ (st:=ZaA) l46 c46 k46).binds (ps:=["self"]) (fun _ _ _ _ _ _ us hl=>by obtain⟨_,rfl⟩:=ZcB us hl;exact rfl)⟩,⟨_,_,ZJ (st:=Zal) l47 c47 k47,⟨a47,i47,k47⟩,(ZJ (st:=Zal) l47 c47 k47).binds (ps:=["self", "row"]) (fun _ _ _ _ _ _ us hl=>by obtain⟨_,_,rfl⟩:=Zce us hl;exact rfl)⟩,⟨_,_,ZJ (st:=Zad) l48 c48 k48,⟨a48,i48,k48⟩,(ZJ (st:=Zad) l48 c48 k48).binds (ps:=["self", "n"]) (fun _ _ _ _ _ _ us hl=>by obtain⟨_,_,rfl⟩:=Zce us hl;exact rfl)⟩,⟨_,_,ZJ (st:=ZaM) l49 c49 k49,⟨a49,i49,k49⟩,(ZJ (st:=ZaM) l49 c49 k49).binds (ps:=["self", "n", "keys"]) (fun _ _ _ _ _ _ us hl=>by obtain⟨_,_,_,rfl⟩:=Zjf us hl;exact rfl)⟩,⟨_,_,ZJ (st:=Zap) l50 c50 k50,⟨a50,i50,k50⟩,(ZJ (st:=Zap) l50 c50 k50).binds (ps:=["self", "n"]) (fun _ _ _ _ _ _ us hl=>by obtain⟨_,_,rfl⟩:=Zce us hl;exact rfl)⟩,⟨_,_,ZJ (st:=Zae) l51 c51 k51,⟨a51,i51,k51⟩,(ZJ (st:=Zae) l51 c51 k51).binds (ps:=["self"]) (fun _ _ _ _ _ _ us hl=>by obtain⟨_,rfl⟩:=ZcB us hl;exact rfl)⟩,⟨_,_,ZJ (st:=ZaL) l52 c52 k52,⟨a52,i52,k52⟩,(ZJ (st:=ZaL) l52 c52 k52).binds (ps:=["self", "numbers"]) (fun _ _ _ _ _ _ us hl=>by obtain⟨_,_,rfl⟩:=Zce us hl;exact rfl)⟩,⟨_,_,ZJ (st:=Zac) l53 c53 k53,⟨a53,i53,k53⟩,(ZJ (st:=Zac) l53 c53 k53).binds (ps:=["self", "number"]) (fun _ _ _ _ _ _ us hl=>by obtain⟨_,_,rfl⟩:=Zce us hl;exact rfl)⟩,⟨_,_,ZJ (st:=ZZ) l54 c54 k54,⟨a54,i54,k54⟩,(ZJ (st:=ZZ) l54 c54 k54).binds (ps:=["self", "meeting", "comer"]) (fun _ _ _ _ _ _ us hl=>by obtain⟨_,_,_,rfl⟩:=Zjf us hl;exact rfl)⟩,⟨_,_,ZJ (st:=ZaJ) l55 c55 k55,⟨a55,i55,k55⟩,(ZJ (st:=ZaJ) l55 c55 k55).binds (ps:=["self", "one", "other", "far"]) (fun _ _ _ _ _ _ us hl=>by obtain⟨_,_,_,_,rfl⟩:=ZsT us hl;exact rfl)⟩,⟨pgRow,hdRow,poRow,saRow⟩,nARow_all_keys,nARow_fars,nARow_gone,⟨pgMerge,hdMerge,poMerge,saMerge⟩,nAMerge_best,nAMerge_likened,nAMerge_looked,nAMerge_next_number,nAMerge_rows,nAMerge_stays,⟨_,Qa3 X G giMOST_ROWS⟩⟩
 exact⟨PySem.W.fnOf "law" "law" (Zp Zca) (Zn Zca) (Zg Zca) .none kV34 dc34 pm34 an34 cd34 ct34,fun s v=>.of_eq rfl,fun base _ _=>ZqF (ZJ (st:=Zca) l34 c34 k34) T⟩
theorem walk{l:PySem.W.OpenLaw}{q:Program}{loose:List Str}{XP:(Str→Option Value)→Heap→Prop}{YP:World→Heap→Prop}{d:DefRec}{K:Params→PySem.W.Frag}(hn:l.most=some 63)(hdf:d.params.defaults=[])
  (hY:∀ (w:World) (h:Heap),YP w h→(K w.params).In h)
  (F:∀ (w:World) (mg:Str→Option Value) (fa:Addr) (h:Heap),(K w.params).In h→h.Ns mainGlobals mg→mg d.name=some (.ref fa) →
   ∃fd:FuncData,(∀ (s:Shared) (u:Value),BindsTo s fd ⟨[u],[]⟩ [("_law_script",u)])∧∀base:Heap,(K w.params).In base→base.Ns mainGlobals mg→ZeE l.prog w (K w.params) mg base CX0 18 fa fd ["_law_script"] (ZkT (K w.params))) :
  PySem.W.WalkO q loose XP YP l.row.toRowW d [] (fun f vs=>PySem.call f vs) :=
 L2.walk_of (n:=63) (k:=18) (x := "_law_script") (CX:=fun _=>CX0) (sp:=fun w=>ZkT (K w.params)) hn (by decide) hdf ⟨rfl,by decide,by decide,rfl⟩ hY F (fun _ _ a ns hl _ hS=>⟨a,ns,rfl,hS,hl,fun _=>rfl⟩) fun _ _ _ _ _ z=>z
end My
open PySem PySem.W PyProof.Rows
namespace PySem.W.Fast
def tw3024997305807436976:=0
def tw9622659919008335536:=0
def tw14354995535780508097:=0
def tw458781461031541729:=0
def tw5596001058887192726:=0
def tw4597008885154091286:=0
def tw6498163657622331607:=0
def tw18086947824201274199:=0
def tw2359350359730552234:=0
def tw12756022931124582203:=0
def tw404451658621281177:=0
def tw3027792917509277721:=0
def tw14824811126235525711:=0
def tw8841944133175399394:=0
def tw6010656602474083490:=0
def tw3274587667295416051:=0
def tw17280361785742301395:=0
def tw4076367745531857489:=0
def tw7771802137103404262:=0
def tw16267277963150382662:=0
def tw4804119942071770695:=0
def tw6740913772943098650:=0
def tw10204049412813271947:=0
def tw16427545553125769099:=0
def tw17739708830428022686:=0
def tw14807476391356678045:=0
def tw578089930254454809:=0
def tw7256855854204770554:=0
def tw4856699174897779012:=0
def tw10922710956885230072:=0
def tw3706037782366757150:=0
def tw12815587579215100992:=0
def tw18299138421995946923:=0
def tw16027117508062866810:=0
def tw16867467764327192925:=0
def tw14193039163550960914:=0
def tw11888053258398284510:=0
def tw6805604500747747595:=0
def tw6731086429330097464:=0
def tw10574921154484993561:=0
def tw18398600057572485140:=0
def tw7117365358946941398:=0
def tw17556834351050926491:=0
def tw17454526212888950055:=0
def tw15120829736662612271:=0
def tw16192660469430440518:=0
def tw7852503514553149376:=0
def tw2635553725930191215:=0
def tw2440724971558803175:=0
def tw14170642491061652383:=0
def tw9774021910159408814:=0
def tw2160604263752514654:=0
def tw15596614700671914675:=0
def tw3359089570133554051:=0
def tw1873020126435039822:=0
def tw1337189560603301028:=0
def tw18201344754322280960:=0
def tw11674862192532974182:=0
def tw2995088039905510551:=0
def tw2890503553869104486:=0
def tw14138962027779721498:=0
def tw15357521240958476429:=0
def tw8774105786521758741:=0
def tw2984513190838701468:=0
def tw6420774204770747321:=0
def tw3307390128202501564:=0
def tw3017194279967273113:=0
def tw16060592996379593086:=0
def tw15635563046888069678:=0
def tw15676591774958833450:=0
def tw5696592152934229001:=0
def tw10556702266868869181:=0
def tw8059506910386782583:=0
def tw13140872879839433286:=0
def tw13304111208017595557:=0
def tw12126868598302775546:=0
def tw14417279667893372876:=0
def tw11102740448201210348:=0
def tw1476700852210899158:=0
def tw11902962711943534542:=0
def tw14034718313938815302:=0
def tw13962691325828171942:=0
def tw3518966887920842693:=0
def tw9864149627416908683:=0
def tw3853719003172272360:=0
def tw12391278583112398746:=0
def tw17993077369061251584:=0
def tw14868979209474590628:=0
def tw10546698465273593295:=0
def tw2320755148402175970:=0
def tw13020704166620330698:=0
def tw10842134317516230135:=0
def tw9885227376491368988:=0
def tw8643878595110515119:=0
def tw658045820122712328:=0
def tw12517852865172526590:=0
def tw1891150597870675584:=0
def tw5696123691757925979:=0
def tw14013470976526033785:=0
def tw11123648042681366553:=0
def tw5086906850224138327:=0
def tw4397310187941734339:=0
def tw4128664456346849406:=0
def tw6894222103379282191:=0
def tw15972679024910890545:=0
def tw15029188311664012511:=0
def tw15123035063868388086:=0
def tw8296236056894419550:=0
def tw6006201098193669728:=0
def tw8978714135263073798:=0
def tw16624051039503960995:=0
def tw13747865671805429288:=0
def tw9439024062380523519:=0
def tw8032710483440520159:=0
def tw10559546088925336921:=0
def tw6789347045262949777:=0
def tw16510836812547501551:=0
def tw2183022321108804233:=0
def tw3884380646190938646:=0
def tw4578959214796369402:=0
def tw8733762525084820071:=0
def tw8307092438337138604:=0
def tw7026691296455252909:=0
def tw11415191925091216866:=0
def tw7766430808658117548:=0
def tw9480329646830778464:=0
def tw17770157166209760713:=0
def tw288600601416093197:=0
def tw3615834648413970435:=0
def tw12440941674021321995:=0
def tw787401193005171192:=0
def tw10795743127658701818:=0
def tw7358758220788898108:=0
def tw7768930986184706384:=0
def tw2156195704305219514:=0
def tw6979606056256109821:=0
def tw10947591696339892761:=0
def tw12570562153529432816:=0
def tw16944019223891259390:=0
def tw1080968887346279611:=0
def tw13586500235321489080:=0
def tw16430284190049937041:=0
def tw9582381279212979949:=0
def tw18024681366137777079:=0
def tw14666995515817072800:=0
def tw14574730196961240868:=0
def tw3235693150253353677:=0
def tw9890422796059373275:=0
def tw9969362526866056814:=0
def tw5807067612702391447:=0
def tw3954786325797171060:=0
def tw15336012653516296101:=0
def tw17796333564890602992:=0
def tw13674054433032768717:=0
def tw1045094332409221078:=0
def tw2496822962540692859:=0
def tw13231273459715112323:=0
def tw1673287809212008430:=0
def tw2476008753709112913:=0
def tw17468974562739619280:=0
def tw70237417412571376:=0
def tw13808409802965879214:=0
def tw7350147169789904466:=0
def tw4020303022173893340:=0
def tw6757451860235625358:=0
def tw7235025746969585833:=0
def tw15483710677231628607:=0
def tw14133538190412895977:=0
def tw1120581031366236347:=0
def tw4938927972934923304:=0
def tw15039517077064428757:=0
def tw15317734954498634030:=0
def tw11286884402896466707:=0
def tw1465886492225637557:=0
def tw2706518852494229670:=0
def tw2020119442718048612:=0
def tw10878354634750251008:=0
def tw10091572107224041656:=0
def tw4826139842170822894:=0
def tw834818634242764111:=0
def tw18145444893037299702:=0
def tw16177330330134652423:=0
def tw1395934247061409106:=0
def tw6148666339761291388:=0
def tw12379371940580254526:=0
def tw983204196406483480:=0
def tw11912493382024407062:=0
def tw6323861968667544149:=0
def tw6874028634896118901:=0
def tw6137337931966212867:=0
def tw17874120622149739648:=0
def tw11879817041343582031:=0
def tw15257721826324217398:=0
def tw3886533979307353760:=0
def tw14293131544221439481:=0
def tw6459058850598511581:=0
def tw7494501013667686838:=0
def tw4969563262024638359:=0
def tw16521595794479249012:=0
def tw5935042741312811397:=0
def tw2123857776678457392:=0
def tw8443648181944698903:=0
def tw3388770735687875017:=0
def tw7008391773872930077:=0
def tw13696491166897701625:=0
def tw17689010187061672531:=0
def tw4844177342550359448:=0
def tw1262677448981270843:=0
def tw15696448776251389630:=0
def tw2159695844023061511:=0
def tw6770927652428191787:=0
def tw5452707541898230495:=0
def tw3882907640406166413:=0
def tw12565777185850218132:=0
def tw13553537079361108276:=0
def tw16616777492546187240:=0
def tw1374894820707369272:=0
def tw8649672515673704896:=0
def tw13270109822339295747:=0
def tw4765463741271866474:=0
def tw15279626185065585444:=0
def tw1388307110510062999:=0
def tw12066975010344223437:=0
def tw12109337714489542120:=0
def tw15613014256889829979:=0
def tw6220939296012622753:=0
def tw7819922342120778536:=0
def tw14113320848738659282:=0
def tw6508181054218785702:=0
def tw1979862725986482509:=0
def tw4746353737004099624:=0
def tw4656966879296102146:=0
def tw17126232594924058749:=0
def tw13859602761911514091:=0
def tw8608535310025766161:=0
def tw1585772749118186343:=0
def tw173874073229052286:=0
def tw17404429443027257524:=0
def tw4828275185029357942:=0
def tw3090252282625653287:=0
def tw7112519504857243265:=0
def tw5558275798407045409:=0
def tw17583721089323554503:=0
def tw11314633773413147757:=0
def tw685866949102234978:=0
def tw10194072928333072904:=0
def tw4958606713279596982:=0
def tw12603382531391411084:=0
def tw4084864526477809474:=0
def tw17033065098754815924:=0
def tw13960747844285655086:=0
def tw2719909987139588661:=0
def tw11392242719201575029:=0
def tw9817620577841600822:=0
def tw7250705714820165172:=0
def tw17997516525498347754:=0
def tw16960108748917268319:=0
def tw2124505720355018045:=0
def tw4114471576311493855:=0
def tw17593844297453504472:=0
def tw14981844372759320083:=0
def tw9086484297612210097:=0
def tw1584504579198896846:=0
def tw14799460444724107255:=0
def tw8421122047989801227:=0
def tw7582785552245780661:=0
def tw6151392813962048665:=0
def tw6779620038446802314:=0
def tw729335565312672017:=0
def tw4331742048305127013:=0
def tw8720889496880803464:=0
def tw13986189422049319182:=0
def tw4841170528284223509:=0
def tw16126019289803921540:=0
def tw5297153329730646049:=0
def tw7439459650151192939:=0
def tw4910307220302536401:=0
def tw1359384457303802303:=0
def tw11500352707058242011:=0
def tw1291921724008107347:=0
def tw5490668249836660107:=0
def tw501748124652545507:=0
def tw13462861240485254346:=0
def tw13580761656863171509:=0
def tw10210608983769313233:=0
def tw10865359166883739892:=0
def tw11828979043732636628:=0
def tw15548321783723623154:=0
def tw8389680919222367476:=0
def tw12963346989425225213:=0
def tw13134361626566183275:=0
def tw13713686541577438158:=0
def tw18347279583880998639:=0
def tw16803446578760485539:=0
def tw8102021549280222349:=0
def tw7719744987065663000:=0
def tw11701808089698908828:=0
def tw11743335877204547970:=0
def tw862640246535728744:=0
def tw9410919563631009584:=0
def tw561649632698202346:=0
def tw2113017390225940332:=0
def tw3730388327855053407:=0
def tw6423978142304815710:=0
def tw4425162424415025221:=0
def tw17233325537351002403:=0
def tw640558042123171288:=0
def tw8862546629769883751:=0
def tw10215049469025618750:=0
def tw10329837051022222251:=0
def tw325127688402657757:=0
def tw9977591339872766791:=0
def tw13674137301551389942:=0
def tw17992205538300146487:=0
def tw1567961313846004912:=0
def tw1101871892042223921:=0
def tw7167855729500087380:=0
def tw17964747312906093393:=0
def tw2208180064528096736:=0
def tw12088366938530548188:=0
def tw15424093779522463278:=0
def tw7521357664200968883:=0
def tw14534062227781192273:=0
def tw15813809581981059625:=0
def tw6968718060571031186:=0
def tw2853418537342941987:=0
def tw7036763272533018295:=0
def tw14078192917297703949:=0
def tw16345101151652507365:=0
def tw5837847822372362831:=0
def tw9419318050121224063:=0
def tw9213621064580548392:=0
def tw3236211447410007784:=0
def tw11847079550922999106:=0
def tw8650032656129137303:=0
def tw1594052934456781721:=0
def tw5598972313365312899:=0
def tw15261163195602688451:=0
def tw6244752090039308092:=0
def tw199116206953763187:=0
def tw149313301166997449:=0
def tw17836819875107805464:=0
def tw4966327748627281019:=0
def tw9623263708197403019:=0
def tw4841971047674906137:=0
def tw6504013091408958794:=0
def tw18218369015241367316:=0
def tw17156390882020222916:=0
def tw8722537223138128777:=0
def tw15412882596978038646:=0
def tw7835597018334165797:=0
def tw4985877918579384475:=0
def tw17961158447479904588:=0
def tw8112900155699294519:=0
def tw2477911456227093943:=0
def tw9162474946536348351:=0
def tw12500182304008647438:=0
def tw15113673805190583311:=0
def tw3384440436587470925:=0
def tw4222516687365756264:=0
def tw14518968997093619624:=0
def tw16911429180865761172:=0
def tw5189446185785864274:=0
def tw7386635903558324671:=0
def tw8813277533480135542:=0
def tw3921436592472683102:=0
def tw17928779248624571394:=0
def tw17428457894620913986:=0
def tw11065285861869044235:=0
def tw4003821836959783134:=0
def tw16238478491736440841:=0
def tw17175402270464348328:=0
def tw4448051051038118673:=0
def tw15769041119361261219:=0
def tw5747747488274469461:=0
def tw15462403845794642002:=0
def tw8438797474752958235:=0
def tw7623119830117050006:=0
def tw17429442443321291425:=0
def tw4537881092195750239:=0
def tw14609667590179478518:=0
def tw9439852683807794282:=0
def tw8798614547424220469:=0
def tw409048741277931359:=0
def tw6590754376168070279:=0
def tw4499511503948100128:=0
def tw4556936659098428359:=0
def tw12662902825430828519:=0
def tw13711812189019708269:=0
def tw14871632961352851302:=0
def tw4673797523331478648:=0
def tw1033963214556100505:=0
def tw505128021364533666:=0
def tw7843356469118886665:=0
def tw13362370808842040920:=0
def tw3080269071464843168:=0
def tw5787795507162459680:=0
end PySem.W.Fast
set_option maxRecDepth 100000 in
set_option maxHeartbeats 0 in
theorem PySem.Challenge.cw_mergetree_k20_rows_that_grow_holds : PySem.Challenge.rw_mergetree_k20_rows_that_grow.Holds := by
 w_on;o_law;k_head;(case hw=>w_witness2)
 k_fill
 refine My.walk (l:=PySem.Challenge.rw_mergetree_k20_rows_that_grow) rfl rfl (fun w h Y=>PySem.W.kIn_of Y) ?F
 case F =>
  intro w mg fa h KX G hmg
  refine' My.all_mk KX G hmg ?aCRow ?pgRow ?hdRow ?poRow ?saRow ?mkRow ?kcRow ?nARow_all_keys ?nARow_fars ?nARow_gone ?aCMerge ?pgMerge ?hdMerge ?poMerge ?saMerge ?mkMerge ?kcMerge ?nAMerge_best ?nAMerge_likened ?nAMerge_looked ?nAMerge_next_number ?nAMerge_rows ?nAMerge_stays ?a0 ?l0 ?c0 ?k0 ?a1 ?l1 ?c1 ?k1 ?a2 ?l2 ?c2 ?k2 ?a3 ?l3 ?c3 ?k3 ?a4 ?l4 ?c4 ?k4 ?a5 ?l5 ?c5 ?k5 ?a6 ?l6 ?c6 ?k6 ?a7 ?l7 ?c7 ?k7 ?a8 ?l8 ?c8 ?k8 ?a9 ?l9 ?c9 ?k9 ?a10 ?l10 ?c10 ?k10 ?a11 ?l11 ?c11 ?k11 ?a12 ?l12 ?c12 ?k12 ?a13 ?l13 ?c13 ?k13 ?a14 ?l14 ?c14 ?k14 ?a15 ?l15 ?c15 ?k15 ?a16 ?l16 ?c16 ?k16 ?a17 ?l17 ?c17 ?k17 ?a18 ?l18 ?c18 ?k18 ?a19 ?l19 ?c19 ?k19 ?a20 ?l20 ?c20 ?k20 ?a21 ?l21 ?c21 ?k21 ?a22 ?l22 ?c22 ?k22 ?a23 ?l23 ?c23 ?k23 ?a24 ?l24 ?c24 ?k24 ?a25 ?l25 ?c25 ?k25 ?a26 ?l26 ?c26 ?k26 ?a27 ?l27 ?c27 ?k27 ?a28 ?l28 ?c28 ?k28 ?a29 ?l29 ?c29 ?k29 ?a30 ?l30 ?c30 ?k30 ?a31 ?l31 ?c31 ?k31 ?a32 ?l32 ?c32 ?k32 ?a33 ?l33 ?c33 ?k33 ?a34 ?l34 ?c34 ?k34 ?a35 ?i35 ?l35 ?c35 ?k35 ?a36 ?i36 ?l36 ?c36 ?k36 ?a37 ?i37 ?l37 ?c37 ?k37 ?a38 ?i38 ?l38 ?c38 ?k38 ?a39 ?i39 ?l39 ?c39 ?k39 ?a40 ?i40 ?l40 ?c40 ?k40 ?a41 ?i41 ?l41 ?c41 ?k41 ?a42 ?i42 ?l42 ?c42 ?k42 ?a43 ?i43 ?l43 ?c43 ?k43 ?a44 ?i44 ?l44 ?c44 ?k44 ?a45 ?i45 ?l45 ?c45 ?k45 ?a46 ?i46 ?l46 ?c46 ?k46 ?a47 ?i47 ?l47 ?c47 ?k47 ?a48 ?i48 ?l48 ?c48 ?k48 ?a49 ?i49 ?l49 ?c49 ?k49 ?a50 ?i50 ?l50 ?c50 ?k50 ?a51 ?i51 ?l51 ?c51 ?k51 ?a52 ?i52 ?l52 ?c52 ?k52 ?a53 ?i53 ?l53 ?c53 ?k53 ?a54 ?i54 ?l54 ?c54 ?k54 ?a55 ?i55 ?l55 ?c55 ?k55 ?giMOST_ROWS ?z0 ?z1 ?z2 ?z3 ?z4 ?z5 ?z6 ?z7 ?z8 ?z9 ?z10 ?z11 ?z12 ?z13 ?z14 ?z15
  (case aCRow=>k_is)
  (case pgRow=>k_is)
  (case hdRow=>k_is)
  (case poRow=>k_is)
  (case saRow=>k_is)
  (case mkRow=>k_is)
  (case kcRow=>k_is)
  (case nARow_all_keys=>k_is)
  (case nARow_fars=>k_is)
  (case nARow_gone=>k_is)
  (case aCMerge=>k_is)
  (case pgMerge=>k_is)
  (case hdMerge=>k_is)
  (case poMerge=>k_is)
  (case saMerge=>k_is)
  (case mkMerge=>k_is)
  (case kcMerge=>k_is)
  (case nAMerge_best=>k_is)
  (case nAMerge_likened=>k_is)
  (case nAMerge_looked=>k_is)
  (case nAMerge_next_number=>k_is)
  (case nAMerge_rows=>k_is)
  (case nAMerge_stays=>k_is)
  (case a0|l0|c0|k0=>k_is)
  (case a1|l1|c1|k1=>k_is)
  (case a2|l2|c2|k2=>k_is)
  (case a3|l3|c3|k3=>k_is)
  (case a4|l4|c4|k4=>k_is)
  (case a5|l5|c5|k5=>k_is)
  (case a6|l6|c6|k6=>k_is)
  (case a7|l7|c7|k7=>k_is)
  (case a8|l8|c8|k8=>k_is)
  (case a9|l9|c9|k9=>k_is)
  (case a10|l10|c10|k10=>k_is)
  (case a11|l11|c11|k11=>k_is)
  (case a12|l12|c12|k12=>k_is)
  (case a13|l13|c13|k13=>k_is)
  (case a14|l14|c14|k14=>k_is)
  (case a15|l15|c15|k15=>k_is)
  (case a16|l16|c16|k16=>k_is)
  (case a17|l17|c17|k17=>k_is)
  (case a18|l18|c18|k18=>k_is)
  (case a19|l19|c19|k19=>k_is)
  (case a20|l20|c20|k20=>k_is)
  (case a21|l21|c21|k21=>k_is)
  (case a22|l22|c22|k22=>k_is)
  (case a23|l23|c23|k23=>k_is)
  (case a24|l24|c24|k24=>k_is)
  (case a25|l25|c25|k25=>k_is)
  (case a26|l26|c26|k26=>k_is)
  (case a27|l27|c27|k27=>k_is)
  (case a28|l28|c28|k28=>k_is)
  (case a29|l29|c29|k29=>k_is)
  (case a30|l30|c30|k30=>k_is)
  (case a31|l31|c31|k31=>k_is)
  (case a32|l32|c32|k32=>k_is)
  (case a33|l33|c33|k33=>k_is)
  (case a34|l34|c34|k34=>k_is)
  (case a35|i35|l35|c35|k35=>k_is)
  (case a36|i36|l36|c36|k36=>k_is)
  (case a37|i37|l37|c37|k37=>k_is)
  (case a38|i38|l38|c38|k38=>k_is)
  (case a39|i39|l39|c39|k39=>k_is)
  (case a40|i40|l40|c40|k40=>k_is)
  (case a41|i41|l41|c41|k41=>k_is)
  (case a42|i42|l42|c42|k42=>k_is)
  (case a43|i43|l43|c43|k43=>k_is)
  (case a44|i44|l44|c44|k44=>k_is)
  (case a45|i45|l45|c45|k45=>k_is)
  (case a46|i46|l46|c46|k46=>k_is)
  (case a47|i47|l47|c47|k47=>k_is)
  (case a48|i48|l48|c48|k48=>k_is)
  (case a49|i49|l49|c49|k49=>k_is)
  (case a50|i50|l50|c50|k50=>k_is)
  (case a51|i51|l51|c51|k51=>k_is)
  (case a52|i52|l52|c52|k52=>k_is)
  (case a53|i53|l53|c53|k53=>k_is)
  (case a54|i54|l54|c54|k54=>k_is)
  (case a55|i55|l55|c55|k55=>k_is)
  (case giMOST_ROWS=>k_is)
  (case z0=>k_is)
  (case z1=>k_is)
  (case z2=>k_is)
  (case z3=>k_is)
  (case z4=>k_is)
  (case z5=>k_is)
  (case z6=>k_is)
  (case z7=>k_is)
  (case z8=>k_is)
  (case z9=>k_is)
  (case z10=>k_is)
  (case z11=>k_is)
  (case z12=>k_is)
  (case z13=>k_is)
  (case z14=>k_is)
  (case z15=>k_is)
