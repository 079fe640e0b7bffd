import PyProof.Rows.All
import Wide.All
import OpenK.AllK
import Wide.FinOn
import Lean
import PyProof.EqAt
import PyProof.EqKinds
import PyProof.TupleCall
import PyProof.AttrMissHeap
import KE.KEqDict
import KE.KItemsList
import PyProof.WalksMore
import PyProof.TupleOfStr
import PySem.Challenge.RW_mergetree_k43_near_ones_shown
set_option maxHeartbeats 4000000
set_option maxRecDepth 100000
set_option Elab.async false
set_option linter.all false
local macro_rules|`(tactic|ac_rfl)=>`(tactic|decide +kernel)
abbrev Qa:=@List.length_map
abbrev Qb:=@PySem.Heap.get?_push_of_some
abbrev Qc:=@List.getElem?_eq_getElem
abbrev Qd:=@Nat.le_refl
abbrev Qe:=@List.length_append
abbrev Qf:=@List.map_append
abbrev Qg:=@List.mem_singleton
abbrev Qh:=@List.length_singleton
abbrev Qi:=@List.getElem?_eq_some_iff
abbrev Qj:=@Bool.false_ne_true
abbrev Qk:=@List.length_take
abbrev Ql:=@List.mem_cons_of_mem
abbrev Qm:=@Nat.zero_le
abbrev Qn:=@List.take_of_length_le
abbrev Qo:=@PySem.Heap.lt_size
abbrev Qp:=@PySem.Heap.get?_push_size
abbrev Qq:=@List.size_toArray
abbrev Qr:=@List.mem_append
abbrev Qs:=@List.mem_append_right
abbrev Qt:=@List.getElem?_map
abbrev Qu:=@List.mem_cons_self
abbrev Qv:=@List.take_add_one
abbrev Qw:=@PySem.boot_len
abbrev Qx:=@Nat.ne_of_lt
abbrev Qy:=@Nat.lt_of_lt_of_le
abbrev Qz:=@List.mem_map
abbrev QA:=@List.length_drop
abbrev QB:=@List.mem_of_getElem?
abbrev QC:=@PySem.F.plainAttrs_list
abbrev QD:=@List.length_cons
abbrev QE:=@List.map_cons
abbrev QF:=@PySem.W.mg_none_of
abbrev QG:=@List.append_nil
abbrev QH:=@Array.length_toList
abbrev QI:=@Nat.le_trans
abbrev QJ:=@List.mem_range
abbrev QK:=@List.mem_cons
abbrev QL:=@List.getD_eq_getElem?_getD
abbrev QM:=@Option.some.inj
abbrev QN:=@List.filterMap_cons
abbrev QO:=@List.mem_of_mem_take
abbrev QP:=@PySem.F.slot_list_append
abbrev QR:=@PySem.F.type_list_append
abbrev QS:=@Int.le_refl
abbrev QT:=@List.getElem?_eq_none
abbrev QU:=@List.take_append_drop
abbrev QV:=@List.reverse_cons
abbrev QW:=@List.mem_of_mem_drop
abbrev QX:=@Nat.lt_irrefl
abbrev QY:=@PySem.W.kia_one
abbrev QZ:=@Nat.ne_of_gt
abbrev Q0:=@List.map_map
abbrev Q1:=@PySem.Heap.size_push
abbrev Q2:=@PySem.F.slot_dict_itemiterator_next
abbrev Q3:=@Nat.le_of_lt
abbrev Q4:=@PySem.F.slot_dict_keyiterator_next
abbrev Q5:=@List.getElem_mem
abbrev Q6:=@Int.toNat_natCast
abbrev Q7:=@List.append_assoc
abbrev Q8:=@PyProof.Rows.slot_tuple_getitem
abbrev Q9:=@PySem.mem_of_lookup
abbrev Qaa:=@Nat.add_lt_add_left
abbrev Qab:=@PyProof.Rows.callWith_type1
abbrev Qac:=@PySem.Heap.get?_update_of_ne
abbrev Qad:=@Nat.le_add_right
abbrev Qae:=@PySem.F.slot_list_extend
abbrev Qaf:=@PySem.F.type_list_extend
abbrev Qag:=@PySem.Heap.SameBut.update
abbrev Qah:=@List.map_congr_left
abbrev Qai:=@List.length_pos_iff
abbrev Qaj:=@Bool.and_eq_true
abbrev Qak:=@Nat.lt_add_of_pos_right
abbrev Qal:=@List.take_zero
abbrev Qam:=@List.pairwise_singleton
abbrev Qan:=@Nat.le_add_left
abbrev Qao:=@List.getElem?_toArray
abbrev Qap:=@List.dropLast_eq_take
abbrev Qaq:=@List.mem_append_left
abbrev Qar:=@List.getElem?_append_right
abbrev Qas:=@List.length_dropLast
abbrev Qat:=@List.lookup_cons
abbrev Qau:=@List.getElem?_append_left
abbrev Qav:=@List.rel_of_pairwise_cons
abbrev Qaw:=@List.length_reverse
abbrev Qax:=@List.getElem_of_mem
abbrev Qay:=@PySem.F.args_tuple_add_2
abbrev Qaz:=@Bool.eq_iff_iff
abbrev QaA:=@List.nodup_cons
abbrev QaB:=@List.range_succ
abbrev QaC:=@Int.emod_lt_of_pos
abbrev QaD:=@List.filter_append
abbrev QaE:=@PySem.F.entry_tuple_add
abbrev QaF:=@PySem.F.slot_tuple_add
abbrev QaG:=@Nat.lt_trans
abbrev QaH:=@List.length_range
abbrev QaI:=@List.pairwise_map
abbrev QaM:=@Nat.le_succ
namespace L2
open PySem PySem.Spec PyProof.Rows
abbrev Key:=Sum Int Str
def Zfp:Key→Value→Bool
 | .inl k,v=>Value.isInt k v
 | .inr x,v=>Value.isStrOf x v
def Zoc(w:World):Key→Int
 | .inl k=>hashInt k
 | .inr x=>hashStr w x
theorem Zai:∀ {k:Key} {v:Value},Zfp k v=true→(∃i t,k=Sum.inl i∧v=Value.int i t)∨(∃x t,k=Sum.inr x∧v=Value.str x t)
 | .inl i,v,h=>by
  obtain⟨t,e⟩:=Value.isInt_shape (k:=i) (v:=v) h
  exact .inl ⟨i,t,rfl,e⟩
 | .inr x,v,h=>by
  obtain⟨t,e⟩:=Value.isStrOf_shape (x:=x) (v:=v) h
  exact .inr ⟨x,t,rfl,e⟩
theorem ZiR(i:Int)(t:Tok):Zfp (.inl i) (.int i t)=true:=by simp[Zfp,Value.isInt]
theorem ZiY(x:Str)(t:Tok):Zfp (.inr x) (.str x t)=true:=by simp[Zfp,Value.isStrOf]
theorem Zm5(a b:Int):decide ((Sum.inl a:Key)=Sum.inl b)=(a == b):=by
 by_cases e:a=b
 ·subst e;simp
 ·have h:¬ (Sum.inl a:Key)=Sum.inl b:=fun q=>e (Sum.inl.inj q)
  rw[decide_eq_false h]
  exact(beq_eq_false_iff_ne.mpr e).symm
theorem Zm4(a b:Str):decide ((Sum.inr a:Key)=Sum.inr b)=decide (a=b):=by
 by_cases e:a=b
 ·subst e;simp
 ·have h:¬ (Sum.inr a:Key)=Sum.inr b:=fun q=>e (Sum.inr.inj q)
  rw[decide_eq_false h,decide_eq_false e]
theorem Znd(a:Int)(b:Str):decide ((Sum.inl a:Key)=Sum.inr b)=false:=decide_eq_false (fun q=>nomatch q)
theorem ZmJ(a:Str)(b:Int):decide ((Sum.inr a:Key)=Sum.inl b)=false:=decide_eq_false (fun q=>nomatch q)
def ZW(prog:Program)(w:World):PySem.KeyKind prog w Key where
 is:=Zfp
 hash:=Zoc w
 inj:=fun v a b ha hb=>by
  rcases Zai ha with⟨i,t,rfl,rfl⟩|⟨x,t,rfl,rfl⟩
  ·rcases Zai hb with⟨j,u,rfl,e⟩|⟨y,u,rfl,e⟩
   ·injection e with e1 _;rw[e1]
   ·exact nomatch e
  ·rcases Zai hb with⟨j,u,rfl,e⟩|⟨y,u,rfl,e⟩
   ·exact nomatch e
   ·injection e with e1 _;rw[e1]
 byValue:=fun k v h=>by
  rcases Zai h with⟨i,t,rfl,rfl⟩|⟨x,t,rfl,rfl⟩<;>rfl
 pyHash:=fun hv h=>by
  rcases Zai hv with⟨i,t,rfl,rfl⟩|⟨x,t,rfl,rfl⟩
  ·exact wpAny_pyHash_int h
  ·exact wpAny_pyHash_str h
 eqBool:=fun hu hv h=>by
  rcases Zai hu with⟨i,t,rfl,rfl⟩|⟨x,t,rfl,rfl⟩
  ·rcases Zai hv with⟨j,u,rfl,rfl⟩|⟨y,u,rfl,rfl⟩
   ·rw[Zm5]at h;exact wpAny_eqBool_int h
   ·rw[Znd]at h;exact SeqAt.EqAt.int_str i t y u _ _ _ _ h
  ·rcases Zai hv with⟨j,u,rfl,rfl⟩|⟨y,u,rfl,rfl⟩
   ·rw[ZmJ]at h;exact SeqAt.EqAt.str_int x t j u _ _ _ _ h
   ·rw[Zm4]at h;exact wpAny_eqBool_str h
 «strs»:=fun k x t v h=>by
  rcases Zai h with⟨i,u,rfl,e⟩|⟨y,u,rfl,e⟩
  ·exact nomatch e
  ·injection e with e1 _
   subst e1
   cases v<;>rfl
theorem ZgF(prog:Program)(w:World)(i:Int)(t:Tok):(ZW prog w).is (.inl i) (.int i t)=true:=ZiR i t
theorem Zgd(prog:Program)(w:World)(x:Str)(t:Tok):(ZW prog w).is (.inr x) (.str x t)=true:=ZiY x t
inductive V where
 | non|bl (b:Bool)|int (i:Int)|str (x:Str)|byt (b:Array UInt8)|flt (b:UInt64)|ref (a:Addr)|ty (n:String)
 deriving DecidableEq
def ZT:V→Value→Prop
 | .non,u=>u=Value.none
 | .bl b,u=>u=Value.bool b
 | .int i,u=>∃t,u=Value.int i t
 | .str x,u=>∃t,u=Value.str x t
 | .byt b,u=>∃t,u=Value.bytes b t
 | .flt b,u=>∃t,u=Value.float b t
 | .ref a,u=>u=Value.ref a
 | .ty n,u=>u=Value.type n
abbrev ZE:List V→List Value→Prop:=Paired ZT
theorem ZE.length{xs:List V}{us:List Value}(r:ZE xs us):xs.length=us.length:=Paired.length r
theorem ZE.get:∀ {xs:List V} {us:List Value} {i:Nat} {x:V},ZE xs us→xs[i]? = some x→∃u,us[i]? = some u∧ZT x u
 | _,_,_,_,.nil,e=>by simp at e
 | _,_,0,_,.cons r _,e=>by simp at e;subst e;exact⟨_,rfl,r⟩
 | _,_,i+1,x,.cons _ t,e=>by
  obtain⟨u,h1,h2⟩:=ZE.get (i:=i) (x:=x) t (by simpa using e)
  exact⟨u,by simpa using h1,h2⟩
theorem ZE.set{x:V}{u:Value}(r:ZT x u):∀ {xs:List V} {us:List Value} (i:Nat),ZE xs us→ZE (xs.set i x) (us.set i u)
 | _,_,_,.nil=>.nil
 | _,_,0,.cons _ t=>.cons r t
 | _,_,i+1,.cons q t=>.cons q (ZE.set r i t)
theorem ZE.append:∀ {xs ys:List V} {us ws:List Value},ZE xs us→ZE ys ws→ZE (xs++ys) (us++ws)
 | _,_,_,_,.nil,s=>s
 | _,_,_,_,.cons r t,s=>.cons r (ZE.append t s)
theorem ZE.take:∀ {xs:List V} {us:List Value} (n:Nat),ZE xs us→ZE (xs.take n) (us.take n)
 | _,_,0,_=>.nil
 | _,_,_+1,.nil=>.nil
 | _,_,n+1,.cons r t=>.cons r (ZE.take n t)
theorem ZE.drop:∀ {xs:List V} {us:List Value} (n:Nat),ZE xs us→ZE (xs.drop n) (us.drop n)
 | _,_,0,r=>r
 | _,_,_+1,.nil=>.nil
 | _,_,n+1,.cons _ t=>ZE.drop n t
def Zm1:Option V→Option Value→Prop
 | some v,some u=>ZT v u
 | none,none=>True
 | _,_=>False
def KV{κ:Type}:List (κ×V)→List (κ×Value)→Prop:=Paired fun (p:κ×V) (q:κ×Value)=>p.1=q.1∧ZT p.2 q.2
def kV:Key→V
 | .inl i=>.int i
 | .inr x=>.str x
inductive HO where
  | lst (xs:List V)
  | tup (xs:List V)
  | dK (kvs:List (Key×V))|dT (kvs:List (List Key×V))
  | set (S:Int→Bool) (n:Nat)
  | ins (C dx:Addr) (fs:List (Str×V))
  | own (x:Addr)
  | xd (fs:List (Str×V))
  | met (f x:Addr)
  | rng (lo hi:Int)
  | frz (o:Obj) (u:HO)
  | tbl (ps:Array Value)
  | ext (φ:Heap→Prop)
abbrev Hp:=Addr→Option HO
def upd(H:Hp)(a:Addr)(o:HO):Hp:=fun b=>if b=a then some o else H b
theorem Zb{H:Hp}{a:Addr}{o:HO}:upd H a o a=some o:=by unfold upd;rw[if_pos rfl]
theorem Zi{H:Hp}{a b:Addr}{o:HO}(h:b≠a):upd H a o b=H b:=by unfold upd;rw[if_neg h]
theorem ZjZ{H:Hp}{a b:Addr}{o u:HO}(h:H a=some o)(h':H b=some u)(d:o≠u):a≠b:=by
 intro e;subst e;rw[h]at h';exact d (QM h')
theorem Zg{H:Hp}{a b:Addr}{o:HO}(h:H a=some o)(h':H b=none):a≠b:=by
 intro e;subst e;rw[h]at h';cases h'
section
variable (P:Program) (w:World)
def Zah(H:Hp)(h:Heap)(a:Addr):HO→Prop
 | .lst xs=>xs.length≤sizeLine∧∃ (its:List Value) (n:Nat),ZE xs its∧h.get? a=some { cls:=.type "list",data:=.seq its.toArray n }
 | .tup xs=>xs.length≤sizeLine∧∃its:List Value,ZE xs its∧IsTup h a its.toArray
 | .dK kvs=>kvs.length≤sizeLine∧(a == sysModules)=false∧∃vs,KV kvs vs∧h.DictOf (ZW P w) a vs
 | .dT kvs=>kvs.length≤sizeLine∧(a == sysModules)=false∧∃xs:List (List Key×Addr×Value),
   Paired (fun (p:List Key×V) (q:List Key×Addr×Value)=>p.1=q.1∧H q.2.1=some (.tup (p.1.map kV))∧ZT p.2 q.2.2) kvs xs ∧
   ∃o es ep,h.get? a=some o∧o.ExactDict∧o.data=.dict es ep∧es.toList=xs.map (entryOfKey (tupleKind (ZW P w)))∧(xs.map (·.1)).Nodup
 | .set S n=>h.SetOf (intKind P w) a S n
 | .ins C dx fs=>H dx=some (.own a)∧fs.length≤1000∧dx≠a∧h.get? a=some (PySem.W.instObj C dx) ∧
   ∃mA,h.Ns1 dx mA∧(∀f,Zm1 (fs.lookup f) (mA f))∧PySem.Within mA (fs.map (·.1))
 | .own _=>∃o,h.get? a=some o
 | .xd fs=>∃mA,h.Ns1 a mA∧∀f,Zm1 (fs.lookup f) (mA f)
 | .rng lo hi=>∃t u v,h.get? a=some { cls:=.type "range",data:=.fields #[.int lo t,.int hi u,.int 1 v] }
 | .frz o u=>h.get? a=some o∧Zah H h a u
 | .tbl ps=>h.get? a=some { cls:=.none,data:=.fields ps }
 | .met f x=>h.get? a=some (PySem.W.methodObj (.ref f) (.ref x))
 | .ext φ=>φ h∧(∃o,h.get? a=some o)∧∀h1 h2:Heap,φ h1→(∀o,h1.get? a=some o→h2.get? a=some o)→φ h2
def HOk(H:Hp)(h:Heap):Prop:=∀a o,H a=some o→Zah P w H h a o
end
section
variable {P:Program} {w:World} {H H':Hp} {h h':Heap} {a:Addr} {o:HO}
theorem Zah.lt(x:Zah P w H h a o):a<h.objs.size:=by
 cases o with
 | lst xs=>obtain⟨_,_,_,_,e⟩:=x;exact Qo e
 | tup xs=>obtain⟨_,_,_,p⟩:=x;exact p.lt
 | dK kvs=>obtain⟨_,_,_,_,o,_,_,e,_⟩:=x;exact Qo e
 | dT kvs=>obtain⟨_,_,_,_,o,_,_,e,_⟩:=x;exact Qo e
 | set S n=>obtain⟨o,_,_,_,e,_⟩:=x;exact Qo e
 | ins C dx fs=>obtain⟨_,_,_,e,_⟩:=x;exact Qo e
 | own y=>obtain⟨_,e⟩:=x;exact Qo e
 | xd fs=>obtain⟨_,⟨_,_,_,e,_⟩,_⟩:=x;exact Qo e
 | rng lo hi=>obtain⟨_,_,_,e⟩:=x;exact Qo e
 | frz ob u=>obtain⟨e,_⟩:=x;exact Qo e
 | tbl ps=>exact Qo (show h.get? a=some _ from x)
 | met f y=>exact Qo (show h.get? a=some _ from x)
 | ext φ=>obtain⟨_,⟨_,e⟩,_⟩:=x;exact Qo e
theorem Paired.mapP{α β:Type}{F G:α→β→Prop}:∀ {l₁:List α} {l₂:List β},Paired F l₁ l₂→(∀a b,F a b→G a b)→Paired G l₁ l₂
 | _,_,.nil,_=>.nil
 | _,_,.cons r t,f=>.cons (f _ _ r) (Paired.mapP t f)
theorem Zah.stay(x:Zah P w H h a o)(k:∀b u,(b=a∨H b=some (.own a))→h.get? b=some u→h'.get? b=some u)
  (ho:∀b,H b=some (.own a)→H' b=some (.own a)) (ht:∀b xs,H b=some (.tup xs)→H' b=some (.tup xs)):Zah P w H' h' a o:=by
 induction o with
 | lst xs=>obtain⟨z,its,n,r,e⟩:=x;exact⟨z,its,n,r,k _ _ (.inl rfl) e⟩
 | tup xs=>obtain⟨z,its,r,ob,e,c⟩:=x;exact⟨z,its,r,ob,k _ _ (.inl rfl) e,c⟩
 | dK kvs=>obtain⟨z,y,vs,r,ob,es,ep,e,c⟩:=x;exact⟨z,y,vs,r,ob,es,ep,k _ _ (.inl rfl) e,c⟩
 | dT kvs =>
  obtain⟨z,y,xs,r,ob,es,ep,e,c⟩:=x
  exact⟨z,y,xs,Paired.mapP r fun p q z=>⟨z.1,ht _ _ z.2.1,z.2.2⟩,ob,es,ep,k _ _ (.inl rfl) e,c⟩
 | set S n=>obtain⟨ob,es,ep,t,e,c⟩:=x;exact⟨ob,es,ep,t,k _ _ (.inl rfl) e,c⟩
 | ins C dx fs =>
  obtain⟨d,z,ne,e,mA,⟨od,es,ep,e2,c⟩,r⟩:=x
  exact⟨ho _ d,z,ne,k _ _ (.inl rfl) e,mA,⟨od,es,ep,k _ _ (.inr d) e2,c⟩,r⟩
 | own y=>obtain⟨ob,e⟩:=x;exact⟨ob,k _ _ (.inl rfl) e⟩
 | xd fs=>obtain⟨mA,⟨od,es,ep,e,c⟩,r⟩:=x;exact⟨mA,⟨od,es,ep,k _ _ (.inl rfl) e,c⟩,r⟩
 | rng lo hi=>obtain⟨t,u,v,e⟩:=x;exact⟨t,u,v,k _ _ (.inl rfl) e⟩
 | frz ob u ih=>obtain⟨e,q⟩:=x;exact⟨k _ _ (.inl rfl) e,ih q⟩
 | tbl ps =>
  have e:h.get? a=some { cls:=.none,data:=.fields ps }:=x
  show h'.get? a=some { cls:=.none,data:=.fields ps }
  exact k a _ (.inl rfl) e
 | met f y =>
  have e:h.get? a=some (PySem.W.methodObj (.ref f) (.ref y)):=x
  show h'.get? a=some (PySem.W.methodObj (.ref f) (.ref y))
  exact k a _ (.inl rfl) e
 | ext φ=>obtain⟨p,⟨o,e⟩,st⟩:=x;exact⟨st _ _ p fun o q=>k _ _ (.inl rfl) q,⟨o,k _ _ (.inl rfl) e⟩,st⟩
theorem HOk.lt(x:HOk P w H h)(e:H a=some o):a<h.objs.size:=(x a o e).lt
theorem HOk.fresh(x:HOk P w H h)(e:h.objs.size≤a):H a=none:=by
 cases q:H a with
 | none=>rfl
 | some u=>exact absurd (Qy (x.lt q) e) (QX _)
theorem HOk.kept(x:HOk P w H h)(k:∀b u,h.get? b=some u→h'.get? b=some u):HOk P w H h':=fun a o e =>
 (x a o e).stay (fun b u _ q=>k b u q) (fun _ q=>q) fun _ _ q=>q
theorem HOk.laid(x:HOk P w H h)(k:∀b u,h.get? b=some u→h'.get? b=some u)(hp:h.objs.size≤a)(new:Zah P w (upd H a o) h' a o):HOk P w (upd H a o) h':=fun b u e=>by
 have hn:=x.fresh hp
 by_cases hb:b=a
 ·subst hb;rw[Zb]at e;cases e;exact new
 ·rw[Zi hb]at e
  exact(x b u e).stay (fun c v _ q=>k c v q) (fun c q=>by rw[Zi (Zg q hn)];exact q) fun c xs q=>by rw[Zi (Zg q hn)];exact q
end
def Rd(H:Hp)(a:Addr)(u:HO):Prop:=H a=some u∨∃o,H a=some (.frz o u)
theorem Rd.ok{P:Program}{w:World}{H:Hp}{h:Heap}{a:Addr}{u:HO}(r:Rd H a u)(x:HOk P w H h):Zah P w H h a u:=by
 rcases r with r|⟨o,r⟩
 ·exact x a u r
 ·obtain⟨_,q⟩:=x a _ r
  exact q
def Mut:Option HO→Prop
 | some (.lst _)=>True
 | some (.dK _)=>True
 | some (.dT _)=>True
 | some (.set _ _)=>True
 | some (.ins _ _ _)=>True
 | some (.ext _)=>True
 | _=>False
section
variable {P:Program} {w:World} {H:Hp} {h h':Heap} {x e:Addr} {o':HO}
theorem HOk.write(ok:HOk P w H h)(mu:Mut (H x))(he:e=x∨H e=some (.own x))(k:∀b u,b≠e→h.get? b=some u→h'.get? b=some u)(heo:∃u,h'.get? e=some u)
  (new:Zah P w (upd H x o') h' x o'):HOk P w (upd H x o') h':=fun b u q=>by
 have nown:∀c y,H c=some (.own y)→c≠x:=fun c y r z=>by subst z;rw[r]at mu;exact mu
 have ntup:∀c xs,H c=some (.tup xs)→c≠x:=fun c xs r z=>by subst z;rw[r]at mu;exact mu
 by_cases hb:b=x
 ·subst hb;rw[Zb]at q;cases q;exact new
 ·rw[Zi hb]at q
  by_cases hbe:b=e
  ·have q':H b=some (.own x):=by
    rcases he with z|z
    ·exact absurd (hbe.trans z) hb
    ·rw[hbe];exact z
   rw[q]at q';cases q'
   obtain⟨v,hv⟩:=heo
   exact⟨v,by rw[hbe];exact hv⟩
  ·refine(ok b u q).stay (fun c v hc r=>k c v ?_ r) (fun c r=>by rw[Zi (nown c b r)];exact r) fun c xs r=>by rw[Zi (ntup c xs r)];exact r
   rcases hc with rfl|hc
   ·exact hbe
   ·rintro rfl
    rcases he with z|z
    ·exact nown c b hc z
    ·rw[hc]at z;cases z;exact hb rfl
end
structure Un (fs ex:List Addr) (H H':Hp) (h h':Heap):Prop where
 keep:∀b o,h.get? b=some o→H b=none→b ∉ fs→b ∉ ex→h'.get? b=some o
 slot:∀b o,h.get? b=some o→H b=none→b∈fs→b ∉ ex→∃sl,h'.get? b=some { o with slots:=sl }
 free:∀b o,h.get? b=some o→H b=none→b ∉ ex→H' b=none
 there:∀b o,h.get? b=some o→b ∉ ex→∃o',h'.get? b=some o'
 tups:∀b xs,H b=some (.tup xs)→H' b=some (.tup xs)
 frzs:∀b o u,H b=some (.frz o u)→H' b=some (.frz o u)
 tbls:∀b ps,H b=some (.tbl ps)→∃more,H' b=some (.tbl (ps++more))
section
variable {fs fs' ex ex':List Addr} {H H1 H2:Hp} {h h1 h2 h':Heap} {a x e:Addr} {o:HO}
theorem Un.any(u:Un fs ex H H1 h h1){b:Addr}{ob:Obj}(q:h.get? b=some ob)(n:H b=none)(hx:b ∉ ex):∃sl,h1.get? b=some { ob with slots:=sl }:=by
 by_cases hb:b∈fs
 ·exact u.slot b ob q n hb hx
 ·exact⟨ob.slots,u.keep b ob q n hb hx⟩
theorem Un.kept(k:∀b u,h.get? b=some u→h'.get? b=some u):Un fs ex H H h h' :=
 ⟨fun b ob q _ _ _=>k b ob q,fun b ob q _ _ _=>⟨ob.slots,k b ob q⟩,fun _ _ _ n _=>n,fun b ob q _=>⟨ob,k b ob q⟩,fun _ _ q=>q,fun _ _ _ q=>q,fun _ ps q=>⟨#[],by rw[q];simp⟩⟩
theorem Un.refl:Un fs ex H H h h:=Un.kept fun _ _ q=>q
theorem Un.laid(k:∀b u,h.get? b=some u→h'.get? b=some u)(hp:h.objs.size≤a)(hn:H a=none):Un fs ex H (upd H a o) h h' where
 keep:=fun b u q _ _ _=>k b u q
 slot:=fun b u q _ _ _=>⟨u.slots,k b u q⟩
 free:=fun b u q n _=>by rw[Zi (Qx (Qy (Qo q) hp))];exact n
 there:=fun b u q _=>⟨u,k b u q⟩
 tups:=fun b xs q=>by rw[Zi (Zg q hn)];exact q
 frzs:=fun b u xs q=>by rw[Zi (Zg q hn)];exact q
 tbls:=fun b ps q=>⟨#[],by rw[Zi (Zg q hn),q];simp⟩
theorem Un.write(mu:Mut (H x))(he:e=x∨H e=some (.own x))(k:∀b u,b≠e→h.get? b=some u→h'.get? b=some u)(heo:∃u,h'.get? e=some u):Un fs ex H (upd H x o) h h':=by
 have hx:∀b,H b=none→b≠x:=fun b n z=>by subst z;rw[n]at mu;exact mu
 have hb:∀b,H b=none→b≠e:=fun b n z=>by
  subst z
  rcases he with r|r
  ·exact hx b n r
  ·rw[n]at r;cases r
 have hm:∀b u,H b=some u→¬ Mut (some u)→b≠x:=fun b u q nm z=>by subst z;rw[q]at mu;exact nm mu
 refine⟨fun b u q n _ _=>k b u (hb b n) q,fun b u q n _ _=>⟨u.slots,k b u (hb b n) q⟩,fun b u q n _=>by rw[Zi (hx b n)];exact n,fun b u q _=>?_,
  fun b xs q=>by rw[Zi (hm b _ q fun z=>z)];exact q,fun b u xs q=>by rw[Zi (hm b _ q fun z=>z)];exact q,fun b ps q=>⟨#[],by rw[Zi (hm b _ q fun z=>z),q];simp⟩⟩
 by_cases hbe:b=e
 ·subst hbe;exact heo
 ·exact⟨u,k b u hbe q⟩
end
def trk(h:Heap)(H:Hp):List Addr:=(List.range h.objs.size).filter fun a=>(H a).isSome
def ZfF(h:Heap)(H:Hp):Heap:=PySem.W.hideAll h (trk h H)
theorem ZiW(h:Heap)(H:Hp):(ZfF h H).objs.size=h.objs.size:=PySem.W.hideAll_size _ _
theorem Zj8{h:Heap}{H:Hp}{b:Addr}{o:Obj}(e:h.get? b=some o)(n:H b=none):(ZfF h H).get? b=some o :=
 PySem.W.hideAll_get _ e fun hm=>by
  have q:(H b).isSome=true:=(List.mem_filter.mp hm).2
  rw[n]at q;simp at q
theorem ZlA{h:Heap}{H:Hp}{b:Addr}{o:Obj}(e:(ZfF h H).get? b=some o):h.get? b=some o∧H b=none:=by
 have e':h.get? b=some o:=PySem.W.of_hideAll (trk h H) e
 refine⟨e',?_⟩
 cases q:H b with
 | none=>rfl
 | some x =>
  have hm:b∈trk h H:=List.mem_filter.mpr ⟨QJ.mpr (Qo e'),by simp[q]⟩
  have z:(ZfF h H).get? b=none:=PySem.W.hideAll_none (trk h H) hm
  rw[z]at e;cases e
def ZlQ(g h:Heap)(L:Addr):List (Addr×Obj):=(List.range h.objs.size).filterMap fun a=>if a=L∨(g.get? a).isSome=true then none else (h.get? a).map fun o=>(a,o)
def rest(g h:Heap)(L d:Addr):List (Addr×Obj):=(ZlQ g h L).filter fun p=>decide (p.1≠d)
structure Mod (K:PySem.W.Frag) (mg:Str→Option Value) (base:Heap):Prop where
 kin:K.In base
 glob:base.Ns mainGlobals mg
 blt:∃mb,base.Ns builtinsNs mb∧∀x:Str,x ≠ "__name__"→mb x=bootBuiltins x
 nolimit:base.NoLimit
structure Cx where
 prog:Program
 w:World
 K:PySem.W.Frag
 mg:Str→Option Value
 base:Heap
 A:Around
 N:List Str
 s₀:Shared
 H₀:Hp
 env:Env
 outer:List Env
 stack:List Env
 ex:List Addr
 fn:Str→Bool
 calm:Bool
 pn:List (Addr×Obj)
 xe:Value→Shared→Prop
def frs(l:List Env):List Addr:=l.filterMap (·.frame)
abbrev Cx.fs(X:Cx):List Addr:=frs X.outer
def Vis(sc:Scope)(x:Str):Prop:=sc.names.lookup x=some .local∨sc.names.lookup x=some .cell∨sc.names.lookup x=some .free
def Loc(sc:Scope)(x:Str):Prop:=sc.names.lookup x=some .local∨sc.names.lookup x=some .cell
def Zos(env:Env)(h:Heap)(m:Str→Option Value)(x:Str)(u:Value):Prop :=
 (env.kindOf x=some .local∧m x=some u)∨((env.kindOf x=some .cell∨env.kindOf x=some .free)∧∃c,env.cells.lookup x=some c∧h.IsCell c (some u))
structure Cx.Ok (X:Cx):Prop where
 mod:Mod X.K X.mg X.base
 kind:X.env.scope.kind=.function
 glob:X.env.globals=mainGlobals
 blt:X.env.builtins=builtinsNs
 above:X.s₀.heap.objs.size≤X.env.locals
 inj:∀x y c,X.env.cells.lookup x=some c→X.env.cells.lookup y=some c→x=y
 has:∀x,(X.env.kindOf x=some .cell∨X.env.kindOf x=some .free)→∃c,X.env.cells.lookup x=some c
 cab:∀x c,X.fn x=true→X.env.cells.lookup x=some c→X.s₀.heap.objs.size≤c
 hd:X.calm=true→X.A.handled=none
 frames:X.A.frames=some X.stack
 stk:X.stack=X.outer∨(X.stack=X.env::X.outer∧X.env.frame=some X.env.locals)
 exf:∀b∈X.ex,b≠X.env.locals∧∀x c,X.env.cells.lookup x=some c→c≠b
 bs:∀b o,X.base.get? b=some o→X.s₀.heap.get? b=some o∧X.H₀ b=none
 bsz:X.base.objs.size≤X.s₀.heap.objs.size
 noex:∀b o,X.base.get? b=some o→b ∉ X.ex
 exfs:∀b∈X.ex,b ∉ X.fs
 funs:X.s₀.heap.FunFrames X.base X.outer
 frf:∀b∈X.fs,X.H₀ b=none
structure Inv (X:Cx) (pins:List (Addr×Obj)) (σ:List (Option V)) (H:Hp) (s:Shared):Prop where
 ok:X.Ok
 os:s.os=X.s₀.os
 bare:AllBare s.gens
 base:Un X.fs X.ex X.H₀ H X.s₀.heap s.heap
 loc:∃m,s.heap.Ns X.env.locals m∧∀ (i:Nat) (x:Str) (v:V),X.N[i]? = some x→σ[i]? = some (some v)→Vis X.env.scope x→∃u,ZT v u∧Zos X.env s.heap m x u
 cell:∀x c,X.env.cells.lookup x=some c→∃v,s.heap.IsCell c v
 free:H X.env.locals=none
 freeC:∀x c,X.env.cells.lookup x=some c→H c=none
 pin:∀p∈X.pn++pins,s.heap.get? p.1=some p.2∧H p.1=none∧p.1≠X.env.locals∧p.1 ∉ X.fs∧∀v,p.2.data≠.cell v
 hok:HOk X.prog X.w H s.heap
 len:σ.length=X.N.length
section
variable {X:Cx} {pins:List (Addr×Obj)} {σ:List (Option V)} {H H':Hp} {s:Shared} {h':Heap}
theorem Cx.Ok.nofr(ok:X.Ok){b:Addr}{o:Obj}(e:X.base.get? b=some o):b ∉ X.fs:=fun hb=>by
 have:=(ok.funs.mem hb).1
 rw[e]at this;cases this
theorem Inv.bs(I:Inv X pins σ H s):∀b o,X.base.get? b=some o→s.heap.get? b=some o∧H b=none:=fun b o e =>
 ⟨I.base.keep b o (I.ok.bs b o e).1 (I.ok.bs b o e).2 (I.ok.nofr e) (I.ok.noex b o e),I.base.free b o (I.ok.bs b o e).1 (I.ok.bs b o e).2 (I.ok.noex b o e)⟩
theorem Inv.bk(I:Inv X pins σ H s):∀b o,X.base.get? b=some o→s.heap.get? b=some o:=fun b o e=>(I.bs b o e).1
theorem Inv.mod(I:Inv X pins σ H s):Mod X.K X.mg X.base:=I.ok.mod
theorem Inv.kIn(I:Inv X pins σ H s):X.K.In s.heap:=I.ok.mod.kin.keeps I.bk
theorem Inv.lt(I:Inv X pins σ H s):X.env.locals<s.heap.objs.size:=let ⟨_,hn,_⟩:=I.loc;hn.lt
theorem Inv.sz(I:Inv X pins σ H s):X.s₀.heap.objs.size≤s.heap.objs.size:=QI I.ok.above (Q3 I.lt)
theorem Inv.nofs(I:Inv X pins σ H s){a:Addr}(h:s.heap.objs.size≤a):a ∉ X.fs:=fun hb=>by
 obtain⟨_,o,ho,_⟩:=I.ok.funs.mem hb
 exact absurd (Qy (Qo ho) (QI I.sz h)) (QX _)
theorem Inv.cne(I:Inv X pins σ H s):∀x c,X.env.cells.lookup x=some c→c≠X.env.locals:=fun x c e z=>by
 obtain⟨v,o,ho,hd⟩:=I.cell x c e
 obtain⟨m,⟨o',es,ep,ho',hd',_⟩,_⟩:=I.loc
 rw[z,ho']at ho;cases ho;rw[hd']at hd;cases hd
theorem Inv.funs(I:Inv X pins σ H s):s.heap.FunFrames X.base X.outer:=by
 have all:∀ (l:List Env),(∀b∈frs l,b∈X.fs)→X.s₀.heap.FunFrames X.base l→s.heap.FunFrames X.base l:=by
  intro l
  induction l with
  | nil=>intro _ _;trivial
  | cons env r ih =>
   intro hs hl
   obtain⟨hk,⟨L,o,hf,hn,ho,hd⟩,hr⟩:=hl
   have hL:L∈X.fs:=hs L (by unfold frs;rw[QN,hf];exact Qu)
   obtain⟨sl,e⟩:=I.base.slot L o ho (I.ok.frf L hL) hL fun z=>I.ok.exfs L z hL
   exact⟨hk,⟨L,_,hf,hn,e,hd⟩,ih (fun b hb=>hs b (by unfold frs;rw[QN,hf];exact Ql _ hb)) hr⟩
 exact all X.outer (fun _ hb=>hb) I.ok.funs
theorem Inv.stack(I:Inv X pins σ H s):s.heap.FunFrames X.base X.stack:=by
 rcases I.ok.stk with e|⟨e,hf⟩
 ·rw[e];exact I.funs
 ·rw[e]
  obtain⟨m,hn,_⟩:=I.loc
  refine .cons (by rw[I.ok.kind];decide) hf hn ?_ I.funs
  exact Heap.get?_none_of_le (QI I.ok.bsz I.ok.above)
theorem Inv.stkSub(I:Inv X pins σ H s):∀b∈frs X.stack,b∈X.env.locals::X.fs:=fun b hb=>by
 rcases I.ok.stk with e|⟨e,hf⟩
 ·rw[e]at hb;exact Ql _ hb
 ·rw[e]at hb
  unfold frs at hb
  rw[QN,hf]at hb
  exact hb
theorem Inv.stkFree(I:Inv X pins σ H s):∀b∈frs X.stack,H b=none:=fun b hb=>by
 rcases QK.mp (I.stkSub b hb) with e|hb
 ·rw[e];exact I.free
 ·obtain⟨_,o,ho,_⟩:=I.ok.funs.mem hb
  exact I.base.free b o ho (I.ok.frf b hb) fun z=>I.ok.exfs b z hb
theorem Inv.step{g':Array GenState}{t':Nat}{d':Drawn}{ch:List Addr}(I:Inv X pins σ H s)
  (hch:∀b∈ch,(b∈X.ex∨X.s₀.heap.objs.size≤b)∧b≠X.env.locals∧(∀x c,X.env.cells.lookup x=some c→c≠b)∧∀p∈X.pn++pins,p.1≠b)
  (keep:∀b o,b≠X.env.locals→b ∉ X.fs→b ∉ ch→s.heap.get? b=some o→H b=none→h'.get? b=some o)
  (slot:∀b o,b≠X.env.locals→b∈X.fs→b ∉ ch→s.heap.get? b=some o→H b=none→∃sl,h'.get? b=some { o with slots:=sl }) (free:∀b o,b ∉ ch→s.heap.get? b=some o→H b=none→H' b=none)
  (there:∀b o,b ∉ ch→s.heap.get? b=some o→∃o',h'.get? b=some o')
  (tups:∀b xs,H b=some (.tup xs)→H' b=some (.tup xs)) (frzs:∀b o u,H b=some (.frz o u)→H' b=some (.frz o u)) (tbls:∀b ps,H b=some (.tbl ps)→∃more,H' b=some (.tbl (ps++more)))
  (ns:∀m,s.heap.Ns X.env.locals m→h'.Ns X.env.locals m) (hok:HOk X.prog X.w H' h') (hg:AllBare g') :
  Inv X pins σ H' { s with heap:=h',gens:=g',drawn:=d',toks:=t' }:=by
 have neL:∀b o,X.s₀.heap.get? b=some o→b≠X.env.locals:=fun b o e=>Qx (Qy (Qo e) I.ok.above)
 have neC:∀b o,X.s₀.heap.get? b=some o→b ∉ X.ex→b ∉ ch:=fun b o e hx hb=>by
  rcases(hch b hb).1 with z|z
  ·exact hx z
  ·exact absurd (Qy (Qo e) z) (QX _)
 have cellK:∀x c,X.env.cells.lookup x=some c→∀v,s.heap.IsCell c v→h'.IsCell c v:=fun x c e v ⟨o,ho,hd⟩=>by
  have nch:c ∉ ch:=fun z=>(hch c z).2.2.1 x c e rfl
  by_cases hc:c∈X.fs
  ·obtain⟨sl,q⟩:=slot c o (I.cne x c e) hc nch ho (I.freeC x c e)
   exact⟨_,q,hd⟩
  ·exact⟨o,keep c o (I.cne x c e) hc nch ho (I.freeC x c e),hd⟩
 refine⟨I.ok,I.os,hg,⟨fun b o e n hb hx=>?_,fun b o e n hb hx=>?_,fun b o e n hx=>?_,fun b o e hx=>?_,fun b xs e=>tups b xs (I.base.tups b xs e),fun b o xs e=>frzs b o xs (I.base.frzs b o xs e),fun b ps e=>?_⟩,?_,fun x c e=>?_,?_,fun x c e=>?_,fun p hp=>?_,hok,I.len⟩
 ·exact keep b o (neL b o e) hb (neC b o e hx) (I.base.keep b o e n hb hx) (I.base.free b o e n hx)
 ·obtain⟨sl,e1⟩:=I.base.slot b o e n hb hx
  obtain⟨sl',e2⟩:=slot b _ (neL b o e) hb (neC b o e hx) e1 (I.base.free b o e n hx)
  exact⟨sl',e2⟩
 ·obtain⟨o',e1⟩:=I.base.there b o e hx
  exact free b o' (neC b o e hx) e1 (I.base.free b o e n hx)
 ·obtain⟨o',e1⟩:=I.base.there b o e hx
  exact there b o' (neC b o e hx) e1
 ·obtain⟨m1,e1⟩:=I.base.tbls b ps e
  obtain⟨m2,e2⟩:=tbls b _ e1
  exact⟨m1++m2,by rw[e2,Array.append_assoc]⟩
 ·obtain⟨m,hn,hl⟩:=I.loc
  refine⟨m,ns m hn,fun i x v e1 e2 e3=>?_⟩
  obtain⟨u,r,l⟩:=hl i x v e1 e2 e3
  refine⟨u,r,?_⟩
  rcases l with l|⟨k,c,e,z⟩
  ·exact .inl l
  ·exact .inr ⟨k,c,e,cellK x c e _ z⟩
 ·obtain⟨v,z⟩:=I.cell x c e
  exact⟨v,cellK x c e v z⟩
 ·obtain⟨m,⟨o,_,_,ho,_⟩,_⟩:=I.loc
  exact free _ o (fun z=>(hch _ z).2.1 rfl) ho I.free
 ·obtain⟨v,o,ho,hd⟩:=I.cell x c e
  exact free c o (fun z=>(hch c z).2.2.1 x c e rfl) ho (I.freeC x c e)
 ·obtain⟨e,n,ne,nf,d⟩:=I.pin p hp
  have nch:p.1 ∉ ch:=fun z=>(hch p.1 z).2.2.2 p hp rfl
  exact⟨keep p.1 p.2 ne nf nch e n,free p.1 p.2 nch e n,ne,nf,d⟩
theorem Inv.un{t':Nat}(I:Inv X pins σ H s)(u:Un X.fs [] H H' s.heap h')(hok:HOk X.prog X.w H' h'):Inv X pins σ H' { s with heap:=h',toks:=t' }:=by
 obtain⟨m,⟨o,es,ep,ho,r⟩,_⟩:=id I.loc
 obtain⟨sl,hL⟩:=u.any ho I.free (by simp)
 exact I.step (g':=s.gens) (d':=s.drawn) (ch:=[]) (fun _ z=>nomatch z) (fun b o _ hb _ e n=>u.keep b o e n hb (by simp)) (fun b o _ hb _ e n=>u.slot b o e n hb (by simp)) (fun b o _ e n=>u.free b o e n (by simp)) (fun b o _ e=>u.there b o e (by simp)) u.tups u.frzs u.tbls (fun m' hm=>by
  obtain⟨o',es',ep',ho',r'⟩:=hm
  rw[ho]at ho';cases ho'
  exact⟨_,es',ep',hL,r'⟩) hok I.bare
theorem Inv.call{g':Array GenState}{t':Nat}{d':Drawn}{ch:List Addr}(I:Inv X pins σ H s)(u:Un (frs X.stack) ch H H' s.heap h')(hok:HOk X.prog X.w H' h')(hg:AllBare g')
  (hch:∀b∈ch,(b∈X.ex∨X.s₀.heap.objs.size≤b)∧b≠X.env.locals∧(∀x c,X.env.cells.lookup x=some c→c≠b)∧∀p∈X.pn++pins,p.1≠b) :
  Inv X pins σ H' { s with heap:=h',gens:=g',drawn:=d',toks:=t' }:=by
 obtain⟨m,⟨o,es,ep,ho,r⟩,_⟩:=id I.loc
 obtain⟨sl,hL⟩:=u.any ho I.free fun z=>(hch _ z).2.1 rfl
 exact I.step (ch:=ch) hch (fun b o hL hb hc e n=>u.keep b o e n (fun z=>(QK.mp (I.stkSub b z)).elim hL hb) hc) (fun b o _ _ hc e n=>u.any e n hc) (fun b o hc e n=>u.free b o e n hc) (fun b o hc e=>u.there b o e hc) u.tups u.frzs u.tbls (fun m' hm=>by
  obtain⟨o',es',ep',ho',r'⟩:=hm
  rw[ho]at ho';cases ho'
  exact⟨_,es',ep',hL,r'⟩) hok hg
theorem Inv.turned{t':Nat}{it:Addr}(I:Inv X pins σ H s)(k:∀b o,b≠it→s.heap.get? b=some o→h'.get? b=some o)(hn:H it=none)(hL:it≠X.env.locals)
  (h1:it∈X.ex∨X.s₀.heap.objs.size≤it) (h2:∀x c,X.env.cells.lookup x=some c→c≠it) (h3:∀p∈X.pn++pins,p.1≠it):Inv X pins σ H { s with heap:=h',toks:=t' }:=by
 have nit:∀b u,H b=some u→b≠it:=fun b u e z=>by rw[z,hn]at e;cases e
 refine I.step (g':=s.gens) (d':=s.drawn) (ch:=[it]) (fun b hb=>?_) (fun b o _ _ hc e _=>k b o (fun z=>hc (by simp[z])) e) (fun b o _ _ hc e _=>⟨o.slots,k b o (fun z=>hc (by simp[z])) e⟩) (fun _ _ _ _ n=>n)
  (fun b o hc e=>⟨o,k b o (fun z=>hc (by simp[z])) e⟩) (fun _ _ e=>e) (fun _ _ _ e=>e) (fun b ps e=>⟨#[],by rw[e];simp⟩) (fun m hm=>?_) (fun b u e=>?_) I.bare
 ·have e:b=it:=by simpa using hb
  subst e
  exact⟨h1,hL,h2,h3⟩
 ·obtain⟨o,es,ep,ho,r⟩:=hm
  exact⟨o,es,ep,k _ o (Ne.symm hL) ho,r⟩
 ·refine(I.hok b u e).stay (fun c v hc q=>k c v ?_ q) (fun _ q=>q) fun _ _ q=>q
  rcases hc with z|z
  ·rw[z];exact nit b u e
  ·exact nit c _ z
theorem Inv.tok(I:Inv X pins σ H s)(t:Nat):Inv X pins σ H { s with toks:=t }:=I.un (h':=s.heap) (t':=t) Un.refl I.hok
theorem Inv.kept{t':Nat}(I:Inv X pins σ H s)(k:∀b u,s.heap.get? b=some u→h'.get? b=some u):Inv X pins σ H { s with heap:=h',toks:=t' }:=I.un (Un.kept k) (I.hok.kept k)
theorem Inv.laid{a:Addr}{o:HO}{t':Nat}(I:Inv X pins σ H s)(k:∀b u,s.heap.get? b=some u→h'.get? b=some u)(hp:s.heap.objs.size≤a)(new:Zah X.prog X.w (upd H a o) h' a o) :
  Inv X pins σ (upd H a o) { s with heap:=h',toks:=t' }:=I.un (Un.laid k hp (I.hok.fresh hp)) (I.hok.laid k hp new)
theorem Inv.write{x e:Addr}{o:HO}{t':Nat}(I:Inv X pins σ H s)(mu:Mut (H x))(he:e=x∨H e=some (.own x))(k:∀b u,b≠e→s.heap.get? b=some u→h'.get? b=some u)(heo:∃u,h'.get? e=some u)
  (new:Zah X.prog X.w (upd H x o) h' x o):Inv X pins σ (upd H x o) { s with heap:=h',toks:=t' }:=I.un (Un.write mu he k heo) (I.hok.write mu he k heo new)
theorem Inv.pins_of{pins':List (Addr×Obj)}(I:Inv X pins σ H s)(h:∀p∈pins',s.heap.get? p.1=some p.2∧H p.1=none∧p.1≠X.env.locals∧p.1 ∉ X.fs∧∀v,p.2.data≠.cell v):Inv X pins' σ H s :=
 ⟨I.ok,I.os,I.bare,I.base,I.loc,I.cell,I.free,I.freeC,fun p hp=>(Qr.mp hp).elim (fun z=>I.pin p (Qaq _ z)) (h p),I.hok,I.len⟩
theorem Zgg{N:List Str}(hN:N.Nodup){i j:Nat}{x:Str}(a:N[i]? = some x)(b:N[j]? = some x):i=j:=by
 obtain⟨h1,e1⟩:=Qi.mp a
 obtain⟨h2,e2⟩:=Qi.mp b
 exact(List.getElem_inj hN).mp (e1.trans e2.symm)
theorem Zfg{M:Model}{A:Around}{E:Value→Shared→Prop}{i:Nat}{x:Str}{v:V}{u:Value}{Q:Unit→Shared→Prop}(I:Inv X pins σ H s)(hN:X.N.Nodup)(hi:X.N[i]? = some x)(hx:Loc X.env.scope x)(r:ZT v u)
  (h:∀s',Inv X pins (σ.set i (some v)) H s'→(∃a,Heap.SameBut a s.heap s'.heap∧(a=X.env.locals∨X.env.cells.lookup x=some a))→Q () s') (hf:X.fn x=true∨X.env.scope.names.lookup x=some .local:=by first|exact .inl rfl|exact .inr rfl|assumption):wpAny M A (storeName X.env x u) Q E s:=by
 obtain⟨m,hn,hl⟩:=id I.loc
 have hcls:(X.env.scope.kind == .class||(X.env.scope.kind == .module&&X.env.locals != X.env.globals))=false:=by rw[I.ok.kind];rfl
 have hiσ:i<σ.length:=by rw[I.len];exact(Qi.mp hi).1
 have cne:=I.cne
 have tracked:∀ {a:Addr} {h':Heap},(∃o,s.heap.get? a=some o∧H a=none)→Heap.SameBut a s.heap h'→HOk X.prog X.w H h':=fun {a h'} ha hs b ob e=>by
  obtain⟨_,_,hfree⟩:=ha
  refine(I.hok b ob e).stay (fun c w' hc q=>(hs.2 c ?_).trans q) (fun _ q=>q) fun _ _ q=>q
  rintro rfl
  rcases hc with rfl|hc
  ·rw[hfree]at e;cases e
  ·rw[hfree]at hc;cases hc
 rcases hx with hk|hk
 ·refine wpAny_storeName_local hk hn (fun h' hn' hs=>?_) hcls
  obtain⟨oL,_,_,hoL,_⟩:=id hn
  refine h _ ⟨I.ok,I.os,I.bare,⟨fun b o e n hb hx=>?_,fun b o e n hb hx=>?_,I.base.free,fun b o e hx=>?_,I.base.tups,I.base.frzs,I.base.tbls⟩,⟨_,hn',fun j y v' e1 e2 e3=>?_⟩,fun y c e=>?_,I.free,I.freeC,fun p hp=>?_,tracked ⟨oL,hoL,I.free⟩ hs,by simpa using I.len⟩ ⟨_,hs,.inl rfl⟩
  ·exact(hs.2 b (Qx (Qy (Qo e) I.ok.above))).trans (I.base.keep b o e n hb hx)
  ·obtain⟨sl,e1⟩:=I.base.slot b o e n hb hx
   exact⟨sl,(hs.2 b (Qx (Qy (Qo e) I.ok.above))).trans e1⟩
  ·obtain⟨o',e1⟩:=I.base.there b o e hx
   exact⟨o',(hs.2 b (Qx (Qy (Qo e) I.ok.above))).trans e1⟩
  ·by_cases hj:j=i
   ·subst hj
    rw[hi]at e1;cases e1
    rw[List.getElem?_set_self hiσ]at e2
    cases e2
    exact⟨u,r,.inl ⟨hk,by simp⟩⟩
   ·rw[List.getElem?_set_ne (Ne.symm hj)]at e2
    obtain⟨u',r',q⟩:=hl j y v' e1 e2 e3
    refine⟨u',r',?_⟩
    rcases q with⟨k,e⟩|⟨k,c,e,z⟩
    ·refine .inl ⟨k,?_⟩
     have:y≠x:=fun e=>hj (Zgg hN e1 (e ▸ hi))
     simp[this,e]
    ·exact .inr ⟨k,c,e,z.sameBut hs (cne y c e)⟩
  ·obtain⟨w',z⟩:=I.cell y c e
   exact⟨w',z.sameBut hs (cne y c e)⟩
  ·obtain⟨e,n,ne,nf,d⟩:=I.pin p hp
   exact⟨(hs.2 p.1 ne).trans e,n,ne,nf,d⟩
 ·have hfn:X.fn x=true:=by
   rcases hf with z|z
   ·exact z
   ·rw[z]at hk;cases hk
  obtain⟨c,hc⟩:=I.ok.has x (.inl hk)
  obtain⟨w',z⟩:=I.cell x c hc
  refine wpAny_storeName_cell I.ok.kind hk hc z (fun h' hc' hs=>?_)
  obtain⟨oc,hoc,hocd⟩:=id z
  refine h { s with heap:=h' } ⟨I.ok,I.os,I.bare,⟨fun b o e n hb hx=>?_,fun b o e n hb hx=>?_,I.base.free,fun b o e hx=>?_,I.base.tups,I.base.frzs,I.base.tbls⟩,⟨m,hn.sameBut hs (Ne.symm (cne x c hc)),fun j y v' e1 e2 e3=>?_⟩,fun y c' e=>?_,I.free,I.freeC,fun p hp=>?_,tracked ⟨oc,hoc,I.freeC x c hc⟩ hs,by simpa using I.len⟩ ⟨c,hs,.inr hc⟩
  ·exact(hs.2 b (Qx (Qy (Qo e) (I.ok.cab x c hfn hc)))).trans (I.base.keep b o e n hb hx)
  ·obtain⟨sl,e1⟩:=I.base.slot b o e n hb hx
   exact⟨sl,(hs.2 b (Qx (Qy (Qo e) (I.ok.cab x c hfn hc)))).trans e1⟩
  ·obtain⟨o',e1⟩:=I.base.there b o e hx
   exact⟨o',(hs.2 b (Qx (Qy (Qo e) (I.ok.cab x c hfn hc)))).trans e1⟩
  ·by_cases hj:j=i
   ·subst hj
    rw[hi]at e1;cases e1
    rw[List.getElem?_set_self hiσ]at e2
    cases e2
    exact⟨u,r,.inr ⟨.inl hk,c,hc,hc'⟩⟩
   ·rw[List.getElem?_set_ne (Ne.symm hj)]at e2
    obtain⟨u',r',q⟩:=hl j y v' e1 e2 e3
    refine⟨u',r',?_⟩
    rcases q with q|⟨k,c',e,z'⟩
    ·exact .inl q
    ·refine .inr ⟨k,c',e,z'.sameBut hs ?_⟩
     rintro rfl
     exact hj (Zgg hN e1 (I.ok.inj _ _ _ e hc ▸ hi))
  ·by_cases hcc:c'=c
   ·subst hcc;exact⟨_,hc'⟩
   ·obtain⟨w2,z2⟩:=I.cell y c' e
    exact⟨w2,z2.sameBut hs hcc⟩
  ·obtain⟨e,n,ne,nf,d⟩:=I.pin p hp
   refine⟨(hs.2 p.1 ?_).trans e,n,ne,nf,d⟩
   intro q
   rw[q,hoc]at e
   have q':oc=p.2:=QM e
   exact d w' (by rw[← q'];exact hocd)
theorem ZeH{M:Model}{A:Around}{E:Value→Shared→Prop}{i:Nat}{x:Str}{v:V}{u:Value}{Q:Unit→Shared→Prop}(I:Inv X pins σ H s)(hN:X.N.Nodup)(hi:X.N[i]? = some x)(hx:Loc X.env.scope x)(r:ZT v u)
  (h:∀s',Inv X pins (σ.set i (some v)) H s'→Q () s') (hf:X.fn x=true∨X.env.scope.names.lookup x=some .local:=by first|exact .inl rfl|exact .inr rfl|assumption):wpAny M A (storeName X.env x u) Q E s :=
 Zfg I hN hi hx r (fun s' I' _=>h s' I') hf
theorem Inv.call'{s':Shared}{ch:List Addr}(I:Inv X pins σ H s)(ho:s'.os=s.os)(u:Un (frs X.stack) ch H H' s.heap s'.heap)(hok:HOk X.prog X.w H' s'.heap)(hg:AllBare s'.gens)
  (hch:∀b∈ch,(b∈X.ex∨X.s₀.heap.objs.size≤b)∧b≠X.env.locals∧(∀x c,X.env.cells.lookup x=some c→c≠b)∧∀p∈X.pn++pins,p.1≠b):Inv X pins σ H' s':=by
 obtain⟨h',g',d',t',o'⟩:=s'
 have e:o'=s.os:=ho
 subst e
 exact I.call (g':=g') (t':=t') (d':=d') u hok hg hch
end
abbrev XK:=Value→Option Addr→Hp→Prop
abbrev St:=List (Option V)
abbrev VK:=V→Hp→Prop
abbrev TE:=St→Hp→VK→Prop
abbrev TT:=St→Hp→(Bool→Hp→Prop)→Prop
abbrev TA:=St→Hp→(List V→Hp→Prop)→Prop
structure ZfK where
 nx:St→Hp→Prop
 rt:VK
 bk:St→Hp→Prop:=fun _ _=>False
 ct:St→Hp→Prop:=fun _ _=>False
abbrev TS:=ZfK→St→Hp→Prop
def EP(X:Cx)(pins:List (Addr×Obj))(σ:St)(Q:VK)(u:Value)(s':Shared):Prop:=∃v H',Inv X pins σ H' s'∧ZT v u∧Q v H'
def TP(X:Cx)(pins:List (Addr×Obj))(σ:St)(Q:Bool→Hp→Prop)(b:Bool)(s':Shared):Prop:=∃H',Inv X pins σ H' s'∧Q b H'
def AP(X:Cx)(pins:List (Addr×Obj))(σ:St)(Q:List V→Hp→Prop)(us:List Value)(s':Shared):Prop:=∃vs H',Inv X pins σ H' s'∧ZE vs us∧Q vs H'
def SP(X:Cx)(pins:List (Addr×Obj))(D:ZfK)(f:Flow)(s':Shared):Prop :=
 match f with
 | .next=>∃σ' H',Inv X pins σ' H' s'∧D.nx σ' H'
 | .brk=>∃σ' H',Inv X pins σ' H' s'∧D.bk σ' H'
 | .cont=>∃σ' H',Inv X pins σ' H' s'∧D.ct σ' H'
 | .ret u=>∃v σ' H',Inv X pins σ' H' s'∧ZT v u∧D.rt v H'
def PE(X:Cx)(e:Expr)(t:TE):Prop :=
 ∀ (pins:List (Addr×Obj)) (s:Shared) (σ:St) (H:Hp) (Q:VK),Inv X pins σ H s→t σ H Q→wpAny (model X.prog X.w) X.A (eval e X.env) (EP X pins σ Q) X.xe s
def PT(X:Cx)(e:Expr)(t:TT):Prop :=
 ∀ (pins:List (Addr×Obj)) (s:Shared) (σ:St) (H:Hp) (Q:Bool→Hp→Prop),Inv X pins σ H s→t σ H Q→wpAny (model X.prog X.w) X.A (isTrue e X.env (eval e X.env)) (TP X pins σ Q) X.xe s
def PW(X:Cx)(e:Expr)(t:TT):Prop :=
 ∀ (whole:Sem Value) (pins:List (Addr×Obj)) (s:Shared) (σ:St) (H:Hp) (Q:Bool→Hp→Prop),Inv X pins σ H s→t σ H Q→wpAny (model X.prog X.w) X.A (isTrue e X.env whole) (TP X pins σ Q) X.xe s
theorem PW.pt{X:Cx}{e:Expr}{t:TT}(h:PW X e t):PT X e t:=h _
def PA(X:Cx)(es:List Expr)(t:TA):Prop :=
 ∀ (pos:Pos) (pins:List (Addr×Obj)) (s:Shared) (σ:St) (H:Hp) (Q:List V→Hp→Prop),Inv X pins σ H s→t σ H Q→wpAny (model X.prog X.w) X.A (spliced (backTo pos (starEach es X.env))) (AP X pins σ Q) X.xe s
def PS(X:Cx)(st:Stmt)(t:TS):Prop :=
 ∀ (pins:List (Addr×Obj)) (s:Shared) (σ:St) (H:Hp) (D:ZfK),Inv X pins σ H s→t D σ H→wpAny (model X.prog X.w) X.A (exec st X.env) (SP X pins D) X.xe s
def PSs(X:Cx)(st:List Stmt)(t:TS):Prop :=
 ∀ (pins:List (Addr×Obj)) (s:Shared) (σ:St) (H:Hp) (D:ZfK),Inv X pins σ H s→t D σ H→wpAny (model X.prog X.w) X.A (execs st X.env) (SP X pins D) X.xe s
theorem thn{α:Type}{t:Sem α}{Q Q':α→Shared→Prop}{M:Model}{A:Around}{E:Value→Shared→Prop}{s:Shared}(h:wpAny M A t Q E s)(hQ:∀a s,Q a s→Q' a s):wpAny M A t Q' E s:=wpAny_mono h hQ fun _ _ x=>x
section
variable {X:Cx}
def ZlX(i:Nat):TE:=fun σ H Q=>∃v,σ[i]? = some (some v)∧Q v H
def tC(v:V):TE:=fun _ H Q=>Q v H
theorem Zg8{i:Nat}{x:Str}{pos:Pos}(hN:X.N[i]? = some x)(hv:Vis X.env.scope x)(hd:(x == ("__debug__" : Str))=false:=by decide)(hcd:(x == ("__classdict__" : Str))=false:=by decide):PE X (.Name x pos) (ZlX i):=by
 intro pins s σ H Q I h
 obtain⟨v,e,h⟩:=h
 obtain⟨m,hn,hl⟩:=I.loc
 obtain⟨u,r,l⟩:=hl i x v hN e hv
 have fin:EP X pins σ Q u s:=⟨v,H,I,r,h⟩
 rcases l with⟨hk,hm⟩|⟨hk,c,hc,hcell⟩
 ·exact wpAny_Name (wpAny_loadName_local I.ok.kind hk hn hm fin) hd
 ·rcases hk with hk|hk
  ·exact wpAny_Name (wpAny_loadName_cell I.ok.kind hk hc hcell fin) hd
  ·exact wpAny_Name (wpAny_loadName_free I.ok.kind hk hc hcell fin hcd) hd
theorem Ze{i j pos}:PE X (.Constant (.int i) j pos) (tC (.int i)):=fun _ _ _ H _ I h=>wpAny_Constant_int ⟨.int i,H,I.tok _,⟨_,rfl⟩,h⟩
theorem Zag{b j pos}:PE X (.Constant (.bool b) j pos) (tC (.bl b)):=fun _ _ _ H _ I h=>Constant_bool ⟨.bl b,H,I,rfl,h⟩
theorem Zf1{j pos}:PE X (.Constant .none j pos) (tC .non):=fun _ _ _ H _ I h=>Constant_none ⟨.non,H,I,rfl,h⟩
theorem ZjU{x j pos}:PE X (.Constant (.str x) j pos) (tC (.str x)):=fun _ _ _ H _ I h=>Calls.Constant_str ⟨.str x,H,I.tok _,⟨_,rfl⟩,h⟩
def Gl(X:Cx)(x:Str):Prop:=X.env.kindOf x=some .globalImplicit
theorem ZlH{E:Value→Shared→Prop}{pins:List (Addr×Obj)}{s:Shared}{σ:St}{H:Hp}{x:Str}{u:Value}{pos:Pos}{Q:Value→Shared→Prop}(I:Inv X pins σ H s)(hg:Gl X x)(hm:X.mg x=some u)(h:Q u s)
  (hd:(x == ("__debug__" : Str))=false:=by decide):wpAny (model X.prog X.w) X.A (eval (.Name x pos) X.env) Q E s :=
 Calls.Name_function_global I.ok.kind hg (Calls.loadGlobal_global (by rw[I.ok.glob];exact I.mod.glob.keeps I.bk) hm h) hd
theorem ZdY{E:Value→Shared→Prop}{pins:List (Addr×Obj)}{s:Shared}{σ:St}{H:Hp}{x:Str}{u:Value}{pos:Pos}{Q:Value→Shared→Prop}(I:Inv X pins σ H s)(hg:Gl X x)(hm:X.mg x=none)(hv:bootBuiltins x=some u)(h:Q u s)
  (hn:x ≠ "__name__":=by decide) (hd:(x == ("__debug__" : Str))=false:=by decide):wpAny (model X.prog X.w) X.A (eval (.Name x pos) X.env) Q E s:=by
 obtain⟨mb,h1,h2⟩:=I.mod.blt
 exact Calls.Name_function_global I.ok.kind hg (Calls.loadGlobal_builtin (by rw[I.ok.glob];exact I.mod.glob.keeps I.bk) hm (by rw[I.ok.blt];exact h1.keeps I.bk) ((h2 x hn).trans hv) h) hd
theorem Zla{x:Str}{v:V}{u:Value}{pos:Pos}(hg:Gl X x)(hm:X.mg x=none)(hv:bootBuiltins x=some u)(r:ZT v u)(hn:x ≠ "__name__":=by decide)(hd:(x == ("__debug__" : Str))=false:=by decide):PE X (.Name x pos) (tC v) :=
 fun _ _ _ H _ I h=>ZdY I hg hm hv ⟨v,H,I,r,h⟩ hn hd
variable {a b:Expr} {ta tb:TE} {pos:Pos}
def tB(t:TE):TT:=fun σ H Q=>t σ H fun x H1=>∃c,x=.bl c∧Q c H1
theorem Zak{e:Expr}{t:TE}(h:PE X e t)(he:∀whole,isTrue e X.env whole=(do let v ← whole;standAt e.pos;holding [v] (truthy v)):=by intro _;rfl):PT X e (tB t):=by
 intro pins s σ H Q I hw
 refine isTrue_plain (thn (h pins s σ H _ I hw) ?_) (he _)
 rintro v s1 ⟨x,H1,I1,r1,q1⟩
 obtain⟨d,rfl,q⟩:=q1
 cases r1
 exact wpAny_truthy_bool ⟨H1,I1,q⟩
variable {tA tB':TT} {rest:List Expr}
def Zom(t u:TT):TT:=fun σ H Q=>t σ H fun c H1=>if c=true then u σ H1 Q else Q false H1
def tOr(t u:TT):TT:=fun σ H Q=>t σ H fun c H1=>if c=true then Q true H1 else u σ H1 Q
def Zox(t:TT):TT:=fun σ H Q=>t σ H fun c H1=>Q (!c) H1
theorem ZfZ(ha:PT X a tA):PW X (.BoolOp .And [a] pos) tA:=by
 intro wh pins s σ H Q I h
 refine isTrue_and (thn (ha pins s σ H Q I h) fun c s1 e=>?_)
 cases c with
 | true=>exact isTrue_and_nil e
 | false=>exact e
theorem Zcv(ha:PT X a tA):PW X (.BoolOp .Or [a] pos) tA:=by
 intro wh pins s σ H Q I h
 refine isTrue_or (thn (ha pins s σ H Q I h) fun c s1 e=>?_)
 cases c with
 | false=>exact isTrue_or_nil e
 | true=>exact e
theorem ZeK(ha:PT X a tA)(hb:PW X (.BoolOp .And (b::rest) pos) tB'):PW X (.BoolOp .And (a::b::rest) pos) (Zom tA tB'):=by
 intro wh pins s σ H Q I h
 refine isTrue_and (thn (ha pins s σ H _ I h) ?_)
 rintro c s1 ⟨H1,I1,q1⟩
 cases c with
 | true=>exact hb wh pins s1 σ H1 Q I1 q1
 | false=>exact⟨H1,I1,q1⟩
theorem ZcN(ha:PT X a tA)(hb:PW X (.BoolOp .Or (b::rest) pos) tB'):PW X (.BoolOp .Or (a::b::rest) pos) (tOr tA tB'):=by
 intro wh pins s σ H Q I h
 refine isTrue_or (thn (ha pins s σ H _ I h) ?_)
 rintro c s1 ⟨H1,I1,q1⟩
 cases c with
 | true=>exact⟨H1,I1,q1⟩
 | false=>exact hb wh pins s1 σ H1 Q I1 q1
theorem Za9(ha:PT X a tA):PT X (.UnaryOp .Not a pos) (Zox tA):=by
 intro pins s σ H Q I h
 exact isTrue_not (ha pins s σ H (fun c H1=>Q (!c) H1) I h)
def Znl(ta tb:TE):TE:=fun σ H Q=>ta σ H fun x H1=>∃c,x=.bl c∧if c=true then tb σ H1 Q else Q (.bl false) H1
def Znv(ta:TE):TE:=fun σ H Q=>ta σ H fun x H1=>∃c,x=.bl c∧Q (.bl (!c)) H1
theorem ZdP{op}{t:TE}(h:PE X a t):PE X (.BoolOp op [a] pos) t:=fun pins s σ H Q I hw=>BoolOp_one (h pins s σ H Q I hw)
theorem Zdb(ha:PE X a ta)(hb:PE X (.BoolOp .And (b::rest) pos) tb):PE X (.BoolOp .And (a::b::rest) pos) (Znl ta tb):=by
 intro pins s σ H Q I h
 refine BoolOp_and (thn (ha pins s σ H _ I h) ?_)
 rintro v s1 ⟨x,H1,I1,r1,q1⟩
 obtain⟨c,rfl,q1⟩:=q1
 cases r1
 refine wpAny_truthy_bool ?_
 cases c with
 | true=>exact hb pins s1 σ H1 Q I1 q1
 | false=>exact⟨.bl false,H1,I1,rfl,q1⟩
theorem Zhl(ha:PE X a ta):PE X (.UnaryOp .Not a pos) (Znv ta):=by
 intro pins s σ H Q I h
 refine UnaryOp_ (thn (ha pins s σ H _ I h) ?_)
 rintro v s1 ⟨x,H1,I1,r1,q1⟩
 obtain⟨c,rfl,q1⟩:=q1
 cases r1
 exact not_of (wpAny_truthy_bool ⟨.bl (!c),H1,I1,rfl,q1⟩)
def tIf(t:TT)(ta tb:TE):TE:=fun σ H Q=>t σ H fun c H1=>if c=true then ta σ H1 Q else tb σ H1 Q
theorem ZgQ{c:Expr}(hc:PT X c tA)(ha:PE X a ta)(hb:PE X b tb):PE X (.IfExp c a b pos) (tIf tA ta tb):=by
 intro pins s σ H Q I h
 refine wpAny_IfExp (thn (hc pins s σ H _ I h) ?_)
 rintro d s1 ⟨H1,I1,q1⟩
 cases d with
 | true=>exact ha pins s1 σ H1 Q I1 q1
 | false=>exact hb pins s1 σ H1 Q I1 q1
end
def SqL(K:PySem.W.Frag)(H:Hp)(a:Addr)(xs:List V):Prop :=
 Rd H a (.lst xs) ∨
  ∃ (o:Obj) (its:Array Value) (n:Nat),K.lookup a=some o∧o.cls=.type "list"∧o.dict=none∧o.data=.seq its n∧its.size≤sizeLine∧ZE xs its.toList
def SqT(K:PySem.W.Frag)(H:Hp)(a:Addr)(xs:List V):Prop :=
 Rd H a (.tup xs) ∨
  ∃ (o:Obj) (its:Array Value) (n:Nat),K.lookup a=some o∧o.cls=.type "tuple"∧o.data=.seq its n∧its.size≤sizeLine∧ZE xs its.toList
def Zoh:Value→Option V
 | .none=>some .non
 | .bool b=>some (.bl b)
 | .int i _=>some (.int i)
 | .str x _=>some (.str x)
 | .bytes b _=>some (.byt b)
 | .float b _=>some (.flt b)
 | .ref a=>some (.ref a)
 | .type n=>some (.ty n)
 | _=>none
theorem ZT.abs{x:V}{u:Value}(r:ZT x u):Zoh u=some x:=by
 cases x with
 | non=>cases r;rfl
 | bl _=>cases r;rfl
 | int _=>obtain⟨t,rfl⟩:=r;rfl
 | str _=>obtain⟨t,rfl⟩:=r;rfl
 | byt _=>obtain⟨t,rfl⟩:=r;rfl
 | flt _=>obtain⟨t,rfl⟩:=r;rfl
 | ref _=>cases r;rfl
 | ty _=>cases r;rfl
theorem ZT.inj{x y:V}{u:Value}(r:ZT x u)(q:ZT y u):x=y:=QM (r.abs.symm.trans q.abs)
theorem ZE.inj:∀ {xs ys:List V} {us:List Value},ZE xs us→ZE ys us→xs=ys
 | _,_,_,.nil,.nil=>rfl
 | _,_,_,.cons r t,.cons r' t'=>by rw[r.inj r',ZE.inj t t']
section
variable {X:Cx} {pins:List (Addr×Obj)} {σ:St} {H:Hp} {s:Shared} {a:Addr} {xs ys:List V}
theorem SqL.of{K:PySem.W.Frag}(h:H a=some (.lst xs)):SqL K H a xs:=.inl (.inl h)
theorem SqT.of{K:PySem.W.Frag}(h:H a=some (.tup xs)):SqT K H a xs:=.inl (.inl h)
theorem Inv.list(I:Inv X pins σ H s)(h:SqL X.K H a xs):∃its:List Value,ZE xs its∧PlainL s.heap a its.toArray∧xs.length≤sizeLine:=by
 rcases h with h|⟨o,its,n,hk,hc,hd,hs,hz,r⟩
 ·obtain⟨z,its,n,r,e⟩:=h.ok I.hok
  exact⟨its,r,⟨_,n,e,rfl,rfl,rfl⟩,z⟩
 ·refine⟨its.toList,r,⟨o,n,I.kIn a o hk,hc,hd,by simpa using hs⟩,?_⟩
  have e:=r.length
  simp only[Array.length_toList]at e
  omega
theorem Inv.tuple(I:Inv X pins σ H s)(h:SqT X.K H a xs):∃its:List Value,ZE xs its∧IsTup s.heap a its.toArray∧xs.length≤sizeLine:=by
 rcases h with h|⟨o,its,n,hk,hc,hs,hz,r⟩
 ·obtain⟨z,its,r,p⟩:=h.ok I.hok
  exact⟨its,r,p,z⟩
 ·refine⟨its.toList,r,⟨o,I.kIn a o hk,hc,n,by simpa using hs⟩,?_⟩
  have e:=r.length
  simp only[Array.length_toList]at e
  omega
theorem Inv.list_inj(I:Inv X pins σ H s)(h:SqL X.K H a xs)(h':SqL X.K H a ys):xs=ys:=by
 obtain⟨its,r,⟨o,n,e,_,_,d⟩,_⟩:=I.list h
 obtain⟨its',r',⟨o',n',e',_,_,d'⟩,_⟩:=I.list h'
 rw[e]at e';cases e'
 rw[d]at d'
 injection d' with d1 _
 have:its=its':=by simpa using congrArg Array.toList d1
 subst this
 exact r.inj r'
theorem Inv.tuple_inj(I:Inv X pins σ H s)(h:SqT X.K H a xs)(h':SqT X.K H a ys):xs=ys:=by
 obtain⟨its,r,⟨o,e,_,n,d⟩,_⟩:=I.tuple h
 obtain⟨its',r',⟨o',e',_,n',d'⟩,_⟩:=I.tuple h'
 rw[e]at e';cases e'
 rw[d]at d'
 injection d' with d1 _
 have:its=its':=by simpa using congrArg Array.toList d1
 subst this
 exact r.inj r'
end
abbrev Cx.wish(X:Cx)(E:Value→Shared→Prop):Cx:={ X with xe:=E }
abbrev Cx.nox(X:Cx):Cx:=X.wish fun _ _=>False
theorem Cx.Ok.wish{X:Cx}(ok:X.Ok)(E:Value→Shared→Prop):(X.wish E).Ok :=
 ⟨ok.mod,ok.kind,ok.glob,ok.blt,ok.above,ok.inj,ok.has,ok.cab,ok.hd,ok.frames,ok.stk,ok.exf,ok.bs,ok.bsz,ok.noex,ok.exfs,ok.funs,ok.frf⟩
theorem Cx.Ok.unwish{X:Cx}{E:Value→Shared→Prop}(ok:(X.wish E).Ok):X.Ok :=
 ⟨ok.mod,ok.kind,ok.glob,ok.blt,ok.above,ok.inj,ok.has,ok.cab,ok.hd,ok.frames,ok.stk,ok.exf,ok.bs,ok.bsz,ok.noex,ok.exfs,ok.funs,ok.frf⟩
section
variable {X:Cx} {pins:List (Addr×Obj)} {σ:St} {H:Hp} {s:Shared} {E:Value→Shared→Prop}
theorem Inv.wish(I:Inv X pins σ H s)(E:Value→Shared→Prop):Inv (X.wish E) pins σ H s:=⟨I.ok.wish E,I.os,I.bare,I.base,I.loc,I.cell,I.free,I.freeC,I.pin,I.hok,I.len⟩
theorem Inv.unwish(I:Inv (X.wish E) pins σ H s):Inv X pins σ H s:=⟨I.ok.unwish,I.os,I.bare,I.base,I.loc,I.cell,I.free,I.freeC,I.pin,I.hok,I.len⟩
theorem SP.unwish{D:ZfK}{f:Flow}{s':Shared}(h:SP (X.wish E) pins D f s'):SP X pins D f s':=by
 cases f with
 | next=>obtain⟨σ',H',I,q⟩:=h;exact⟨σ',H',I.unwish,q⟩
 | brk=>obtain⟨σ',H',I,q⟩:=h;exact⟨σ',H',I.unwish,q⟩
 | cont=>obtain⟨σ',H',I,q⟩:=h;exact⟨σ',H',I.unwish,q⟩
 | ret u=>obtain⟨v,σ',H',I,r,q⟩:=h;exact⟨v,σ',H',I.unwish,r,q⟩
theorem PSs.nox{st:List Stmt}{t:TS}(h:PSs X.nox st t):PSs X st t:=fun pins s σ H D I hw =>
 wpAny_mono (h pins s σ H D (I.wish _) hw) (fun _ _ q=>q.unwish) fun _ _ z=>False.elim z
end
section
variable {X:Cx} {st:Stmt} {rest:List Stmt} {t u:TS} {e:Expr} {te:TE} {pos:Pos}
def Znz:TS:=fun D σ H=>D.nx σ H
def Zoa(t u:TS):TS:=fun D σ H=>t { D with nx:=u D } σ H
theorem ZK:PSs X [] Znz:=fun _ _ σ H _ I h=>wpAny_execs_nil ⟨σ,H,I,h⟩
theorem Zf(h1:PS X st t)(h2:PSs X rest u):PSs X (st::rest) (Zoa t u):=by
 intro pins s σ H D I h
 refine wpAny_execs_cons (thn (h1 pins s σ H { D with nx:=u D } I h) fun f s1 q=>?_)
 cases f with
 | next =>
  obtain⟨σ',H',I',q⟩:=q
  exact h2 pins s1 σ' H' D I' q
 | ret v=>exact q
 | brk=>exact q
 | cont=>exact q
theorem Zj(h1:PS X st t):PSs X [st] t:=by
 intro pins s σ H D I h
 refine wpAny_execs_cons (thn (h1 pins s σ H D I h) fun f s1 q=>?_)
 cases f with
 | next=>exact wpAny_execs_nil q
 | ret v=>exact q
 | brk=>exact q
 | cont=>exact q
theorem Inv.quiet{pins:List (Addr×Obj)}{σ:St}{H:Hp}{s:Shared}(I:Inv X pins σ H s):interactive X.env=false:=by simp[interactive,I.ok.kind]
def Zn2(te:TE):TS:=fun D σ H=>te σ H fun _ H1=>D.nx σ H1
theorem Zbk(he:PE X e te)(hs:swapsWith e none pos.line X.env=pure false:=by rfl):PS X (.Expr e pos) (Zn2 te):=by
 intro pins s σ H D I h
 exact wpAny_Expr_any (thn (he pins s σ H _ I h) fun v s1 ⟨x,H1,I1,r1,q1⟩=>⟨σ,H1,I1,q1⟩) I.quiet hs
def Zoj(te:TE):TS:=fun D σ H=>te σ H D.rt
theorem Zo(he:PE X e te):PS X (.Return (some e) pos) (Zoj te):=by
 intro pins s σ H D I h
 exact wpAny_Return_some (thn (he pins s σ H _ I h) fun v s1 ⟨x,H1,I1,r1,q1⟩=>⟨x,σ,H1,I1,r1,q1⟩)
def Zou(c:TT)(t u:TS):TS:=fun D σ H=>c σ H fun b H1=>if b=true then t D σ H1 else u D σ H1
theorem Z0{c:Expr}{a b:List Stmt}{tc:TT}(hc:PT X c tc)(ha:PSs X a t)(hb:PSs X b u):PS X (.If c a b pos) (Zou tc t u):=by
 intro pins s σ H D I h
 refine wpAny_If (thn (hc pins s σ H _ I h) ?_)
 rintro d s1 ⟨H1,I1,q1⟩
 cases d with
 | true=>exact ha pins s1 σ H1 D I1 q1
 | false=>exact hb pins s1 σ H1 D I1 q1
end
abbrev TG:=V→St→Hp→(St→Hp→Prop)→Prop
abbrev TGs:=List V→St→Hp→(St→Hp→Prop)→Prop
def PG(X:Cx)(target:Expr)(t:TG):Prop :=
 ∀ (pins:List (Addr×Obj)) (s:Shared) (σ:St) (H:Hp) (v:V) (u:Value) (Q:St→Hp→Prop),Inv X pins σ H s→ZT v u→t v σ H Q →
  wpAny (model X.prog X.w) X.A (assign target X.env u) (fun _ s'=>∃σ' H',Inv X pins σ' H' s'∧Q σ' H') X.xe s
def PGs(X:Cx)(ts:List Expr)(t:TGs):Prop :=
 ∀ (pins:List (Addr×Obj)) (s:Shared) (σ:St) (H:Hp) (vs:List V) (us:List Value) (Q:St→Hp→Prop),Inv X pins σ H s→ZE vs us→t vs σ H Q →
  wpAny (model X.prog X.w) X.A (assignInOrder ((assignEach ts X.env).map (·.2)) us) (fun _ s'=>∃σ' H',Inv X pins σ' H' s'∧Q σ' H') X.xe s
abbrev ZlU:=V→V→V→Hp→(Hp→Prop)→Prop
def Zll(X:Cx)(t:ZlU):Prop :=
 ∀ (pins:List (Addr×Obj)) (s:Shared) (σ:St) (H:Hp) (o i v:V) (ov iv u:Value) (Q:Hp→Prop),Inv X pins σ H s→ZT o ov→ZT i iv→ZT v u→t o i v H Q →
  wpAny (model X.prog X.w) X.A (setItem ov iv u) (fun _ s'=>∃H',Inv X pins σ H' s'∧Q H') X.xe s
abbrev TIp:=V→V→Hp→VK→Prop
def PIp(X:Cx)(op:Operator)(t:TIp):Prop :=
 ∀ (pins:List (Addr×Obj)) (s:Shared) (σ:St) (H:Hp) (x y:V) (v u:Value) (Q:VK),Inv X pins σ H s→ZT x v→ZT y u→t x y H Q →
  wpAny (model X.prog X.w) X.A (inplaceOp op v u) (EP X pins σ Q) X.xe s
section
variable {X:Cx} {pos:Pos}
def Zij(i:Nat):TG:=fun v σ H Q=>Q (σ.set i (some v)) H
theorem ZB{i:Nat}{x:Str}(hN:X.N.Nodup)(hi:X.N[i]? = some x)(hx:Loc X.env.scope x)(hf:X.fn x=true∨X.env.scope.names.lookup x=some .local:=by first|exact .inl rfl|exact .inr rfl|assumption):PG X (.Name x pos) (Zij i):=by
 intro pins s σ H v u Q I r h
 exact wpAny_assign_Name (ZeH I hN hi hx r (fun s' I'=>⟨_,H,I',h⟩) hf)
def Zoe:TGs:=fun vs σ H Q=>vs=[]∧Q σ H
def ZnG(t:TG)(u:TGs):TGs:=fun vs σ H Q=>∃v r,vs=v::r∧t v σ H fun σ' H'=>u r σ' H' Q
theorem ZaP:PGs X [] Zoe:=by
 intro pins s σ H vs us Q I r h
 obtain⟨e,h⟩:=h
 subst e
 cases r
 exact assignInOrder_nil ⟨σ,H,I,h⟩
theorem ZA{e:Expr}{es:List Expr}{t:TG}{u:TGs}(h1:PG X e t)(h2:PGs X es u)
  (hs:(assignEach (e::es) X.env).map (·.2)=assign e X.env::(assignEach es X.env).map (·.2):=by rfl):PGs X (e::es) (ZnG t u):=by
 intro pins s σ H vs us Q I r h
 obtain⟨v,vr,e1,h⟩:=h
 subst e1
 cases r with
 | cons r rr =>
  rw[hs]
  refine assignInOrder_cons (thn (h1 pins s σ H _ _ _ I r h) ?_)
  rintro _ s1 ⟨σ1,H1,I1,q1⟩
  exact h2 pins s1 σ1 H1 _ _ Q I1 rr q1
def Znx(K:PySem.W.Frag)(n:Nat)(t:TGs):TG:=fun v σ H Q=>∃a xs,v=.ref a∧SqT K H a xs∧xs.length=n∧t xs σ H Q
theorem ZmP{es:List Expr}{k:Nat}{t:TGs}{n:Nat}(hc:X.calm=true)(h:PGs X es t)
  (hn:(assignEach es X.env).length=n:=by rfl) (hst:(assignEach es X.env).findIdx? (·.1)=none:=by rfl):PG X (.Tuple es k pos) (Znx X.K n t):=by
 intro pins s σ H v u Q I r hw
 obtain⟨a,xs,e1,hq,hl,hw⟩:=hw
 subst e1
 cases r
 obtain⟨its,rv,ht,hz⟩:=I.tuple hq
 refine assign_Tuple_tuple (I.ok.hd hc) ht (by simp[hn,← hl,rv.length]) hst fun h' hx=>?_
 have I1:Inv X pins σ H { s with heap:=h' }:=I.kept (t':=s.toks) fun b o e=>hx b o (Qx (Qo e)) e
 exact h pins _ σ H xs _ Q I1 (by simpa using rv) hw
def Zok(to ti:TE)(t:ZlU):TG:=fun v σ H Q=>to σ H fun o H1=>ti σ H1 fun i H2=>t o i v H2 fun H3=>Q σ H3
theorem ZgZ{o i:Expr}{to ti:TE}{t:ZlU}(ho:PE X o to)(hi:PE X i ti)(hs:Zll X t)
  (ha:∀v,assign (.Subscript o i pos) X.env v=(do
   let ov ← holding [v] (eval o X.env)
   let iv ← holding [v,ov] (eval i X.env)
   standAt pos
   holding [v,ov,iv] (setItem ov iv v)
   release [v,ov,iv] []):=by intro _;rfl):PG X (.Subscript o i pos) (Zok to ti t):=by
 intro pins s σ H v u Q I r h
 rw[ha]
 refine wpAny_bind (wpAny_holding (thn (ho pins s σ H _ I h) ?_))
 rintro ov s1 ⟨x,H1,I1,r1,q1⟩
 refine wpAny_bind (wpAny_holding (thn (hi pins s1 σ H1 _ I1 q1) ?_))
 rintro iv s2 ⟨y,H2,I2,r2,q2⟩
 refine wpAny_bind (wpAny_standAt (wpAny_bind (wpAny_holding (thn (hs pins s2 σ H2 x y v ov iv u _ I2 r1 r2 r q2) ?_))))
 rintro _ s3 ⟨H3,I3,q3⟩
 exact wpAny_release ⟨σ,H3,I3,q3⟩
def ZmQ(te:TE)(g:TG):TS:=fun D σ H=>te σ H fun x H1=>g x σ H1 D.nx
theorem Zb8{tg e:Expr}{te:TE}{g:TG}(he:PE X e te)(hg:PG X tg g)(hs:swapsWithSole [tg] e pos.line X.env=pure false:=by rfl)(hw:swappedStores [tg] e X.env=pure none:=by rfl)
  (h1:(assignEach [tg] X.env).map (·.2)=[assign tg X.env]:=by rfl):PS X (.Assign [tg] e pos) (ZmQ te g):=by
 intro pins s σ H D I h
 refine wpAny_Assign_stores (thn (he pins s σ H _ I h) ?_) hs hw
 rintro v s1 ⟨x,H1,I1,r1,q1⟩
 rw[h1]
 exact thn (hg pins s1 σ H1 x v _ I1 r1 q1) fun _ s2 q=>q
theorem Zq{i:Nat}{x:Str}{e:Expr}{te:TE}{pos':Pos}(hN:X.N.Nodup)(hi:X.N[i]? = some x)(hx:Loc X.env.scope x)(he:PE X e te)(hs:swapsWith e (some (.Name x pos')) pos.line X.env=pure false:=by rfl)(hf:X.fn x=true∨X.env.scope.names.lookup x=some .local:=by first|exact .inl rfl|exact .inr rfl|assumption) :
  PS X (.Assign [.Name x pos'] e pos) (ZmQ te (Zij i)):=by
 intro pins s σ H D I h
 refine wpAny_Assign_Name (thn (he pins s σ H _ I h) ?_) hs
 rintro v s1 ⟨y,H1,I1,r1,q1⟩
 exact ZeH I1 hN hi hx r1 (fun s2 I2=>⟨_,H1,I2,q1⟩) hf
def Zor(i:Nat)(te:TE)(ti:TIp):TS:=fun D σ H=>∃x,σ[i]? = some (some x)∧te σ H fun y H1=>ti x y H1 fun z H2=>D.nx (σ.set i (some z)) H2
theorem Zj1{i:Nat}{x:Str}{e:Expr}{te:TE}{op:Operator}{ti:TIp}{pos':Pos}(hN:X.N.Nodup)(hi:X.N[i]? = some x)(hx:Loc X.env.scope x)(he:PE X e te)(ho:PIp X op ti)(hf:X.fn x=true∨X.env.scope.names.lookup x=some .local:=by first|exact .inl rfl|exact .inr rfl|assumption) :
  PS X (.AugAssign (.Name x pos') op e pos) (Zor i te ti):=by
 intro pins s σ H D I h
 obtain⟨v,e1,h⟩:=h
 obtain⟨m,hn,hl⟩:=I.loc
 have vis:Vis X.env.scope x:=by rcases hx with k|k;exact .inl k;exact .inr (.inl k)
 obtain⟨u,r,l⟩:=hl i x v hi e1 vis
 refine wpAny_AugAssign_Name ?_
 have go:wpAny (model X.prog X.w) X.A (eval e X.env) (fun w s₂=>wpAny (model X.prog X.w) X.A (inplaceOp op u w) (fun r s₃=>wpAny (model X.prog X.w) X.A (storeName X.env x r) (fun _=>SP X pins D .next) X.xe s₃) X.xe s₂) X.xe s:=by
  refine thn (he pins s σ H _ I h) ?_
  rintro w s1 ⟨y,H1,I1,r1,q1⟩
  refine thn (ho pins s1 σ H1 v y u w _ I1 r r1 q1) ?_
  rintro z s2 ⟨zv,H2,I2,r2,q2⟩
  exact ZeH I2 hN hi hx r2 (fun s3 I3=>⟨_,H2,I3,q2⟩) hf
 rcases l with⟨hk,hm⟩|⟨hk,c,hc,hcell⟩
 ·exact wpAny_loadName_local I.ok.kind hk hn hm go
 ·rcases hk with hk|hk
  ·exact wpAny_loadName_cell I.ok.kind hk hc hcell go
  ·rcases hx with k|k
   ·have:X.env.scope.names.lookup x=some .free:=hk
    rw[k]at this;cases this
   ·have:X.env.scope.names.lookup x=some .free:=hk
    rw[k]at this;cases this
def ipI(f:Int→Int→Int):TIp:=fun x y H Q=>∃i j,x=.int i∧y=.int j∧Q (.int (f i j)) H
theorem ZjW:PIp X .Add (ipI fun i j=>i+j):=by
 intro pins s σ H x y v u Q I r1 r2 h
 obtain⟨i,j,e1,e2,q⟩:=h
 subst e1;subst e2
 obtain⟨t,rfl⟩:=r1
 obtain⟨t',rfl⟩:=r2
 exact iadd_int ⟨.int _,H,I.tok _,⟨_,rfl⟩,q⟩
end
section
variable {X:Cx} {pos:Pos}
def Zmz(c:TT)(tb:TS):TS:=fun D σ H=>∃W:Nat→St→Hp→Prop,(∃m,W m σ H)∧∀m σ H,W m σ H →
 c σ H fun b H1=>if b=true then ∃N:St→Hp→Prop,(∀σ' H',N σ' H'→∃m',m'<m∧W m' σ' H')∧tb { D with nx:=N,ct:=N,bk:=D.nx } σ H1 else D.nx σ H1
theorem ZcJ{c:Expr}{body:List Stmt}{tc:TT}{tb:TS}(hp:PassesOwn (model X.prog X.w) X.A X.env X.xe)(hc:PT X c tc)(hb:PSs X body tb):PS X (.While c body [] pos) (Zmz tc tb):=by
 intro pins s σ H D I h
 obtain⟨W,⟨m0,w0⟩,turn⟩:=h
 refine wpAny_While (codeAny_whileLoop (fun n s'=>∃σ' H',Inv X pins σ' H' s'∧W n σ' H') ?_ m0 ⟨σ,H,I,w0⟩)
 rintro n s1 ⟨σ1,H1,I1,w1⟩
 refine wpAny_passesOwn hp (thn (hc pins s1 σ1 H1 _ I1 (turn n σ1 H1 w1)) ?_)
 rintro b s2 ⟨H2,I2,q2⟩
 cases b with
 | true =>
  obtain⟨N,hN,q2⟩:=q2
  rw[if_pos rfl]
  refine wpAny_passesOwn hp (thn (hb pins s2 σ1 H2 _ I2 q2) fun f s3 q3=>?_)
  cases f with
  | next =>
   obtain⟨σ3,H3,I3,n3⟩:=q3
   obtain⟨m',hm,w3⟩:=hN σ3 H3 n3
   exact⟨m',hm,σ3,H3,I3,w3⟩
  | cont =>
   obtain⟨σ3,H3,I3,n3⟩:=q3
   obtain⟨m',hm,w3⟩:=hN σ3 H3 n3
   exact⟨m',hm,σ3,H3,I3,w3⟩
  | brk=>exact q3
  | ret v=>exact q3
 | false =>
  rw[if_neg Qj]
  exact wpAny_execs_nil ⟨σ1,H2,I2,q2⟩
end
structure It where
 go:Nat→Hp→Prop
 yld:Nat→Hp→V→Hp→Prop
 stop:Nat→Hp→Prop
def ZcR(X:Cx)(pins:List (Addr×Obj))(H:Hp)(b:Addr):Prop :=
 H b=none∧b≠X.env.locals∧b ∉ X.fs∧(b∈X.ex∨X.s₀.heap.objs.size≤b)∧(∀x c,X.env.cells.lookup x=some c→c≠b)∧∀p∈X.pn++pins,p.1≠b
theorem Inv.fpOk{X:Cx}{pins:List (Addr×Obj)}{σ:St}{H H':Hp}{s:Shared}{b:Addr}(I:Inv X pins σ H s)(hb:s.heap.objs.size≤b)(hn:H' b=none):ZcR X pins H' b:=by
 refine⟨hn,QZ (Qy I.lt hb),I.nofs hb,.inr (QI I.sz hb),fun x c e z=>?_,fun p hp z=>?_⟩
 ·obtain⟨v,q⟩:=I.cell x c e
  exact absurd (Qy q.lt (by rw[z];exact hb)) (QX _)
 ·exact absurd (Qy (Qo (I.pin p hp).1) (by rw[z];exact hb)) (QX _)
structure Zhc (P:Program) (w:World) (K:PySem.W.Frag) (tg:Expr) (J:It) (fp:List Addr) (it:Addr) (tn:Nat→Heap→Prop):Prop where
 mem:it∈fp
 obj:∀i h,tn i h→∀b∈fp,∃o,h.get? b=some o∧∀v,o.data≠.cell v
 keep:∀i h h',tn i h→(∀b∈fp,∀o,h.get? b=some o→h'.get? b=some o)→tn i h'
 item:∀ (X:Cx),X.prog=P→X.w=w→X.K=K→X.calm=true→∀ (i:Nat) (pins:List (Addr×Obj)) (s:Shared) (σ:St) (H:Hp) (E:Value→Shared→Prop),Inv X pins σ H s→(∀b∈fp,ZcR X pins H b)→tn i s.heap→J.go i H →
  wpAny (model P w) X.A (pyNext (.ref it)) (fun r s1=>∃u,r=some u ∧
   wpAny (model P w) X.A (letOwnedTupleGo tg (.ref it) u) (fun _ s2=>∃x H',Inv X pins σ H' s2∧ZT x u∧J.yld i H x H'∧tn (i+1) s2.heap∧∀b∈fp,H' b=none) E s1) E s
 done:∀ (X:Cx),X.prog=P→X.w=w→X.K=K→X.calm=true→∀ (i:Nat) (pins:List (Addr×Obj)) (s:Shared) (σ:St) (H:Hp) (E:Value→Shared→Prop),Inv X pins σ H s→(∀b∈fp,ZcR X pins H b)→tn i s.heap→J.stop i H →
  wpAny (model P w) X.A (pyNext (.ref it)) (fun r s1=>r=none∧Inv X pins σ H s1) E s
 self:∀ (A:Around) (i:Nat) (s:Shared) (Q:Value→Shared→Prop) (E:Value→Shared→Prop),tn i s.heap→Q (.ref it) s→wpAny (model P w) A (pyIter (.ref it)) Q E s
abbrev TI:=St→Hp→(It→Hp→Prop)→Prop
def PIE(X:Cx)(pins:List (Addr×Obj))(σ:St)(tg:Expr)(R:It→Hp→Prop)(itv:Value)(s2:Shared):Prop :=
 ∃ (it:Addr) (fp:List Addr) (tn:Nat→Heap→Prop) (J:It) (H':Hp),itv=.ref it∧Inv X pins σ H' s2∧Zhc X.prog X.w X.K tg J fp it tn∧tn 0 s2.heap∧(∀b∈fp,ZcR X pins H' b)∧R J H'
def PI(X:Cx)(tg iter:Expr)(wi:TI):Prop :=
 ∀ (pins:List (Addr×Obj)) (s:Shared) (σ:St) (H:Hp) (R:It→Hp→Prop),Inv X pins σ H s→wi σ H R →
  wpAny (model X.prog X.w) X.A (eval iter X.env) (fun v s1=>wpAny (model X.prog X.w) X.A (pyIter v) (PIE X pins σ tg R) X.xe s1) X.xe s
theorem ZhO{M:Model}{A:Around}{E:Value→Shared→Prop}{s:Shared}{tg:Expr}{it:Addr}{u:Value}{o:Obj}{n:String}{vs:Array Value}{Q:Unit→Shared→Prop}(ho:s.heap.get? it=some o)(hc:o.cls=.type n)(hd:o.data=.fields vs)
  (hn:["enumerate", "zip", "dict_itemiterator", "dict_reverseitemiterator", "odict_iterator", "itertools.zip_longest", "itertools.pairwise"].contains n=false) (hQ:Q () s):wpAny M A (letOwnedTupleGo tg (.ref it) u) Q E s:=by
 unfold letOwnedTupleGo
 cases tg<;>first
  | exact wpAny_pure hQ
  | (cases u<;>first
    | exact wpAny_pure hQ
    | (refine wpAny_bind (wpAny_load ho ?_);rw[hc,hd];show wpAny M A (if (["enumerate", "zip", "dict_itemiterator", "dict_reverseitemiterator", "odict_iterator", "itertools.zip_longest", "itertools.pairwise"].contains n&&vs[0]? == some (rawInt _))=true then _ else _) Q E s;rw[if_neg (by intro h;rw[hn,Bool.false_and]at h;cases h)];exact wpAny_pure hQ))
def Itl(K:PySem.W.Frag)(a:Addr):It :=
 ⟨fun i H=>∃xs x,SqL K H a xs∧xs[i]? = some x,fun i H x H'=>H'=H∧∀xs,SqL K H a xs→xs[i]? = some x,fun i H=>∃xs,SqL K H a xs∧xs.length≤i⟩
def Itt(K:PySem.W.Frag)(a:Addr):It :=
 ⟨fun i H=>∃xs x,SqT K H a xs∧xs[i]? = some x,fun i H x H'=>H'=H∧∀xs,SqT K H a xs→xs[i]? = some x,fun i H=>∃xs,SqT K H a xs∧xs.length≤i⟩
def Itr(lo:Int)(n:Nat):It:=⟨fun i _=>i<n,fun i H x H'=>H'=H∧x=.int (lo+i),fun i _=>n≤i⟩
theorem Zjk{P:Program}{w:World}{K:PySem.W.Frag}{tg:Expr}(a it:Addr):Zhc P w K tg (Itl K a) [it] it (fun i h=>h.IsListIter it a i) where
 mem:=by simp
 obj:=fun i h st b hb=>by
  have e:b=it:=by simpa using hb
  subst e
  obtain⟨o,e,c,d⟩:=st
  exact⟨o,e,fun v z=>by rw[d]at z;cases z⟩
 keep:=fun i h h' st k=>st.at fun o e=>k it (by simp) o e
 item:=by
  intro X hP hw hK hc i pins s σ H E I hf st hg
  subst hP hw hK
  obtain⟨xs,x,hq,hx⟩:=hg
  obtain⟨its,rv,p,hz⟩:=I.list hq
  obtain⟨u,hu,ru⟩:=rv.get hx
  obtain⟨f0,f1,f2,f3,f4,f5⟩:=hf it (by simp)
  refine wpAny_pyNext_list_item st p.isList (x:=u) (by simpa using hu) fun h' st' sb=>?_
  have I1:Inv X pins σ H { s with heap:=h' }:=I.turned (t':=s.toks) (fun b o hb e=>(sb.2 b hb).trans e) f0 f1 f3 f4 f5
  obtain⟨o,e,c,d⟩:=id st'
  exact⟨u,rfl,ZhO (s:={ s with heap:=h' }) e c d (by decide) ⟨x,H,I1,ru,⟨rfl,fun ys hy=>by rw[I.list_inj hy hq];exact hx⟩,st',fun b hb=>(hf b hb).1⟩⟩
 done:=by
  intro X hP hw hK hc i pins s σ H E I hf st hg
  subst hP hw hK
  obtain⟨xs,hq,hx⟩:=hg
  obtain⟨its,rv,p,hz⟩:=I.list hq
  obtain⟨f0,f1,f2,f3,f4,f5⟩:=hf it (by simp)
  have hl:=rv.length
  exact wpAny_pyNext_list_end (I.ok.hd hc) st p.isList (by simp;omega) fun h' eb=>⟨rfl,I.turned (t':=s.toks) (fun b o hb e=>eb b o hb e) f0 f1 f3 f4 f5⟩
 self:=fun _ _ _ _ _ st h=>wpAny_pyIter_listiter st h
theorem Zhh{P:Program}{w:World}{K:PySem.W.Frag}{tg:Expr}(a it:Addr):Zhc P w K tg (Itt K a) [it] it (fun i h=>h.IsTupleIter it a i) where
 mem:=by simp
 obj:=fun i h st b hb=>by
  have e:b=it:=by simpa using hb
  subst e
  obtain⟨o,e,c,d⟩:=st
  exact⟨o,e,fun v z=>by rw[d]at z;cases z⟩
 keep:=fun i h h' st k=>st.at fun o e=>k it (by simp) o e
 item:=by
  intro X hP hw hK hc i pins s σ H E I hf st hg
  subst hP hw hK
  obtain⟨xs,x,hq,hx⟩:=hg
  obtain⟨its,rv,p,hz⟩:=I.tuple hq
  obtain⟨u,hu,ru⟩:=rv.get hx
  obtain⟨f0,f1,f2,f3,f4,f5⟩:=hf it (by simp)
  refine wpAny_pyNext_tuple_item st (show s.heap.IsTuple a its.toArray from p) (x:=u) (by simpa using hu) fun h' st' sb=>?_
  have I1:Inv X pins σ H { s with heap:=h' }:=I.turned (t':=s.toks) (fun b o hb e=>(sb.2 b hb).trans e) f0 f1 f3 f4 f5
  obtain⟨o,e,c,d⟩:=id st'
  exact⟨u,rfl,ZhO (s:={ s with heap:=h' }) e c d (by decide) ⟨x,H,I1,ru,⟨rfl,fun ys hy=>by rw[I.tuple_inj hy hq];exact hx⟩,st',fun b hb=>(hf b hb).1⟩⟩
 done:=by
  intro X hP hw hK hc i pins s σ H E I hf st hg
  subst hP hw hK
  obtain⟨xs,hq,hx⟩:=hg
  obtain⟨its,rv,p,hz⟩:=I.tuple hq
  obtain⟨f0,f1,f2,f3,f4,f5⟩:=hf it (by simp)
  have hl:=rv.length
  exact wpAny_pyNext_tuple_end (I.ok.hd hc) st (show s.heap.IsTuple a its.toArray from p) (by simp;omega) fun h' eb=>⟨rfl,I.turned (t':=s.toks) (fun b o hb e=>eb b o hb e) f0 f1 f3 f4 f5⟩
 self:=fun _ _ _ _ _ st h=>wpAny_pyIter_tupleiter st h
theorem Zg9{P:Program}{w:World}{K:PySem.W.Frag}{tg:Expr}(it:Addr)(lo:Int)(n:Nat):Zhc P w K tg (Itr lo n) [it] it (fun i h=>IsRangeIter h it (lo+(i:Nat)*1) ((n:Int)-(i:Nat)) 1) where
 mem:=by simp
 obj:=fun i h st b hb=>by
  have e:b=it:=by simpa using hb
  subst e
  exact⟨_,st,fun v z=>by
   have z':Data.fields _=Data.cell v:=z
   cases z'⟩
 keep:=fun i h h' st k=>k it (by simp) _ st
 item:=by
  intro X hP hw hK hc i pins s σ H E I hf st hg
  subst hP hw hK
  obtain⟨f0,f1,f2,f3,f4,f5⟩:=hf it (by simp)
  have W:=Walks.range (prog:=X.prog) (w:=X.w) (I.ok.hd hc) it lo 1 n
  refine W.item i s _ _ hg st fun v h' tk hv st' kk=>?_
  obtain⟨t,rfl⟩:=hv
  have I1:Inv X pins σ H { s with heap:=h',toks:=tk }:=I.turned (fun b o hb e=>kk b o (by simpa using hb) e) f0 f1 f3 f4 f5
  refine⟨_,rfl,ZhO (s:={ s with heap:=h',toks:=tk }) (n := "range_iterator") st' rfl rfl (by decide) ⟨.int (lo+i),H,I1,⟨t,?_⟩,⟨rfl,rfl⟩,st',fun b hb=>(hf b hb).1⟩⟩
  rw[Int.mul_one]
 done:=by
  intro X hP hw hK hc i pins s σ H E I hf st hg
  subst hP hw hK
  obtain⟨f0,f1,f2,f3,f4,f5⟩:=hf it (by simp)
  exact wpAny_pyNext_range_end (I.ok.hd hc) st (by have:n≤i:=hg;omega) fun h' eb=>⟨rfl,I.turned (t':=s.toks) (fun b o hb e=>eb b o hb e) f0 f1 f3 f4 f5⟩
 self:=fun _ _ _ _ _ st h=>wpAny_pyIter_rangeiter st h
section
variable {X:Cx} {tg:Expr}
def Zmn(K:PySem.W.Frag)(tl:TE):TI:=fun σ H R=>tl σ H fun x H1=>∃a,x=.ref a∧(∃xs,SqL K H1 a xs)∧R (Itl K a) H1
def ZnL(K:PySem.W.Frag)(tl:TE):TI:=fun σ H R=>tl σ H fun x H1=>∃a,x=.ref a∧(∃xs,SqT K H1 a xs)∧R (Itt K a) H1
theorem Zly{l:Expr}{tl:TE}(hl:PE X l tl):PI X tg l (Zmn X.K tl):=by
 intro pins s σ H R I h
 refine thn (hl pins s σ H _ I h) ?_
 rintro v s1 ⟨x,H1,I1,r1,q1⟩
 obtain⟨a,e,⟨xs,hq⟩,q⟩:=q1
 subst e
 cases r1
 obtain⟨its,rv,p,hz⟩:=I1.list hq
 refine wpAny_pyIter_list p.isList ?_
 refine⟨s1.heap.objs.size,[s1.heap.objs.size],_,_,H1,rfl,I1.kept (t':=s1.toks) fun b o e=>Qb _ e,Zjk a _,⟨_,Qp _ rfl,rfl,rfl⟩,fun b hb=>?_,q⟩
 have e:b=s1.heap.objs.size:=by simpa using hb
 subst e
 exact I1.fpOk (Qd _) (I1.hok.fresh (Qd _))
theorem ZmL{l:Expr}{tl:TE}(hl:PE X l tl):PI X tg l (ZnL X.K tl):=by
 intro pins s σ H R I h
 refine thn (hl pins s σ H _ I h) ?_
 rintro v s1 ⟨x,H1,I1,r1,q1⟩
 obtain⟨a,e,⟨xs,hq⟩,q⟩:=q1
 subst e
 cases r1
 obtain⟨its,rv,p,hz⟩:=I1.tuple hq
 refine wpAny_pyIter_tuple (show s1.heap.IsTuple a its.toArray from p) ?_
 refine⟨s1.heap.objs.size,[s1.heap.objs.size],_,_,H1,rfl,I1.kept (t':=s1.toks) fun b o e=>Qb _ e,Zhh a _,⟨_,Qp _ rfl,rfl,rfl⟩,fun b hb=>?_,q⟩
 have e:b=s1.heap.objs.size:=by simpa using hb
 subst e
 exact I1.fpOk (Qd _) (I1.hok.fresh (Qd _))
theorem ZgJ{pins:List (Addr×Obj)}{σ:St}{H:Hp}{s:Shared}{R:It→Hp→Prop}{E:Value→Shared→Prop}{lo hi:Int}{t u v:Tok}{tk:Nat}(I:Inv X pins σ H s)(h1:-(2 ^ 62)≤lo)(h2:lo<2 ^ 62)(h3:-(2 ^ 62)≤hi)(h4:hi<2 ^ 62)
  (q:R (Itr lo (hi-lo).toNat) H):wpAny (model X.prog X.w) X.A (pyIter (.ref s.heap.objs.size)) (PIE X pins σ tg R) E { s with heap:=s.heap.push { cls:=.type "range",data:=.fields #[.int lo t,.int hi u,.int 1 v] },toks:=tk }:=by
 refine wpAny_pyIter_range (IsRange.new ..) (small_one h1 h2 h3 h4) ?_
 have I1:Inv X pins σ H { s with heap:=s.heap.push { cls:=.type "range",data:=.fields #[.int lo t,.int hi u,.int 1 v] },toks:=tk }:=I.kept fun b o e=>Qb _ e
 refine⟨(s.heap.push { cls:=.type "range",data:=.fields #[.int lo t,.int hi u,.int 1 v] }).objs.size,[(s.heap.push { cls:=.type "range",data:=.fields #[.int lo t,.int hi u,.int 1 v] }).objs.size],_,_,H,rfl,
  I1.kept (t':=tk) fun b o e=>Qb _ e,Zg9 _ lo (hi-lo).toNat,?_,fun b hb=>?_,q⟩
 ·have e1:lo+((0:Nat):Int)*1=lo:=by simp
  have e2:(((hi-lo).toNat:Nat):Int)-((0:Nat):Int)=Builtin.Range.rangeSize lo hi 1:=by rw[rangeSize_one];split<;>omega
  show IsRangeIter _ _ (lo+((0:Nat):Int)*1) ((((hi-lo).toNat:Nat):Int)-((0:Nat):Int)) 1
  rw[e1,e2]
  exact Qp _ rfl
 ·have e:b=(s.heap.push { cls:=.type "range",data:=.fields #[.int lo t,.int hi u,.int 1 v] }).objs.size:=by simpa using hb
  subst e
  exact I1.fpOk (Qd _) (I1.hok.fresh (Qd _))
def Znk(ta:TA):TI:=fun σ H R=>ta σ H fun vs H1=>∃j:Int,vs=[.int j] ∧ -(2 ^ 62)≤j∧j<2 ^ 62∧R (Itr 0 j.toNat) H1
def Znt(ta:TA):TI:=fun σ H R=>ta σ H fun vs H1=>∃i j:Int,vs=[.int i,.int j]∧(-(2 ^ 62)≤i∧i<2 ^ 62 ∧ -(2 ^ 62)≤j∧j<2 ^ 62)∧R (Itr i (j-i).toNat) H1
theorem Zbq{a:Expr}{ta:TA}{p pos:Pos}(hg:Gl X "range")(hm:X.mg "range" = none)(ha:PA X [a] ta)(hs:starEach [a] X.env=[(false,eval a X.env)]:=by rfl):PI X tg (.Call (.Name "range" p) [a] [] pos) (Znk ta):=by
 intro pins s σ H R I h
 refine Call_ (ZdY I hg hm boot_range (Qab (thn (ha pos pins s σ H _ I h) ?_) hs rfl))
 rintro us s1 ⟨vs,H1,I1,r1,q1⟩
 obtain⟨j,e,q1,q2,q⟩:=q1
 subst e
 cases r1 with
 | cons r rr =>
  cases rr
  obtain⟨t,rfl⟩:=r
  exact call_range_1 (ZgJ I1 (by omega) (by omega) q1 q2 (by simpa using q))
theorem ZaQ{a b:Expr}{ta:TA}{p pos:Pos}(hg:Gl X "range")(hm:X.mg "range" = none)(ha:PA X [a,b] ta)(hs:starEach [a,b] X.env=[(false,eval a X.env),(false,eval b X.env)]:=by rfl)(hs2:starEach [b] X.env=[(false,eval b X.env)]:=by rfl) :
  PI X tg (.Call (.Name "range" p) [a,b] [] pos) (Znt ta):=by
 intro pins s σ H R I h
 refine Call_ (ZdY I hg hm boot_range (Qab (thn (ha pos pins s σ H _ I h) ?_) (by rw[hs,hs2]) (by rw[hs2];rfl)))
 rintro us s1 ⟨vs,H1,I1,r1,q1⟩
 obtain⟨i,j,e,⟨q1,q2,q3,q4⟩,q⟩:=q1
 subst e
 cases r1 with
 | cons r rr =>
  cases rr with
  | cons r' rr =>
   cases rr
   obtain⟨t,rfl⟩:=r
   obtain⟨t',rfl⟩:=r'
   exact call_range_2 (ZgJ I1 q1 q2 q3 q4 q)
def Zoq(wi:TI)(g:TG)(tb:TS):TS:=fun D σ H=>wi σ H fun J H1=>∃W:Nat→Nat→St→Hp→Prop,(∃m,W 0 m σ H1)∧∀i m σ H,W i m σ H →
 (J.stop i H∧D.nx σ H)∨(J.go i H∧∃N:St→Hp→Prop,(∀σ' H',N σ' H'→∃m',m'<m∧W (i+1) m' σ' H')∧∀x H',J.yld i H x H'→g x σ H' fun σ2 H2=>tb { D with nx:=N,ct:=N,bk:=D.nx } σ2 H2)
def ZbC(fp:List Addr)(h:Heap):List (Addr×Obj):=fp.filterMap fun b=>(h.get? b).map fun o=>(b,o)
theorem Zaj{fp:List Addr}{h:Heap}{b:Addr}{o:Obj}(hb:b∈fp)(e:h.get? b=some o):(b,o)∈ZbC fp h:=List.mem_filterMap.mpr ⟨b,hb,by rw[e];rfl⟩
theorem ZiO{fp:List Addr}{h:Heap}{p:Addr×Obj}(hp:p∈ZbC fp h):p.1∈fp∧h.get? p.1=some p.2:=by
 obtain⟨b,hb,e⟩:=List.mem_filterMap.mp hp
 cases q:h.get? b with
 | none=>rw[q]at e;cases e
 | some o =>
  rw[q]at e
  have e':(b,o)=p:=QM e
  subst e'
  exact⟨hb,q⟩
theorem Inv.pinned{pins:List (Addr×Obj)}{σ:St}{H:Hp}{s:Shared}{fp:List Addr}(I:Inv X pins σ H s)(hf:∀b∈fp,ZcR X pins H b)(ho:∀b∈fp,∃o,s.heap.get? b=some o∧∀v,o.data≠.cell v):Inv X (pins++ZbC fp s.heap) σ H s :=
 I.pins_of fun p hp=>(Qr.mp hp).elim (fun z=>I.pin p (Qs _ z)) fun z=>by
  obtain⟨hb,e⟩:=ZiO z
  obtain⟨f0,f1,f2,_⟩:=hf p.1 hb
  obtain⟨o,e',d⟩:=ho p.1 hb
  rw[e]at e';cases e'
  exact⟨e,f0,f1,f2,d⟩
theorem Inv.unpinned{pins pl:List (Addr×Obj)}{σ:St}{H:Hp}{s:Shared}(I:Inv X (pins++pl) σ H s):Inv X pins σ H s:=I.pins_of fun p hp=>I.pin p (Qs _ (Qaq _ hp))
theorem ZaJ{iter:Expr}{body:List Stmt}{wi:TI}{g:TG}{tb:TS}{pos:Pos}(hp:PassesOwn (model X.prog X.w) X.A X.env X.xe)(hc:X.calm=true)(hi:PI X tg iter wi)(hg:PG X tg g)(hb:PSs X body tb)
  (hs:∀x,foldedSetIterable iter X.env x=pure x:=by intro _;rfl):PS X (.For tg iter body [] pos) (Zoq wi g tb):=by
 intro pins s σ H D I h
 refine wpAny_For (thn (hi pins s σ H _ I h) fun v s1 h1=>thn h1 fun itv s2 h2=>?_) hs
 obtain⟨it,fp,tn,J,H2,e,I2,T,st2,f2,W,⟨m0,w0⟩,turn⟩:=h2
 subst e
 have stat:∀ {H':Hp},(∀b∈fp,H' b=none)→∀b∈fp,ZcR X pins H' b:=fun hn b hb=>⟨hn b hb,(f2 b hb).2⟩
 refine codeAny_forLoop_any (fun n s'=>∃i σ' H',Inv X pins σ' H' s'∧tn i s'.heap∧(∀b∈fp,H' b=none)∧W i n σ' H') ?_ m0 ⟨0,σ,H2,I2,st2,fun b hb=>(f2 b hb).1,w0⟩
 rintro n s3 ⟨i,σ3,H3,I3,st3,fr3,w3⟩
 rcases turn i n σ3 H3 w3 with⟨stop,qn⟩|⟨go,N,hN,step⟩
 ·refine wpAny_passesOwn hp (thn (T.done X rfl rfl rfl hc i pins s3 σ3 H3 X.xe I3 (stat fr3) st3 stop) ?_)
  rintro r s4 ⟨hr,I4⟩
  subst hr
  exact wpAny_execs_nil ⟨σ3,H3,I4,qn⟩
 ·refine wpAny_passesOwn hp (thn (T.item X rfl rfl rfl hc i pins s3 σ3 H3 X.xe I3 (stat fr3) st3 go) ?_)
  rintro r s4 ⟨u,hr,h4⟩
  subst hr
  refine wpAny_passesOwn hp (thn h4 ?_)
  rintro _ s5 ⟨x,H5,I5,r5,y5,st5,fr5⟩
  have I5':=I5.pinned (stat fr5) (T.obj _ _ st5)
  refine wpAny_passesOwn hp (thn (hg _ s5 σ3 H5 x u _ I5' r5 (step x H5 y5)) ?_)
  rintro _ s6 ⟨σ6,H6,I6,q6⟩
  refine wpAny_passesOwn hp (thn (hb _ s6 σ6 H6 _ I6 q6) fun f s7 q7=>?_)
  have again:∀ {σ7:St} {H7:Hp},Inv X (pins++ZbC fp s5.heap) σ7 H7 s7→N σ7 H7→∃m,m<n∧∃i σ' H',Inv X pins σ' H' s7∧tn i s7.heap∧(∀b∈fp,H' b=none)∧W i m σ' H':=fun {σ7 H7} I7 n7=>by
   obtain⟨m',hm,w7⟩:=hN σ7 H7 n7
   refine⟨m',hm,i+1,σ7,H7,I7.unpinned,T.keep _ _ _ st5 fun b hb o e=>(I7.pin (b,o) (Qs _ (Qs _ (Zaj hb e)))).1,fun b hb=>?_,w7⟩
   obtain⟨o,e,d⟩:=T.obj _ _ st5 b hb
   exact(I7.pin (b,o) (Qs _ (Qs _ (Zaj hb e)))).2.1
  cases f with
  | next=>obtain⟨σ7,H7,I7,n7⟩:=q7;exact again I7 n7
  | cont=>obtain⟨σ7,H7,I7,n7⟩:=q7;exact again I7 n7
  | brk=>obtain⟨σ7,H7,I7,q7⟩:=q7;exact⟨σ7,H7,I7.unpinned,q7⟩
  | ret v=>obtain⟨x7,σ7,H7,I7,r7,q7⟩:=q7;exact⟨x7,σ7,H7,I7.unpinned,r7,q7⟩
end
theorem ZcO{K:PySem.W.Frag}{a:Addr}{xs:List V}{g:TG}{tb:TS}{D:ZfK}{σ:St}{H:Hp}(Pv:Nat→St→Hp→Prop)(h0:Pv 0 σ H)(hl:∀i σ H,i≤xs.length→Pv i σ H→SqL K H a xs)
  (hs:∀i x σ H,xs[i]? = some x→Pv i σ H→g x σ H fun σ2 H2=>tb { D with nx:=Pv (i+1),ct:=Pv (i+1),bk:=D.nx } σ2 H2) (hd:∀σ H,Pv xs.length σ H→D.nx σ H) :
  ∃W:Nat→Nat→St→Hp→Prop,(∃m,W 0 m σ H)∧∀i m σ H,W i m σ H →
   ((Itl K a).stop i H∧D.nx σ H)∨((Itl K a).go i H∧∃N:St→Hp→Prop,(∀σ' H',N σ' H'→∃m',m'<m∧W (i+1) m' σ' H')∧∀x H',(Itl K a).yld i H x H'→g x σ H' fun σ2 H2=>tb { D with nx:=N,ct:=N,bk:=D.nx } σ2 H2):=by
 refine⟨fun i m σ H=>m=xs.length-i∧i≤xs.length∧Pv i σ H,⟨xs.length,by simp,Qm _,h0⟩,?_⟩
 rintro i m σ H ⟨rfl,hi,p⟩
 have q:=hl i σ H hi p
 by_cases hlt:i<xs.length
 ·refine .inr ⟨⟨xs,xs[i],q,by simp[hlt]⟩,Pv (i+1),fun σ' H' p'=>⟨xs.length-(i+1),by omega,rfl,hlt,p'⟩,fun x H' y=>?_⟩
  obtain⟨e,y⟩:=y
  subst e
  exact hs i x σ _ (y xs q) p
 ·have e:i=xs.length:=by omega
  subst e
  exact .inl ⟨⟨xs,q,Qd _⟩,hd σ H p⟩
theorem Zh6{K:PySem.W.Frag}{a:Addr}{xs:List V}{g:TG}{tb:TS}{D:ZfK}{σ:St}{H:Hp}(Pv:Nat→St→Hp→Prop)(h0:Pv 0 σ H)(hl:∀i σ H,i≤xs.length→Pv i σ H→SqT K H a xs)
  (hs:∀i x σ H,xs[i]? = some x→Pv i σ H→g x σ H fun σ2 H2=>tb { D with nx:=Pv (i+1),ct:=Pv (i+1),bk:=D.nx } σ2 H2) (hd:∀σ H,Pv xs.length σ H→D.nx σ H) :
  ∃W:Nat→Nat→St→Hp→Prop,(∃m,W 0 m σ H)∧∀i m σ H,W i m σ H →
   ((Itt K a).stop i H∧D.nx σ H)∨((Itt K a).go i H∧∃N:St→Hp→Prop,(∀σ' H',N σ' H'→∃m',m'<m∧W (i+1) m' σ' H')∧∀x H',(Itt K a).yld i H x H'→g x σ H' fun σ2 H2=>tb { D with nx:=N,ct:=N,bk:=D.nx } σ2 H2):=by
 refine⟨fun i m σ H=>m=xs.length-i∧i≤xs.length∧Pv i σ H,⟨xs.length,by simp,Qm _,h0⟩,?_⟩
 rintro i m σ H ⟨rfl,hi,p⟩
 have q:=hl i σ H hi p
 by_cases hlt:i<xs.length
 ·refine .inr ⟨⟨xs,xs[i],q,by simp[hlt]⟩,Pv (i+1),fun σ' H' p'=>⟨xs.length-(i+1),by omega,rfl,hlt,p'⟩,fun x H' y=>?_⟩
  obtain⟨e,y⟩:=y
  subst e
  exact hs i x σ _ (y xs q) p
 ·have e:i=xs.length:=by omega
  subst e
  exact .inl ⟨⟨xs,q,Qd _⟩,hd σ H p⟩
theorem ZaR{lo:Int}{n:Nat}{g:TG}{tb:TS}{D:ZfK}{σ:St}{H:Hp}(Pv:Nat→St→Hp→Prop)(h0:Pv 0 σ H)
  (hs:∀i σ H,i<n→Pv i σ H→g (.int (lo+i)) σ H fun σ2 H2=>tb { D with nx:=Pv (i+1),ct:=Pv (i+1),bk:=D.nx } σ2 H2) (hd:∀σ H,Pv n σ H→D.nx σ H) :
  ∃W:Nat→Nat→St→Hp→Prop,(∃m,W 0 m σ H)∧∀i m σ H,W i m σ H →
   ((Itr lo n).stop i H∧D.nx σ H)∨((Itr lo n).go i H∧∃N:St→Hp→Prop,(∀σ' H',N σ' H'→∃m',m'<m∧W (i+1) m' σ' H')∧∀x H',(Itr lo n).yld i H x H'→g x σ H' fun σ2 H2=>tb { D with nx:=N,ct:=N,bk:=D.nx } σ2 H2):=by
 refine⟨fun i m σ H=>m=n-i∧i≤n∧Pv i σ H,⟨n,by simp,Qm _,h0⟩,?_⟩
 rintro i m σ H ⟨rfl,hi,p⟩
 by_cases hlt:i<n
 ·refine .inr ⟨hlt,Pv (i+1),fun σ' H' p'=>⟨n-(i+1),by omega,rfl,hlt,p'⟩,fun x H' y=>?_⟩
  obtain⟨e,y⟩:=y
  subst e y
  exact hs i σ _ hlt p
 ·have e:i=n:=by omega
  subst e
  exact .inl ⟨Qd _,hd σ H p⟩
abbrev R2:=V→V→Hp→VK→Prop
def OpR(X:Cx)(f:Value→Value→Sem Value)(r:R2):Prop :=
 ∀ (pins:List (Addr×Obj)) (s:Shared) (σ:St) (H:Hp) (x y:V) (v u:Value) (Q:VK),Inv X pins σ H s→ZT x v→ZT y u→r x y H Q →
  wpAny (model X.prog X.w) X.A (f v u) (EP X pins σ Q) X.xe s
def UnR(X:Cx)(f:Value→Sem Value)(r:V→Hp→VK→Prop):Prop :=
 ∀ (pins:List (Addr×Obj)) (s:Shared) (σ:St) (H:Hp) (x:V) (v:Value) (Q:VK),Inv X pins σ H s→ZT x v→r x H Q →
  wpAny (model X.prog X.w) X.A (f v) (EP X pins σ Q) X.xe s
def Z8(X:Cx)(f:Value)(r:List V→Hp→VK→Prop):Prop :=
 ∀ (pins:List (Addr×Obj)) (s:Shared) (σ:St) (H:Hp) (xs:List V) (us:List Value) (Q:VK),Inv X pins σ H s→ZE xs us→r xs H Q →
  wpAny (model X.prog X.w) X.A (call f us) (EP X pins σ Q) X.xe s
def tOp(r:R2)(ta tb:TE):TE:=fun σ H Q=>ta σ H fun x H1=>tb σ H1 fun y H2=>r x y H2 Q
def tUn(r:V→Hp→VK→Prop)(ta:TE):TE:=fun σ H Q=>ta σ H fun x H1=>r x H1 Q
def rI(C:Int→Int→Prop)(g:Int→Int→V):R2:=fun x y H Q=>∃i j,x=.int i∧y=.int j∧C i j∧Q (g i j) H
def rI0(g:Int→Int→V):R2:=fun x y H Q=>∃i j,x=.int i∧y=.int j∧Q (g i j) H
def rU(g:Int→V):V→Hp→VK→Prop:=fun x H Q=>∃i,x=.int i∧Q (g i) H
section
variable {X:Cx} {a b c:Expr} {ta tb tc:TE} {pos:Pos}
theorem Zmu(ha:PE X a ta)(hb:PE X b tb){pins:List (Addr×Obj)}{s:Shared}{σ:St}{H:Hp}{R:V→V→Hp→Prop}(I:Inv X pins σ H s)
  (h:ta σ H fun x H1=>tb σ H1 fun y H2=>R x y H2) {Q:Value→Shared→Prop} {f:Value→Value→Sem Value}
  (hf:∀v u s2 x y H2,Inv X pins σ H2 s2→ZT x v→ZT y u→R x y H2→wpAny (model X.prog X.w) X.A (f v u) Q X.xe s2) :
  wpAny (model X.prog X.w) X.A (eval a X.env) (fun v s₁=>wpAny (model X.prog X.w) X.A (eval b X.env) (fun u s₂=>wpAny (model X.prog X.w) X.A (f v u) Q X.xe s₂) X.xe s₁) X.xe s:=by
 refine thn (ha pins s σ H _ I h) ?_
 rintro v s1 ⟨x,H1,I1,r1,q1⟩
 refine thn (hb pins s1 σ H1 _ I1 q1) ?_
 rintro u s2 ⟨y,H2,I2,r2,q2⟩
 exact hf v u s2 x y H2 I2 r1 r2 q2
theorem Zm{op:Operator}{r:R2}(ho:OpR X (binaryOp op) r)(ha:PE X a ta)(hb:PE X b tb):PE X (.BinOp a op b pos) (tOp r ta tb):=by
 intro pins s σ H Q I h
 exact wpAny_BinOp (Zmu ha hb I h fun v u s2 x y H2 I2 rx ry q=>ho pins s2 σ H2 x y v u Q I2 rx ry q)
theorem ZeB{op:UnaryOp}{r:V→Hp→VK→Prop}(ho:UnR X (unaryOp op) r)(ha:PE X a ta):PE X (.UnaryOp op a pos) (tUn r ta):=by
 intro pins s σ H Q I h
 exact UnaryOp_ (thn (ha pins s σ H _ I h) fun v s1 ⟨x,H1,I1,r1,q1⟩=>ho pins s1 σ H1 x v Q I1 r1 q1)
theorem opI{f:Value→Value→Sem Value}{C:Int→Int→Prop}{g:Int→Int→Int}
  (rule:∀ (i j:Int) (t u:Tok) (s:Shared) (Q:Value→Shared→Prop) (E:Value→Shared→Prop),C i j→Q (.int (g i j) s.toks) { s with toks:=s.toks+1 }→wpAny (model X.prog X.w) X.A (f (.int i t) (.int j u)) Q E s) :
  OpR X f (rI C fun i j=>.int (g i j)):=by
 intro pins s σ H x y v u Q I rx ry h
 obtain⟨i,j,rfl,rfl,hc,q⟩:=h
 obtain⟨t,rfl⟩:=rx
 obtain⟨t',rfl⟩:=ry
 exact rule i j t t' s _ _ hc ⟨.int (g i j),H,I.tok _,⟨_,rfl⟩,q⟩
theorem ZnV{f:Value→Value→Sem Value}{g:Int→Int→Int}
  (rule:∀ (i j:Int) (t u:Tok) (s:Shared) (Q:Value→Shared→Prop) (E:Value→Shared→Prop),Q (.int (g i j) s.toks) { s with toks:=s.toks+1 }→wpAny (model X.prog X.w) X.A (f (.int i t) (.int j u)) Q E s) :
  OpR X f (rI0 fun i j=>.int (g i j)):=by
 intro pins s σ H x y v u Q I rx ry h
 obtain⟨i,j,rfl,rfl,q⟩:=h
 obtain⟨t,rfl⟩:=rx
 obtain⟨t',rfl⟩:=ry
 exact rule i j t t' s _ _ ⟨.int (g i j),H,I.tok _,⟨_,rfl⟩,q⟩
theorem Zli{f:Value→Value→Sem Value}{g:Int→Int→Bool}
  (rule:∀ (i j:Int) (t u:Tok) (s:Shared) (Q:Value→Shared→Prop) (E:Value→Shared→Prop),Q (.bool (g i j)) s→wpAny (model X.prog X.w) X.A (f (.int i t) (.int j u)) Q E s) :
  OpR X f (rI0 fun i j=>.bl (g i j)):=by
 intro pins s σ H x y v u Q I rx ry h
 obtain⟨i,j,rfl,rfl,q⟩:=h
 obtain⟨t,rfl⟩:=rx
 obtain⟨t',rfl⟩:=ry
 exact rule i j t t' s _ _ ⟨.bl (g i j),H,I,rfl,q⟩
def Zn9(i j:Int):Prop:=0<j∧j<1073741824
def Zm6(i j:Int):Prop:=0≤j∧j≤1000000∧i.natAbs<2 ^ 64
def Znf(i j:Int):Prop:=(-(2 ^ 64)<i∧i<2 ^ 64)∨(-(2 ^ 64)<j∧j<2 ^ 64)
theorem Znf.ok{i j:Int}(h:Znf i j):IntMulOk i j:=by
 rcases h with⟨h1,h2⟩|⟨h1,h2⟩
 ·exact .of_left (intBits_le_64 h1 h2)
 ·exact .of_right (intBits_le_64 h1 h2)
theorem ZG:OpR X (binaryOp .Add) (rI0 fun i j=>.int (i+j)):=ZnV fun _ _ _ _ _ _ _ q=>add_int q
theorem Za2:OpR X (binaryOp .Sub) (rI0 fun i j=>.int (i-j)):=ZnV fun _ _ _ _ _ _ _ q=>sub_int q
theorem ZcM:OpR X (binaryOp .Mult) (rI Znf fun i j=>.int (i*j)):=opI fun _ _ _ _ _ _ _ hc q=>mul_int q hc.ok
theorem Ziu:OpR X (binaryOp .FloorDiv) (rI Zn9 fun i j=>.int (i / j)):=opI fun i j _ _ _ _ _ hc q=>by
 have h1:(0:Int)<j:=hc.1
 have h2:j<1073741824:=hc.2
 exact floordiv_int (by omega) (by rw[Int.fdiv_eq_ediv_of_nonneg i (by omega)];exact q) (.inl (PyProof.noPylong_small (by omega)))
theorem Zeq:OpR X (binaryOp .Mod) (rI (fun _ j=>0<j) fun i j=>.int (i % j)):=opI fun i j _ _ _ _ _ hc q=>by
 have h1:(0:Int)<j:=hc
 exact mod_int' (by omega) (by rw[Int.fmod_eq_emod_of_nonneg i (by omega)];exact q)
theorem ZeI:OpR X (binaryOp .Pow) (rI Zm6 fun i j=>.int (i ^ j.toNat)):=opI fun _ _ _ _ _ _ _ hc q=>pow_int_small hc.1 hc.2.1 hc.2.2 q
theorem unI{f:Value→Sem Value}{g:Int→Int}
  (rule:∀ (i:Int) (t:Tok) (s:Shared) (Q:Value→Shared→Prop) (E:Value→Shared→Prop),Q (.int (g i) s.toks) { s with toks:=s.toks+1 }→wpAny (model X.prog X.w) X.A (f (.int i t)) Q E s) :
  UnR X f (rU fun i=>.int (g i)):=by
 intro pins s σ H x v Q I rx h
 obtain⟨i,rfl,q⟩:=h
 obtain⟨t,rfl⟩:=rx
 exact rule i t s _ _ ⟨.int (g i),H,I.tok _,⟨_,rfl⟩,q⟩
theorem Zdh:UnR X (unaryOp .USub) (rU fun i=>.int (-i)):=unI fun _ _ _ _ _ q=>neg_int q
end
def ZnY:V→V→Bool
 | .non,.non=>true|.non,.int _=>true|.int _,.non=>true|.non,.bl _=>true|.bl _,.non=>true|.non,.str _=>true|.str _,.non=>true
 | .int _,.int _=>true|.bl _,.bl _=>true|.str _,.str _=>true|.byt _,.byt _=>true
 | .int _,.str _=>true|.str _,.int _=>true|.bl _,.str _=>true|.str _,.bl _=>true
 | _,_=>false
def rEq:R2:=fun x y H Q=>ZnY x y=true∧Q (.bl (decide (x=y))) H
def rNe:R2:=fun x y H Q=>ZnY x y=true∧Q (.bl (!decide (x=y))) H
theorem ZhP{i j:Int}:decide (V.int i=V.int j)=(i == j):=by
 rw[Qaz]
 simp
theorem ZjF{i j:Bool}:decide (V.bl i=V.bl j)=(i == j):=by
 rw[Qaz]
 simp
theorem Zie{i j:Str}:decide (V.str i=V.str j)=(i == j):=by
 rw[Qaz]
 simp
theorem ZhI{i j:Array UInt8}:decide (V.byt i=V.byt j)=(i.toList == j.toList):=by
 rw[Qaz]
 cases i
 cases j
 simp
section
variable {X:Cx} {a b c:Expr} {ta tb tc:TE} {pos:Pos}
theorem ZU{pins:List (Addr×Obj)}{σ:St}{H:Hp}{s:Shared}{Q:VK}{k k':Bool}(I:Inv X pins σ H s)(q:Q (.bl k) H)(e:k=k'):EP X pins σ Q (.bool k') s:=by
 subst e
 exact⟨.bl k,H,I,rfl,q⟩
theorem Zd2:OpR X (compareOp .Eq) rEq:=by
 intro pins s σ H x y v u Q I rx ry h
 obtain⟨hs,q⟩:=h
 cases x with
 | non =>
  cases rx
  cases y with
  | non=>cases ry;exact PySem.EqNone.eq_none_none (ZU I q (by simp))
  | bl j=>cases ry;exact PySem.EqNone.eq_none_bool (ZU I q (by simp))
  | int j=>obtain⟨t',rfl⟩:=ry;exact PySem.EqNone.eq_none_int (ZU I q (by simp))
  | str j=>obtain⟨t',rfl⟩:=ry;exact PySem.EqNone.eq_none_str (ZU I q (by simp))
  | _=>exact absurd (show false=true from hs) Qj
 | bl i =>
  cases rx
  cases y with
  | non=>cases ry;exact PySem.EqNone.eq_bool_none (ZU I q (by simp))
  | bl j=>cases ry;exact eq_bool (ZU I q ZjF)
  | str j=>obtain⟨t',rfl⟩:=ry;exact PySem.EqMixed.eq_bool_str (ZU I q (by simp))
  | _=>exact absurd (show false=true from hs) Qj
 | int i =>
  obtain⟨t,rfl⟩:=rx
  cases y with
  | non=>cases ry;exact PySem.EqNone.eq_int_none (ZU I q (by simp))
  | int j=>obtain⟨t',rfl⟩:=ry;exact eq_int (ZU I q ZhP)
  | str j=>obtain⟨t',rfl⟩:=ry;exact PySem.EqMixed.eq_int_str (ZU I q (by simp))
  | _=>exact absurd (show false=true from hs) Qj
 | str i =>
  obtain⟨t,rfl⟩:=rx
  cases y with
  | non=>cases ry;exact PySem.EqNone.eq_str_none (ZU I q (by simp))
  | bl j=>cases ry;exact PySem.EqMixed.eq_str_bool (ZU I q (by simp))
  | int j=>obtain⟨t',rfl⟩:=ry;exact PySem.EqMixed.eq_str_int (ZU I q (by simp))
  | str j=>obtain⟨t',rfl⟩:=ry;exact eq_str (ZU I q Zie)
  | _=>exact absurd (show false=true from hs) Qj
 | byt i =>
  obtain⟨t,rfl⟩:=rx
  cases y with
  | byt j=>obtain⟨t',rfl⟩:=ry;exact PySem.W.eq_bytes (ZU I q ZhI)
  | _=>exact absurd (show false=true from hs) Qj
 | _=>cases y<;>exact absurd (show false=true from hs) Qj
theorem Zgq:OpR X (compareOp .NotEq) rNe:=by
 intro pins s σ H x y v u Q I rx ry h
 obtain⟨hs,q⟩:=h
 cases x with
 | non =>
  cases rx
  cases y with
  | non=>cases ry;exact PySem.EqNone.ne_none_none (ZU I q (by simp))
  | bl j=>cases ry;exact PySem.EqNone.ne_none_bool (ZU I q (by simp))
  | int j=>obtain⟨t',rfl⟩:=ry;exact PySem.EqNone.ne_none_int (ZU I q (by simp))
  | str j=>obtain⟨t',rfl⟩:=ry;exact PySem.EqNone.ne_none_str (ZU I q (by simp))
  | _=>exact absurd (show false=true from hs) Qj
 | bl i =>
  cases rx
  cases y with
  | non=>cases ry;exact PySem.EqNone.ne_bool_none (ZU I q (by simp))
  | bl j=>cases ry;exact ne_bool (ZU I q (congrArg not ZjF))
  | str j=>obtain⟨t',rfl⟩:=ry;exact PySem.EqMixed.ne_bool_str (ZU I q (by simp))
  | _=>exact absurd (show false=true from hs) Qj
 | int i =>
  obtain⟨t,rfl⟩:=rx
  cases y with
  | non=>cases ry;exact PySem.EqNone.ne_int_none (ZU I q (by simp))
  | int j=>obtain⟨t',rfl⟩:=ry;exact ne_int (ZU I q (congrArg not ZhP))
  | str j=>obtain⟨t',rfl⟩:=ry;exact PySem.EqMixed.ne_int_str (ZU I q (by simp))
  | _=>exact absurd (show false=true from hs) Qj
 | str i =>
  obtain⟨t,rfl⟩:=rx
  cases y with
  | non=>cases ry;exact PySem.EqNone.ne_str_none (ZU I q (by simp))
  | bl j=>cases ry;exact PySem.EqMixed.ne_str_bool (ZU I q (by simp))
  | int j=>obtain⟨t',rfl⟩:=ry;exact PySem.EqMixed.ne_str_int (ZU I q (by simp))
  | str j=>obtain⟨t',rfl⟩:=ry;exact ne_str (ZU I q (congrArg not Zie))
  | _=>exact absurd (show false=true from hs) Qj
 | byt i =>
  obtain⟨t,rfl⟩:=rx
  cases y with
  | byt j=>obtain⟨t',rfl⟩:=ry;exact PySem.W.ne_bytes (ZU I q (congrArg not ZhI))
  | _=>exact absurd (show false=true from hs) Qj
 | _=>cases y<;>exact absurd (show false=true from hs) Qj
theorem Zfq:OpR X (compareOp .Lt) (rI0 fun i j=>.bl (decide (i<j))):=Zli fun _ _ _ _ _ _ _ q=>lt_int q
theorem Zmi:OpR X (compareOp .LtE) (rI0 fun i j=>.bl (decide (i≤j))):=Zli fun _ _ _ _ _ _ _ q=>le_int q
theorem ZcI:OpR X (compareOp .Gt) (rI0 fun i j=>.bl (decide (j<i))):=Zli fun _ _ _ _ _ _ _ q=>gt_int q
theorem Zmt:OpR X (compareOp .GtE) (rI0 fun i j=>.bl (decide (j≤i))):=Zli fun _ _ _ _ _ _ _ q=>ge_int q
theorem ZD(b:Expr){op:CmpOp}(h:op≠.In:=by decide)(h2:op≠.NotIn:=by decide):behindInMarks op b=false:=by
 have e1:(op == CmpOp.In)=false:=by cases op<;>first|rfl|exact absurd rfl h
 have e2:(op == CmpOp.NotIn)=false:=by cases op<;>first|rfl|exact absurd rfl h2
 cases b<;>simp[behindInMarks,e1,e2]
theorem Zcm{op:CmpOp}{r:R2}(ho:OpR X (compareOp op) r)(ha:PE X a ta)(hb:PE X b tb)(hm:behindInMarks op b=false):PE X (.Compare a [op] [b] pos) (tOp r ta tb):=by
 intro pins s σ H Q I h
 exact wpAny_Compare1 (Zmu ha hb I h fun v u s2 x y H2 I2 rx ry q=>ho pins s2 σ H2 x y v u Q I2 rx ry q) hm
def Zl9(t:TE):TT:=fun σ H Q=>t σ H fun x H'=>∃k,x=.bl k∧Q k H'
theorem Zy{op:CmpOp}{r:R2}(ho:OpR X (compareOp op) r)(ha:PE X a ta)(hb:PE X b tb)(hm:behindInMarks op b=false):PT X (.Compare a [op] [b] pos) (Zl9 (tOp r ta tb)):=by
 intro pins s σ H Q I h
 refine wpAny_isTrue_Compare1 (thn (ha pins s σ H _ I h) fun v s1 ⟨x,H1,I1,r1,q1⟩=>thn (hb pins s1 σ H1 _ I1 q1) fun u s2 ⟨y,H2,I2,r2,q2⟩=>
  thn (ho pins s2 σ H2 x y v u _ I2 r1 r2 q2) fun c s3 ⟨z,H3,I3,r3,k,e,q3⟩=>?_) hm
 subst e
 cases r3
 exact wpAny_truthy_bool ⟨H3,I3,q3⟩
def Zm2(r r':R2)(ta tb tc:TE):TE:=fun σ H Q=>ta σ H fun x H1=>tb σ H1 fun y H2=>r x y H2 fun z H3=>∃k,z=.bl k ∧
 (if k=true then tc σ H3 fun w' H4=>r' y w' H4 Q else Q (.bl false) H3)
theorem ZkD{op op':CmpOp}{r r':R2}(ho:OpR X (compareOp op) r)(ho':OpR X (compareOp op') r')(ha:PE X a ta)(hb:PE X b tb)(hc:PE X c tc)
  (hm:lastMarks [op,op'] [b,c]=false:=by with_unfolding_all rfl):PT X (.Compare a [op,op'] [b,c] pos) (Zl9 (Zm2 r r' ta tb tc)):=by
 intro pins s σ H Q I h
 refine isTrue_chain (thn (ha pins s σ H _ I h) fun v s1 ⟨x,H1,I1,r1,q1⟩=>test_link (thn (hb pins s1 σ H1 _ I1 q1) fun u s2 ⟨y,H2,I2,r2,q2⟩=>
  thn (ho pins s2 σ H2 x y v u _ I2 r1 r2 q2) fun d s3 ⟨z,H3,I3,r3,k,e,q3⟩=>?_)) hm
 subst e
 cases r3
 refine wpAny_truthy_bool ?_
 cases k with
 | false =>
  obtain⟨k',e',q'⟩:=q3
  cases e'
  exact ite_ff ⟨H3,I3,q'⟩
 | true =>
  refine ite_tt (test_last (thn (hc pins s3 σ H3 _ I3 q3) fun w' s4 ⟨z',H4,I4,r4,q4⟩=>thn (ho' pins s4 σ H4 y z' u w' _ I4 r2 r4 q4) ?_))
  rintro d' s5 ⟨z2,H5,I5,r5,k2,e2,q5⟩
  subst e2
  cases r5
  exact wpAny_truthy_bool ⟨H5,I5,q5⟩
theorem ZfY:(sizeLine:Nat)<2 ^ 63:=by rw[sizeLine_eq];decide
theorem ZbD{x:V}{us:List Value}(r:ZE [x] us):∃u,us=[u]∧ZT x u:=by
 cases r with
 | cons r1 r2=>cases r2;exact⟨_,rfl,r1⟩
theorem ZkI{x y:V}{us:List Value}(r:ZE [x,y] us):∃u w',us=[u,w']∧ZT x u∧ZT y w':=by
 cases r with
 | cons r1 r2 =>
  cases r2 with
  | cons r3 r4=>cases r4;exact⟨_,_,rfl,r1,r3⟩
theorem Zf3:Z8 X (.builtin "abs") (fun xs H Q=>∃i,xs=[.int i]∧Q (.int (if i<0 then -i else i)) H):=by
 intro pins s σ H xs us Q I r h
 obtain⟨i,rfl,q⟩:=h
 obtain⟨u,rfl,t,rfl⟩:=ZbD r
 exact call_abs_int fun u tk=>⟨.int (if i<0 then -i else i),H,I.tok _,⟨_,rfl⟩,q⟩
theorem Zi0(hc:X.calm=true):Z8 X (.builtin "max") (fun xs H Q=>∃i j,xs=[.int i,.int j]∧Q (.int (if j>i then j else i)) H):=by
 intro pins s σ H xs us Q I r h
 obtain⟨i,j,rfl,q⟩:=h
 obtain⟨u,w',rfl,⟨t,rfl⟩,⟨t',rfl⟩⟩:=ZkI r
 refine max_two_ints (I.ok.hd hc) fun h' tk k=>⟨_,H,I.kept k,?_,q⟩
 by_cases hj:j>i
 ·rw[if_pos hj,if_pos hj];exact⟨_,rfl⟩
 ·rw[if_neg hj,if_neg hj];exact⟨_,rfl⟩
theorem ZdI(hc:X.calm=true):Z8 X (.builtin "min") (fun xs H Q=>∃i j,xs=[.int i,.int j]∧Q (.int (if j<i then j else i)) H):=by
 intro pins s σ H xs us Q I r h
 obtain⟨i,j,rfl,q⟩:=h
 obtain⟨u,w',rfl,⟨t,rfl⟩,⟨t',rfl⟩⟩:=ZkI r
 refine min_two_ints (I.ok.hd hc) fun h' tk k=>⟨_,H,I.kept k,?_,q⟩
 by_cases hj:j<i
 ·rw[if_pos hj,if_pos hj];exact⟨_,rfl⟩
 ·rw[if_neg hj,if_neg hj];exact⟨_,rfl⟩
theorem Zfi:Z8 X (.type "int") (fun xs H Q=>(∃i,xs=[.int i]∧Q (.int i) H)∨∃k,xs=[.bl k]∧Q (.int (if k then 1 else 0)) H):=by
 intro pins s σ H xs us Q I r h
 rcases h with⟨i,rfl,q⟩|⟨k,rfl,q⟩
 ·obtain⟨u,rfl,t,rfl⟩:=ZbD r
  exact call_int_int ⟨.int i,H,I,⟨_,rfl⟩,q⟩
 ·obtain⟨u,rfl,r1⟩:=ZbD r
  cases r1
  exact call_int_bool ⟨.int (if k then 1 else 0),H,I.tok _,⟨_,rfl⟩,q⟩
end
structure Zm8 (h:Heap) (x dx C:Addr) (mA:Str→Option Value):Prop where
 obj:h.get? x=some (PySem.W.instObj C dx)
 ns:h.Ns1 dx mA
 ne:dx≠x
theorem Zjg{h:Heap}{dx:Addr}{mA:Str→Option Value}(n:h.Ns1 dx mA):∃od,h.get? dx=some od∧∀name,PySem.W.lookIn name od=some (mA name):=by
 obtain⟨o,es,ep,ho,hd,hk,_,hm⟩:=n
 refine⟨o,ho,fun name=>?_⟩
 have e:=hm name
 unfold nsFind findBy at e
 rw[← Array.find?_toList]at e
 unfold PySem.W.lookIn
 rw[hd]
 dsimp only
 split
 ·rename_i y q
  rw[q]at e
  exact congrArg some e
 ·rename_i q
  rw[q]at e
  have a:es.toList.any (·.refKey)=false:=by
   rw[List.any_eq_false]
   intro y hy
   obtain⟨z,t,hkey⟩:=hk y (Array.mem_toList_iff.mp hy)
   simp[DictEntry.refKey,hkey]
  have a':¬ es.toList.any (·.refKey)=true:=by rw[a];exact Qj
  rw[if_neg a']
  exact congrArg some e
theorem Zm8.look{h:Heap}{x dx C:Addr}{mA:Str→Option Value}(I:Zm8 h x dx C mA):∃od,PySem.W.InstAt h x (PySem.W.instObj C dx) C (some od)∧∀name,PySem.W.lookIn name od=some (mA name) :=
 let ⟨od,ho,hl⟩:=Zjg I.ns
 ⟨od,⟨I.obj,rfl,rfl,ho⟩,hl⟩
section
variable {prog:Program} {w:World} {A:Around} {E:Value→Shared→Prop} {s:Shared} {K:PySem.W.Frag} {x dx C f:Addr} {mA:Str→Option Value} {name:Str} {v:Value}
end
section
variable {P:Program} {w:World} {H H':Hp} {h h':Heap} {a C dx:Addr} {fs fs':List (Str×V)}
theorem Zk5(hok:HOk P w H h)(e:H a=some (.ins C dx fs)):∃mA,Zm8 h a dx C mA∧(∀f,Zm1 (fs.lookup f) (mA f))∧PySem.Within mA (fs.map (·.1))∧fs.length≤1000∧H dx=some (.own a):=by
 obtain⟨d,z,ne,ob,mA,n,r,q⟩:=(show Zah P w H h a (.ins C dx fs) from hok a _ e)
 exact⟨mA,⟨ob,n,ne⟩,r,q,z,d⟩
end
structure Cls (K:PySem.W.Frag) (C:Addr):Prop where
 pg:PySem.W.plainGet K C Str.empty=true
 hd:PySem.W.hasDictIn K C=true
 po:PySem.W.plainOver K C=true
 sa:PySem.W.findIn K (.ref C) "__setattr__" = some (some (.builtin "object.__setattr__"))
theorem Cls.get{K:PySem.W.Frag}{C:Addr}(c:Cls K C)(f:Str):PySem.W.plainGet K C f=true:=c.pg
structure Con (K:PySem.W.Frag) (C:Addr) (f:Str) (v:V) (u:Value):Prop where
 at_:PySem.W.findIn K (.ref C) f=some (some u)
 rel:ZT v u
 get:PySem.W.specialIn K u "__get__" = some none
 cp:PySem.W.copiedNames.contains f=false
structure ZnF (K:PySem.W.Frag) (C:Addr) (m:Str) (f:Addr):Prop where
 at_:PySem.W.findIn K (.ref C) m=some (some (.ref f))
 fn:PySem.W.isFn K (.ref f)=true
 kp:PySem.W.keepIn K (.ref f)=true
section
variable {X:Cx} {pins:List (Addr×Obj)} {σ:St} {H:Hp} {s:Shared} {a C dx:Addr} {fs:List (Str×V)} {f:Str} {v:V} {A:Around} {E:Value→Shared→Prop}
end
section
variable {X:Cx} {o e value:Expr} {f:Str} {pos pos' tpos:Pos} {ta tv:TE}
end
section
variable {X:Cx} {pins:List (Addr×Obj)} {σ:St} {H:Hp} {s:Shared} {A:Around} {E:Value→Shared→Prop} {Q:Value→Shared→Prop} {c:Value} {b:Bool}
inductive Zdu (K:PySem.W.Frag) (H:Hp):V→Value→Prop where
 | non:Zdu K H .non (.type "NoneType")
 | bl (x:Bool):Zdu K H (.bl x) (.type "bool")
 | int (i:Int):Zdu K H (.int i) (.type "int")
 | str (x:Str):Zdu K H (.str x) (.type "str")
 | flt (x:UInt64):Zdu K H (.flt x) (.type "float")
 | lst {a:Addr} {xs:List V} (e:H a=some (.lst xs)):Zdu K H (.ref a) (.type "list")
 | frz {a:Addr} {o:Obj} {xs:List V} (e:H a=some (.frz o (.lst xs))):Zdu K H (.ref a) (.type "list")
 | tup {a:Addr} {xs:List V} (e:H a=some (.tup xs)):Zdu K H (.ref a) (.type "tuple")
 | dK {a:Addr} {kvs:List (Key×V)} (e:H a=some (.dK kvs)):Zdu K H (.ref a) (.type "dict")
 | dT {a:Addr} {kvs:List (List Key×V)} (e:H a=some (.dT kvs)):Zdu K H (.ref a) (.type "dict")
 | ins {a C dx:Addr} {fs:List (Str×V)} (e:H a=some (.ins C dx fs)) (cl:Cls K C) (ha:PySem.W.findIn K (.ref C) "__class__" = some (some (.builtin "object.__class__")))
   (hn:PySem.W.specialIn K (.builtin "object.__class__") "__get__" = some (some (.builtin "getset_descriptor.__get__"))) (htk:PySem.W.takesIn K (.builtin "object.__class__")=some true)
   (hm:PySem.W.mroIn K C (.type "object")=some true):Zdu K H (.ref a) (.ref C)
theorem Zjl{x:V}{u t:Value}(I:Inv X pins σ H s)(rx:ZT x u)(ty:Zdu X.K H x t)(e:PySem.W.kitOne X.K t c=some b)(h:∀tk,Q (.bool b) { s with toks:=tk }) :
  wpAny (model X.prog X.w) A (call (.builtin "isinstance") [u,c]) Q E s:=by
 cases ty with
 | non=>cases (show u=Value.none from rx);exact QY PySem.W.kitx_none I.kIn True.intro e (fun z=>nomatch z) h
 | bl y=>cases (show u=Value.bool y from rx);exact QY PySem.W.kitx_bool I.kIn True.intro e (fun z=>nomatch z) h
 | int i=>obtain⟨t,q⟩:=(show ∃t,u=Value.int i t from rx);cases q;exact QY PySem.W.kitx_int I.kIn True.intro e (fun z=>nomatch z) h
 | str y=>obtain⟨t,q⟩:=(show ∃t,u=Value.str y t from rx);cases q;exact QY PySem.W.kitx_str I.kIn True.intro e (fun z=>nomatch z) h
 | flt y=>obtain⟨t,q⟩:=(show ∃t,u=Value.float y t from rx);cases q;exact QY PySem.W.kitx_float I.kIn True.intro e (fun z=>nomatch z) h
 | @lst a xs ea =>
  cases (show u=Value.ref a from rx)
  obtain⟨_,_,n,_,h1⟩:=(show Zah X.prog X.w H s.heap a (.lst xs) from I.hok a _ ea)
  exact QY PySem.W.kitx_list I.kIn ⟨_,h1,rfl⟩ e (fun z=>nomatch z) h
 | @frz a ob xs ea =>
  cases (show u=Value.ref a from rx)
  obtain⟨_,_,_,n,_,h1⟩:=(show Zah X.prog X.w H s.heap a (.frz ob (.lst xs)) from I.hok a _ ea)
  exact QY PySem.W.kitx_list I.kIn ⟨_,h1,rfl⟩ e (fun z=>nomatch z) h
 | @tup a xs ea =>
  cases (show u=Value.ref a from rx)
  obtain⟨_,_,_,p⟩:=(show Zah X.prog X.w H s.heap a (.tup xs) from I.hok a _ ea)
  obtain⟨o,h1,h2,_⟩:=p
  exact QY PySem.W.kitx_tuple I.kIn ⟨o,h1,h2⟩ e (fun z=>nomatch z) h
 | @dK a kvs ea =>
  cases (show u=Value.ref a from rx)
  obtain⟨_,_,vs,_,p⟩:=(show Zah X.prog X.w H s.heap a (.dK kvs) from I.hok a _ ea)
  obtain⟨o,es,ep,h1,h2,_⟩:=p
  exact QY PySem.W.kitx_dict I.kIn ⟨o,h1,h2.1⟩ e (fun z=>nomatch z) h
 | @dT a kvs ea =>
  cases (show u=Value.ref a from rx)
  obtain⟨_,_,xs,_,o,es,ep,h1,h2,_⟩:=(show Zah X.prog X.w H s.heap a (.dT kvs) from I.hok a _ ea)
  exact QY PySem.W.kitx_dict I.kIn ⟨o,h1,h2.1⟩ e (fun z=>nomatch z) h
 | @ins a C dx fs ea cl ha hn htk hm =>
  cases (show u=Value.ref a from rx)
  obtain⟨mA,O,_⟩:=Zk5 I.hok ea
  obtain⟨od,J,_⟩:=O.look
  exact QY (PySem.W.kitx_own (cl.get _) cl.hd ha hn htk hm) I.kIn J e (fun z=>nomatch z) h
end
structure Za7 (k:Nat) (A:Around):Prop where
 hd:A.handled=none
 dp:A.depth+3*k+5<recursionLimit
 un:A.units+16*k+200<cLine
 gd:A.guards=some []
theorem Za7.mono{j k:Nat}{A:Around}(r:Za7 k A)(h:j≤k):Za7 j A:=⟨r.hd,by have:=r.dp;omega,by have:=r.un;omega,r.gd⟩
theorem Za7.deeper{k:Nat}{A:Around}(r:Za7 (k+1) A)(env:Env):Za7 k (A.deeper env) :=
 ⟨r.hd,by have:=r.dp;show A.depth+1+3*k+5<_;omega,by have:=r.un;show A.units+3+16*k+200<_;omega,r.gd⟩
theorem Za7.depth{k:Nat}{A:Around}(r:Za7 k A):A.depth<recursionLimit:=by have:=r.dp;omega
theorem Za7.units{k:Nat}{A:Around}(r:Za7 k A):A.units+64<cLine:=by have:=r.un;omega
def Zop:TA:=fun _ H Q=>Q [] H
def ZnH(ta:TE)(tr:TA):TA:=fun σ H Q=>ta σ H fun x H1=>tr σ H1 fun xs H2=>Q (x::xs) H2
section
variable {X:Cx} {e:Expr} {es:List Expr} {te:TE} {t:TA} {pos:Pos}
theorem Zd:PA X [] Zop:=fun _ _ _ _ H Q I h=>Calls.spliced_nil ⟨[],H,I,.nil,h⟩
theorem Za(ha:PE X e te)(hr:PA X es t)(hs:starEach (e::es) X.env=(false,eval e X.env)::starEach es X.env:=by rfl):PA X (e::es) (ZnH te t):=by
 intro pos pins s σ H Q I h
 rw[hs]
 show wpAny _ _ (spliced ((false,eval e X.env)::backTo pos (starEach es X.env))) _ _ s
 refine Calls.spliced_cons (thn (ha pins s σ H _ I h) ?_)
 rintro u s1 ⟨x,H1,I1,r1,q1⟩
 exact thn (hr pos pins s1 σ H1 _ I1 q1) fun us s2 ⟨xs,H2,I2,r2,q2⟩=>⟨x::xs,H2,I2,.cons r1 r2,q2⟩
def Zov(t:TA):TE:=fun σ H Q=>t σ H fun xs H1=>xs.length≤sizeLine∧∀p,H1 p=none→Q (.ref p) (upd H1 p (.tup xs))
def Zog(t:TA):TE:=fun σ H Q=>t σ H fun xs H1=>xs.length≤sizeLine∧∀p,H1 p=none→Q (.ref p) (upd H1 p (.lst xs))
theorem Zx{x1}(h:PA X es t):PE X (.Tuple es x1 pos) (Zov t):=by
 intro pins s σ H Q I hq
 refine wpAny_Tuple_spliced (thn (h pos pins s σ H _ I hq) fun us s1 ⟨xs,H1,I1,r,z,q⟩=>⟨by rw[← r.length];exact z,?_⟩)
 have hf:H1 s1.heap.objs.size=none:=I1.hok.fresh (Qd _)
 refine⟨.ref s1.heap.objs.size,upd H1 s1.heap.objs.size (.tup xs),I1.laid (t':=s1.toks) (fun b u e=>Qb _ e) (Qd _) ?_,rfl,q _ hf⟩
 exact⟨z,us,r,⟨_,Qp _ rfl,rfl,_,rfl⟩⟩
theorem ZH(h:PA X es t):PE X (.List es pos) (Zog t):=by
 intro pins s σ H Q I hq
 refine wpAny_List_spliced (thn (h pos pins s σ H _ I hq) fun us s1 ⟨xs,H1,I1,r,z,q⟩=>⟨by rw[← r.length];exact z,?_⟩)
 have hf:H1 s1.heap.objs.size=none:=I1.hok.fresh (Qd _)
 refine⟨.ref s1.heap.objs.size,upd H1 s1.heap.objs.size (.lst xs),I1.laid (t':=s1.toks) (fun b u e=>Qb _ e) (Qd _) ?_,rfl,q _ hf⟩
 exact⟨z,us,0,r,Qp _ rfl⟩
end
abbrev Sp:=List V→Hp→VK→XK→Prop
abbrev CXT:=List Env→Hp→Shared→XK→Value→Shared→Prop
structure Zk2 (P:Program) (w:World) (K:PySem.W.Frag) (mg:Str→Option Value) (base:Heap) (A:Around) (outer:List Env) (s:Shared) (H:Hp):Prop where
 frames:A.frames=some outer
 mod:Mod K mg base
 bs:∀b o,base.get? b=some o→s.heap.get? b=some o∧H b=none
 bsz:base.objs.size≤s.heap.objs.size
 funs:s.heap.FunFrames base outer
 frf:∀b∈frs outer,H b=none
 hok:HOk P w H s.heap
 bare:AllBare s.gens
def CE(outer:List Env)(P:Program)(w:World)(H:Hp)(s:Shared)(Q:VK)(u:Value)(s':Shared):Prop :=
 ∃v H',s'.os=s.os∧AllBare s'.gens∧Un (frs outer) [] H H' s.heap s'.heap∧HOk P w H' s'.heap∧ZT v u∧Q v H'
def CR(CX:CXT)(outer:List Env)(P:Program)(w:World)(H:Hp)(s:Shared)(Q:VK)(E:XK)(r:Result)(s':Shared):Prop :=
 match r with
 | .ok (.ret u)=>CE outer P w H s Q u s'
 | .ok _=>False
 | .error e=>CX outer H s E e s'
structure Zd6 (P:Program) (w:World) (K:PySem.W.Frag) (mg:Str→Option Value) (base:Heap) (CX:CXT) (k:Nat) (f:Addr) (fd:FuncData) (ps:List Str) (sp:Sp):Prop where
 len:∀vs H Q E,sp vs H Q E→vs.length=ps.length
 run:∀ (A:Around) (outer:List Env) (s:Shared) (H:Hp) (args:Args) (us:List Value) (vs:List V) (Q:VK) (E:XK),Za7 k A→Zk2 P w K mg base A outer s H→BindsTo s fd args (ps.zip us)→ZE vs us→sp vs H Q E →
  codeAny (model P w) A (.call (.ref f) args) (CR CX outer P w H s Q E) s
section
variable {X:Cx} {pins:List (Addr×Obj)} {σ:St} {H:Hp} {s s':Shared}
theorem Inv.env0(I:Inv X pins σ H s):Zk2 X.prog X.w X.K X.mg X.base X.A X.stack s H :=
 ⟨I.ok.frames,I.ok.mod,I.bs,QI I.ok.bsz I.sz,I.stack,I.stkFree,I.hok,I.bare⟩
theorem Inv.after{Q:VK}{u:Value}(I:Inv X pins σ H s)(h:CE X.stack X.prog X.w H s Q u s'):EP X pins σ Q u s':=by
 obtain⟨v,H',os,bare,un,hok,r,q⟩:=h
 obtain⟨hh,g,d,t,os'⟩:=s'
 obtain rfl:os'=s.os:=os
 exact⟨v,H',I.call (h':=hh) (g':=g) (d':=d) (t':=t) (ch:=[]) un hok bare (fun b z=>absurd z (by simp)),r,q⟩
end
def Zic(sp:Sp)(dvs:List V)(E:XK)(t:TA):TE:=fun σ H Q=>t σ H fun vs H1=>sp (vs++dvs) H1 Q E
def ZcZ(K:PySem.W.Frag)(fd:FuncData)(ps:List Str)(ds:List Value):Prop :=
 ∀ (s:Shared) (us:List Value),K.In s.heap→(us++ds).length=ps.length→BindsTo s fd ⟨us,[]⟩ (ps.zip (us++ds))
theorem ZcZ.all{K:PySem.W.Frag}{fd:FuncData}{ps:List Str}(h:∀us:List Value,us.length=ps.length→bindArgs fd ⟨us,[]⟩=pure (ps.zip us)):ZcZ K fd ps []:=fun s us _ hl=>by
 rw[QG]at hl ⊢
 exact .of_eq (h us hl)
def Zhn(CX:CXT)(X:Cx)(E:XK):Prop:=∀ (pins:List (Addr×Obj)) (σ:St) (H:Hp) (s:Shared) (e:Value) (s':Shared),Inv X pins σ H s→CX X.stack H s E e s'→X.xe e s'
section
variable {X:Cx} {CX:CXT} {k:Nat} {f C:Addr} {fd:FuncData} {ps:List Str} {sp:Sp} {dvs:List V} {ds:List Value} {E:XK} {x m:Str} {p pos apos:Pos} {e o:Expr} {es:List Expr} {ta:TE} {t:TA}
theorem ZmR{pins:List (Addr×Obj)}{σ:St}{H:Hp}{s:Shared}{Q:VK}{us:List Value}{vs:List V}(F:Zd6 X.prog X.w X.K X.mg X.base CX k f fd ps sp)(hr:Za7 k X.A)(hb:ZcZ X.K fd ps ds)(hd:ZE dvs ds)(hx:Zhn CX X E)
  (I:Inv X pins σ H s) (r:ZE vs us) (h:sp (vs++dvs) H Q E):wpAny (model X.prog X.w) X.A (call (.ref f) us) (EP X pins σ Q) X.xe s:=by
 have r2:ZE (vs++dvs) (us++ds):=r.append hd
 have hl:(us++ds).length=ps.length:=by rw[← r2.length];exact F.len _ _ _ _ h
 refine wpAny_call (codeAny_mono (F.run X.A X.stack s H ⟨us,[]⟩ (us++ds) (vs++dvs) Q E hr I.env0 (hb s us I.kIn hl) r2 h) fun r s' hq=>?_)
 cases r with
 | error e=>exact hx pins σ H s e s' I hq
 | ok fl =>
  cases fl with
  | ret u=>exact I.after hq
  | next=>exact False.elim hq
  | brk=>exact False.elim hq
  | cont=>exact False.elim hq
theorem ZkU(F:Zd6 X.prog X.w X.K X.mg X.base CX k f fd ps sp)(hr:Za7 k X.A)(hg:Gl X x)(hm:X.mg x=some (.ref f))(hk:PySem.W.keepIn X.K (.ref f)=true)(hb:ZcZ X.K fd ps ds)(hd:ZE dvs ds)(hx:Zhn CX X E)
  (ha:PA X (e::es) t) (hdb:(x == ("__debug__" : Str))=false:=by decide) (he:starEach (e::es) X.env=(false,eval e X.env)::starEach es X.env:=by rfl) (hpl:(backTo pos (starEach es X.env)).any (·.1)=false:=by rfl) :
  PE X (.Call (.Name x p) (e::es) [] pos) (Zic sp dvs E t):=by
 intro pins s σ H Q I h
 refine wpAny_Call_Name_kw (ZlH I hg hm ?_ hdb)
 refine PySem.W.callWith_K (h₀:=X.base) I.ok.mod.kin hk (thn (ha pos pins s σ H _ I h) fun us s1 ⟨vs,H1,I1,r,q⟩=>⟨I1.kIn,?_⟩) he hpl
 exact ZmR F hr hb hd hx I1 r q
structure Mk (K:PySem.W.Frag) (C f:Addr):Prop where
 makes:PySem.W.makesIn K C=true
 init:PySem.W.findIn K (.ref C) "__init__" = some (some (.ref f))
 fn:PySem.W.isFn K (.ref f)=true
 kp:PySem.W.keepIn K (.ref C)=true
end
section
variable {X:Cx} {CX:CXT} {k:Nat} {f C:Addr} {fd:FuncData} {ps ks:List Str} {sp:Sp} {E:XK} {x m:Str} {p pos apos kpos:Pos} {e o:Expr} {es:List Expr} {kws:List Keyword} {te ta:TE} {t tk:TA} {nm:Option Str}
structure KBinds (K:PySem.W.Frag) (fd:FuncData) (ps ks:List Str) (g:List Value→List Value→List Value) (gV:List V→List V→List V):Prop where
 to:∀ (s:Shared) (us ws:List Value),K.In s.heap→(g us ws).length=ps.length→BindsTo s fd ⟨us,ks.zip ws⟩ (ps.zip (g us ws))
 rel:∀ {vs:List V} {us:List Value} {zs:List V} {ws:List Value},ZE vs us→ZE zs ws→ZE (gV vs zs) (g us ws)
variable {g:List Value→List Value→List Value} {gV:List V→List V→List V}
end
structure Zw (N P:List Str) (sc:Scope):Prop where
 kind:sc.kind=.function
 co:sc.isCoroutine=false
 gen:sc.isGenerator=false
 nd:N.Nodup
 pre:N.take P.length=P
 par:∀x∈P,sc.names.lookup x=some .local∨sc.names.lookup x=some .cell
 nofree:∀y∈sc.names,y.2≠.free
theorem Zfb{kindOf:Str→Option NameKind}{x:Str}:∀ {binds:List (Str×Value)} {m:Str→Option Value},(∀v,(x,v) ∉ binds)→bindL kindOf binds m x=m x
 | [],_,_=>rfl
 | (n,v)::r,m,h=>by
  unfold bindL
  rw[Zfb fun w hw=>h w (Ql _ hw)]
  split
  ·have:x≠n:=by rintro rfl;exact h v Qu
   simp[this]
  ·rfl
theorem Zfm{kindOf:Str→Option NameKind}{x:Str}:∀ {binds:List (Str×Value)} {m:Str→Option Value},(∀v,(x,v) ∉ binds)→bindC kindOf binds m x=m x
 | [],_,_=>rfl
 | (n,v)::r,m,h=>by
  unfold bindC
  rw[Zfm fun w hw=>h w (Ql _ hw)]
  split
  ·rfl
  ·have:x≠n:=by rintro rfl;exact h v Qu
   simp[this]
theorem Ze9{kindOf:Str→Option NameKind}{x:Str}{v:Value}:∀ {P:List Str} {vs:List Value} {i:Nat} {m:Str→Option Value},P.Nodup→P[i]? = some x→vs[i]? = some v→kindOf x=some .local →
  bindL kindOf (P.zip vs) m x=some v
 | [],_,_,_,_,h,_,_=>by simp at h
 | _::_,[],_,_,_,_,h,_=>by simp at h
 | p::P,w::vs,0,m,nd,h1,h2,hk=>by
  simp at h1 h2;subst h1;subst h2
  show bindL kindOf ((p,w)::P.zip vs) m p=_
  unfold bindL
  rw[Zfb fun v hv=>(QaA.mp nd).1 (List.of_mem_zip hv).1,if_pos hk]
  simp
 | p::P,w::vs,i+1,m,nd,h1,h2,hk=>by
  show bindL kindOf ((p,w)::P.zip vs) m x=_
  unfold bindL
  exact Ze9 (i:=i) (QaA.mp nd).2 (by simpa using h1) (by simpa using h2) hk
theorem Ze7{kindOf:Str→Option NameKind}{x:Str}{v:Value}:∀ {P:List Str} {vs:List Value} {i:Nat} {m:Str→Option Value},P.Nodup→P[i]? = some x→vs[i]? = some v→kindOf x≠some .local →
  bindC kindOf (P.zip vs) m x=some v
 | [],_,_,_,_,h,_,_=>by simp at h
 | _::_,[],_,_,_,_,h,_=>by simp at h
 | p::P,w::vs,0,m,nd,h1,h2,hk=>by
  simp at h1 h2;subst h1;subst h2
  show bindC kindOf ((p,w)::P.zip vs) m p=_
  unfold bindC
  rw[Zfm fun v hv=>(QaA.mp nd).1 (List.of_mem_zip hv).1,if_neg hk]
  simp
 | p::P,w::vs,i+1,m,nd,h1,h2,hk=>by
  show bindC kindOf ((p,w)::P.zip vs) m x=_
  unfold bindC
  exact Ze7 (i:=i) (QaA.mp nd).2 (by simpa using h1) (by simpa using h2) hk
def Zdn(N:List Str)(vs:List V):St:=vs.map some++List.replicate (N.length-vs.length) none
def Zhb(CX:CXT)(P:Program)(w:World)(K:PySem.W.Frag)(mg:Str→Option Value)(base:Heap)(N:List Str)(qual:Str)(scope:Scope)(f:Addr)(cd:Value)(A:Around)(outer:List Env)(s:Shared)(H:Hp)(E:XK):Cx where
 prog:=P
 w:=w
 K:=K
 mg:=mg
 base:=base
 A:=A.deeper (envOfC qual scope s.heap.objs.size f cd)
 N:=N
 s₀:=s
 H₀:=H
 env:=envOfC qual scope s.heap.objs.size f cd
 outer:=outer
 stack:=envOfC qual scope s.heap.objs.size f cd::outer
 ex:=[]
 calm:=true
 fn:=fun _=>true
 pn:=[]
 xe:=fun e s'=>wpAny (model P w) (A.deeper (envOfC qual scope s.heap.objs.size f cd)) (leaving (envOfC qual scope s.heap.objs.size f cd) e) (fun _ s''=>CX outer H s E e s'') (fun e' s''=>CX outer H s E e' s'') s'
theorem Zgy{sc:Scope}{n:Nat}{x:Str}(h:sc.names.lookup x=some .cell):∃c,(cellsFrom n sc.names []).lookup x=some c:=by
 have q:=PySem.W.cellsFrom_some sc.names n [] (.inl h)
 exact Option.isSome_iff_exists.mp q
theorem Zi6{CX:CXT}{P:Program}{w:World}{K:PySem.W.Frag}{mg:Str→Option Value}{base:Heap}{N ps:List Str}{qual:Str}{scope:Scope}{f:Addr}{cd:Value}{A:Around}{outer:List Env}{s s1:Shared}{H:Hp}{E:XK}{us:List Value}{vs:List V}
  (S:Zw N ps scope) (hd:A.handled=none) (e0:Zk2 P w K mg base A outer s H) (hl:vs.length=ps.length) (r:ZE vs us)
  (x:InCallC s s.heap.objs.size (bindL (envOfC qual scope s.heap.objs.size f cd).kindOf (ps.zip us) fun _=>none) (cellsFrom (s.heap.objs.size+1) scope.names []) (bindC (envOfC qual scope s.heap.objs.size f cd).kindOf (ps.zip us) fun _=>none) s1) :
  Inv (Zhb CX P w K mg base N qual scope f cd A outer s H E) [] (Zdn N vs) H s1:=by
 have hpl:ps.length≤N.length:=by have:=congrArg List.length S.pre;rw[Qk]at this;omega
 obtain⟨h1,tk,rfl,hk⟩:=x.done
 have noA:∀b:Addr,b ∉ (Zhb CX P w K mg base N qual scope f cd A outer s H E).ex:=fun b z=>absurd (show b∈([]:List Addr) from z) (by simp)
 refine⟨⟨e0.mod,S.kind,rfl,rfl,Qd _,fun y z c h1 h2=>?_,fun y hy=>?_,fun y c _ h=>?_,fun _=>hd,Around.frames_deeper e0.frames,.inr ⟨rfl,rfl⟩,fun b z=>absurd z (noA b),e0.bs,e0.bsz,fun b _ _=>noA b,fun b z=>absurd z (noA b),e0.funs,e0.frf⟩,
  rfl,e0.bare,Un.kept hk,⟨_,x.toInCall.ns,fun i y v h1 h2 h3=>?_⟩,fun y c h=>⟨_,x.cell y c h⟩,e0.hok.fresh (Qd _),fun y c h=>?_,fun p hp=>absurd (show p∈([]:List (Addr×Obj)) from hp) (by simp),e0.hok.kept hk,?_⟩
 ·exact name_of_addr x.apart (Q9 h1) (Q9 h2)
 ·have hy:scope.names.lookup y=some .cell∨scope.names.lookup y=some .free:=hy
  rcases hy with hy|hy
  ·exact Zgy hy
  ·exact absurd rfl (S.nofree _ (Q9 hy))
 ·exact Q3 (x.above y c (Q9 h))
 ·have hi:i<vs.length:=by
   unfold Zdn at h2
   by_cases hi:i<vs.length
   ·exact hi
   ·rw[Qar (by simpa using hi)]at h2
    rw[List.getElem?_replicate]at h2
    split at h2<;>cases h2
  have ha:vs[i]? = some v:=by
   unfold Zdn at h2
   rw[Qau (by simpa using hi),Qt]at h2
   cases e:vs[i]? with
   | none=>rw[e]at h2;cases h2
   | some a=>rw[e]at h2;cases h2;rfl
  obtain⟨u,hu,rv⟩:=r.get ha
  have hp:ps[i]? = some y:=by
   rw[← S.pre,List.getElem?_take_of_lt (by omega)];exact h1
  have ndP:ps.Nodup:=by rw[← S.pre];exact S.nd.sublist (List.take_sublist _ _)
  refine⟨u,rv,?_⟩
  rcases S.par y (QB hp) with k|k
  ·exact .inl ⟨k,Ze9 ndP hp hu k⟩
  ·obtain⟨c,e⟩:=Zgy (n:=s.heap.objs.size+1) k
   refine .inr ⟨.inl k,c,e,?_⟩
   have q:=x.cell y c e
   rw[Ze7 ndP hp hu (by show scope.names.lookup y≠_;rw[k];decide)]at q
   exact q
 ·exact e0.hok.fresh (Q3 (x.above y c (Q9 h)))
 ·unfold Zdn
  show _=N.length
  rw[Qe,Qa,List.length_replicate]
  omega
theorem Znn{CX:CXT}{P:Program}{w:World}{K:PySem.W.Frag}{mg:Str→Option Value}{base:Heap}{k:Nat}{f:Addr}{name qual:Str}{params:Arguments}{body:List Stmt}{scope:Scope}{dV kV doc pm cdv ct oc:Value}{an od:Option Addr}
  {osl:Array (Option Value)} {N ps:List Str} {sp:Sp} (lk:K.lookup f=some ⟨oc,od,.func (PySem.W.fnOf name qual params body scope dV kV doc pm an cdv ct),osl⟩) (hcd:PySem.W.codeIn K cdv qual=true) (S:Zw N ps scope)
  (len:∀vs H Q E,sp vs H Q E→vs.length=ps.length)
  (hbody:∀ (A:Around) (outer:List Env) (s:Shared) (H:Hp) (vs:List V) (Q:VK) (E:XK),Za7 k (A.deeper (envOfC qual scope s.heap.objs.size f cdv))→sp vs H Q E →
   ∃t,PSs (Zhb CX P w K mg base N qual scope f cdv A outer s H E) body t∧t { nx:=fun _ H'=>Q .non H',rt:=Q } (Zdn N vs) H) :
  Zd6 P w K mg base CX (k+1) f (PySem.W.fnOf name qual params body scope dV kV doc pm an cdv ct) ps sp:=by
 refine⟨len,fun A outer s H args us vs Q E hr e0 hb r hsp=>?_⟩
 have hl:=len _ _ _ _ hsp
 have KX:K.In s.heap:=e0.mod.kin.keeps fun b o e=>(e0.bs b o e).1
 have lim:s.heap.NoLimit:=e0.mod.nolimit.keeps fun b o e=>(e0.bs b o e).1
 have hkind:∀y∈ps.zip us,scope.names.lookup y.1=some .local∨(scope.names.lookup y.1=some .cell∧((cellsFrom (s.heap.objs.size+1) scope.names []).lookup y.1).isSome=true):=fun ⟨n,v⟩ hy=>by
  rcases S.par n (List.of_mem_zip hy).1 with q|q
  ·exact .inl q
  ·exact .inr ⟨q,PySem.W.cellsFrom_some _ _ _ (.inl q)⟩
 refine codeAny_call_function hr.depth (KX _ _ lk) rfl S.co S.gen rfl (PySem.W.codeRec_of KX hcd) (hb _ _ _ _ ?_)
 refine wpAny_newFunctionEnv_cells S.kind hkind fun env he s1 x=>?_
 subst he
 refine⟨lim.keeps x.toInCall.keep,codeAny_func ?_⟩
 obtain⟨t,ht,hq⟩:=hbody A outer s H vs Q E (hr.deeper _) hsp
 have I:Inv (Zhb CX P w K mg base N qual scope f cdv A outer s H E) [] (Zdn N vs) H s1:=Zi6 S hr.hd e0 hl r x
 refine wpAny_mono (ht [] s1 (Zdn N vs) H _ I hq) (fun fl s' hs=>?_) fun e s' hs=>hs
 have fin:∀ {σ':St} {H':Hp} {v:V} {u:Value},Inv (Zhb CX P w K mg base N qual scope f cdv A outer s H E) [] σ' H' s'→ZT v u→Q v H'→CE outer P w H s Q u s' :=
  fun {σ' H' v u} J rv q=>⟨v,H',J.os,J.bare,J.base,J.hok,rv,q⟩
 cases fl with
 | ret u =>
  obtain⟨v,σ',H',J,rv,q⟩:=hs
  exact fin J rv q
 | next =>
  obtain⟨σ',H',J,q⟩:=hs
  exact fin (v:=V.non) (u:=Value.none) J rfl q
 | brk =>
  obtain⟨_,_,_,q⟩:=hs
  exact False.elim q
 | cont =>
  obtain⟨_,_,_,q⟩:=hs
  exact False.elim q
section
variable {X:Cx} {x:Str} {p pos:Pos} {e:Expr} {es:List Expr} {t:TA} {id T:String} {r:List V→Hp→VK→Prop}
def tCB(r:List V→Hp→VK→Prop)(t:TA):TE:=fun σ H Q=>t σ H fun vs H1=>r vs H1 Q
theorem Zk(hc:Z8 X (.builtin id) r)(hg:Gl X x)(hm:X.mg x=none)(hv:bootBuiltins x=some (.builtin id))(ha:PA X (e::es) t)(hn:x ≠ "__name__":=by decide)(hdb:(x == ("__debug__" : Str))=false:=by decide)
  (he:starEach (e::es) X.env=(false,eval e X.env)::starEach es X.env:=by rfl) (hpl:(backTo pos (starEach es X.env)).any (·.1)=false:=by rfl):PE X (.Call (.Name x p) (e::es) [] pos) (tCB r t):=by
 intro pins s σ H Q I h
 refine wpAny_Call_Name_kw (ZdY I hg hm hv ?_ hn hdb)
 exact PyProof.Rows.callWith_builtin1 (thn (ha pos pins s σ H _ I h) fun us s1 ⟨vs,H1,I1,r1,q1⟩=>hc pins s1 σ H1 vs us Q I1 r1 q1) he hpl
theorem ZR(hc:Z8 X (.type T) r)(hg:Gl X x)(hm:X.mg x=none)(hv:bootBuiltins x=some (.type T))(ha:PA X (e::es) t)(hn:x ≠ "__name__":=by decide)(hdb:(x == ("__debug__" : Str))=false:=by decide)
  (he:starEach (e::es) X.env=(false,eval e X.env)::starEach es X.env:=by rfl) (hpl:(backTo pos (starEach es X.env)).any (·.1)=false:=by rfl):PE X (.Call (.Name x p) (e::es) [] pos) (tCB r t):=by
 intro pins s σ H Q I h
 refine wpAny_Call_Name_kw (ZdY I hg hm hv ?_ hn hdb)
 exact Qab (thn (ha pos pins s σ H _ I h) fun us s1 ⟨vs,H1,I1,r1,q1⟩=>hc pins s1 σ H1 vs us Q I1 r1 q1) he hpl
end
end L2
namespace HT
open PySem PyProof.Rows
section
open PySem.SeqAt
open PySem.AutoSeq1 (wpAny_loadPart')
open PySem.MeetsSeq PySem.MeetsSeq2 PySem.MeetsSeq3
end
section
variable {prog:Program} {w:World} {A:Around} {E:Value→Shared→Prop} {s:Shared}
theorem cat_tup{t b:Addr}{vs ws:List Value}{Q:Value→Shared→Prop}(ht:IsTup s.heap t vs.toArray)(hb:IsTup s.heap b ws.toArray)(hv:vs≠[])
  (h1:ws=[]→Q (.ref t) s) (h2:ws≠[]→Q (.ref s.heap.objs.size) { s with heap:=s.heap.push { cls:=.type "tuple",data:=.seq (vs++ws).toArray } })
  (hsz:vs.length+ws.length≤sizeLine):wpAny (model prog w) A (binaryOp .Add (.ref t) (.ref b)) Q E s:=by
 obtain⟨⟨cls,dd,data,sl⟩,ho,hc,n,hd⟩:=id ht
 obtain⟨⟨cls2,dd2,data2,sl2⟩,ho2,hc2,n2,hd2⟩:=id hb
 simp only at hc hd hc2 hd2
 subst hc hd hc2 hd2
 have e:vs.toArray++ws.toArray=(vs++ws).toArray:=by simp
 by_cases hw:ws=[]
 ·exact concat_meets ⟨_,ho,rfl⟩ ⟨_,ho2,rfl⟩ noFill_tuple_add seq_tuple_add QaF QaE (Qay _ _)
   (tuple_addW1 t b vs.toArray ws.toArray n n2 dd dd2 sl sl2 (by simpa using hv) (by simp[hw])) ⟨ho,ho2,h1 hw⟩
 ·refine concat_meets ⟨_,ho,rfl⟩ ⟨_,ho2,rfl⟩ noFill_tuple_add seq_tuple_add QaF QaE (Qay _ _)
   (tuple_addW2 t b vs.toArray ws.toArray n n2 dd dd2 sl sl2 (by simpa using hv) (by simpa using hw) (by rw[Qq,Qq];exact hsz)) ⟨ho,ho2,?_⟩
  rw[e]
  exact h2 hw
def sIx(n d:Nat):Option Int→Nat
 | none=>d
 | some v=>if v<0 then (v+(n:Int)).toNat else min v.toNat n
theorem sIx_none(n d:Nat):sIx n d none=d:=rfl
theorem sIx_nat(n d k:Nat):sIx n d (some (k:Int))=min k n:=by
 show (if (k:Int)<0 then ((k:Int)+(n:Int)).toNat else min (k:Int).toNat n)=min k n
 rw[if_neg (by omega),Q6]
theorem ZmA(n d:Nat)(hd:d≤n)(o:Option Int):sIx n d o≤n:=by
 cases o with
 | none=>exact hd
 | some v =>
  show (if v<0 then (v+(n:Int)).toNat else min v.toNat n)≤n
  by_cases hv:v<0
  ·rw[if_pos hv];omega
  ·rw[if_neg hv];exact Nat.min_le_right _ _
theorem Zik(v:Int)(n d:Nat):(if v<0 then max (v+(n:Int)) 0 else min v (n:Int))=((sIx n d (some v):Nat):Int):=by
 show (if v<0 then max (v+(n:Int)) 0 else min v (n:Int))=(((if v<0 then (v+(n:Int)).toNat else min v.toNat n):Nat):Int)
 by_cases hv:v<0
 ·simp only[if_pos hv];omega
 ·simp only[if_neg hv];omega
theorem Zhu(lo hi:Option Int)(n:Nat):Builtin.Slice.sliceAdjust lo hi 1 (n:Int)=(((sIx n 0 lo:Nat):Int),((sIx n n hi:Nat):Int)):=by
 have h1:¬ ((1:Int)<0):=by omega
 unfold Builtin.Slice.sliceAdjust
 simp only[h1,if_false]
 refine Prod.ext ?_ ?_
 ·cases lo with
  | none=>rfl
  | some v=>exact Zik v n 0
 ·cases hi with
  | none=>rfl
  | some v=>exact Zik v n n
theorem Zhe(i j:Nat):Builtin.Slice.slicePlaces (i:Int) (j:Int) 1=j-i:=by
 unfold Builtin.Slice.slicePlaces
 have h1:(1:Int)>0:=by omega
 simp only[h1,if_true,Int.ediv_one]
 split<;>omega
theorem Zeo{v:Value}{o:Option Int}{Q:Option Int→Shared→Prop}(p:IsPart v o)(h:Q o s):wpAny (model prog w) A (Builtin.Slice.slicePartIndex v) Q E s:=by
 cases p with
 | none=>exact slicePart_none h
 | int i t=>exact slicePart_int h
theorem ZdU{sl:Addr}{vl vu:Value}{lo hi:Option Int}{n:Nat}{Q:Int×Int×Nat→Shared→Prop}(hs:s.heap.IsSliceOf sl vl vu .none)(pl:IsPart vl lo)(pu:IsPart vu hi)
  (h:Q (((sIx n 0 lo:Nat):Int),1,sIx n n hi-sIx n 0 lo) s):wpAny (model prog w) A (Builtin.Slice.sliceApplied (.ref sl) (pure (n:Int))) Q E s:=by
 obtain⟨os,hos,hcs,hds⟩:=id hs
 unfold Builtin.Slice.sliceApplied Builtin.Slice.sliceFields
 refine wpAny_bind (wpAny_bind (wpAny_field hos hds (x:=vl) rfl (wpAny_bind (wpAny_field hos hds (x:=vu) rfl (wpAny_bind (wpAny_field hos hds (x:=.none) rfl (wpAny_pure ?_)))))))
 refine wpAny_bind (slicePart_none ?_)
 show wpAny _ _ (if ((1:Int) == 0)=true then _ else _) _ _ s
 rw[if_neg (by decide)]
 refine wpAny_bind (Zeo pl (wpAny_bind (Zeo pu (wpAny_bind (wpAny_pure ?_)))))
 show wpAny _ _ (match Builtin.Slice.sliceAdjust lo hi 1 (n:Int) with|(lo,hi)=>pure (lo,(1:Int),Builtin.Slice.slicePlaces lo hi 1)) _ _ s
 rw[Zhu lo hi n]
 show wpAny _ _ (pure (((sIx n 0 lo:Nat):Int),(1:Int),Builtin.Slice.slicePlaces ((sIx n 0 lo:Nat):Int) ((sIx n n hi:Nat):Int) 1)) _ _ s
 rw[Zhe]
 exact wpAny_pure h
theorem ZjC(xs:Array Value)(i k:Nat):((List.range k).filterMap fun (m:Nat)=>xs[((i:Int)+(m:Int)*1).toNat]?).toArray=((xs.toList.drop i).take k).toArray:=by
 have e:(fun (m:Nat)=>xs[((i:Int)+(m:Int)*1).toNat]?)=fun m=>xs[i+m]?:=by
  funext m
  have:((i:Int)+(m:Int)*1).toNat=i+m:=by omega
  rw[this]
 rw[e]
 have:=pick_run xs i k
 rw[List.filterMap_map]at this
 have e2:((fun x=>xs[x]?) ∘ fun x=>i+x)=fun m=>xs[i+m]?:=rfl
 rw[e2]at this
 rw[this]
theorem getItem_tuple_cut{t sl:Addr}{items:Array Value}{vl vu:Value}{lo hi:Option Int}{Q:Value→Shared→Prop}(ht:IsTup s.heap t items)(hs:s.heap.IsSliceOf sl vl vu .none)(pl:IsPart vl lo)(pu:IsPart vu hi)
  (hw:¬ (sIx items.size 0 lo=0∧sIx items.size items.size hi=items.size))
  (h:Q (.ref s.heap.objs.size) { s with heap:=s.heap.push { cls:=.type "tuple",data:=.seq ((items.toList.drop (sIx items.size 0 lo)).take (sIx items.size items.size hi-sIx items.size 0 lo)).toArray } })
  (hsz:items.size≤sizeLine):wpAny (model prog w) A (getItem (.ref t) (.ref sl)) Q E s:=by
 have htake:sizeOk (.seq ((items.toList.drop (sIx items.size 0 lo)).take (sIx items.size items.size hi-sIx items.size 0 lo)).toArray):=by
  show ((items.toList.drop (sIx items.size 0 lo)).take (sIx items.size items.size hi-sIx items.size 0 lo)).toArray.size≤sizeLine
  rw[Qq,Qk,QA,QH]
  omega
 have hj:sIx items.size items.size hi≤items.size:=ZmA _ _ (Qd _) hi
 obtain⟨os,hos,hcs,hds⟩:=id hs
 have hTs:s.TypeIs (.ref sl) "slice":=⟨os,hos,hcs⟩
 unfold getItem
 try with_reducible refine wpAny_holding ?_
 first|refine wpAny_bind (wpAny_pure ?_)|skip
 refine wpAny_bind (wpAny_sequenceKey ht.typeIs (by decide) ?_)
 refine wpAny_bind (wpAny_callSpecial?_slot (name:=Str.ofString "__getitem__") ht.typeIs Q8
  (wpAny_call_entry Q8 ht.typeIs entry_tuple_getitem ?_ (args_tuple_getitem _ _)))
 show wpAny _ _ (Builtin.Tuple.tupleItemsOf (.ref t) >>= _) _ _ s
 refine wpAny_bind (tupleItemsOf_ ht ?_)
 refine wpAny_bind (wpAny_typeOf hTs ?_)
 rw[if_pos (by decide)]
 refine wpAny_bind (ZdU hs pl pu ?_)
 have hno:¬ ((((sIx items.size 0 lo:Nat):Int) == 0&&(1:Int) == 1&&(sIx items.size items.size hi-sIx items.size 0 lo) == items.size)=true):=by
  intro q
  rw[Qaj,Qaj]at q
  have q1:((sIx items.size 0 lo:Nat):Int)=0:=eq_of_beq q.1.1
  have q2:sIx items.size items.size hi-sIx items.size 0 lo=items.size:=eq_of_beq q.2
  exact hw ⟨by omega,by omega⟩
 show wpAny _ _ (if (((sIx items.size 0 lo:Nat):Int) == 0&&(1:Int) == 1&&(sIx items.size items.size hi-sIx items.size 0 lo) == items.size)=true then _ else _) _ _ s
 rw[if_neg hno,ZjC]
 first
  | exact wpAny_bind (m:=Builtin.Tuple.tupleExact _) (wpAny_newObj_type (wpAny_pure ⟨_,rfl,wpAny_pure h⟩) htake)
  | exact wpAny_bind (m:=Builtin.Tuple.tupleExact _) (wpAny_newObj_type (wpAny_bind (wpAny_pure (wpAny_pure ⟨_,rfl,wpAny_pure h⟩))) htake)
  | exact wpAny_bind (wpAny_bind (m:=Builtin.Tuple.tupleExact _) (wpAny_newObj_type (wpAny_pure (wpAny_pure ⟨_,rfl,wpAny_pure h⟩)) htake))
  | exact wpAny_bind (wpAny_bind (m:=Builtin.Tuple.tupleExact _) (wpAny_newObj_type (wpAny_pure ⟨_,rfl,wpAny_pure h⟩) htake))
end
end HT
namespace L2
open PySem PySem.Spec PyProof.Rows
abbrev TO:=St→Hp→(Option Int→Hp→Prop)→Prop
def PO(X:Cx)(e:Option Expr)(t:TO):Prop :=
 ∀ (pins:List (Addr×Obj)) (s:Shared) (σ:St) (H:Hp) (Q:Option Int→Hp→Prop),Inv X pins σ H s→t σ H Q →
  wpAny (model X.prog X.w) X.A (evalPart e X.env) (fun u s'=>∃o H',Inv X pins σ H' s'∧IsPart u o∧Q o H') X.xe s
def Zl7:TO:=fun _ H Q=>Q none H
def ZnS(t:TE):TO:=fun σ H Q=>t σ H fun x H1=>∃i,x=.int i∧Q (some i) H1
theorem Zcp{ns:List Int}:∀ {us:List Value},ZE (ns.map V.int) us→IntsAre us ns:=by
 induction ns with
 | nil=>intro us r;rw[List.map_nil]at r;cases r;exact .nil
 | cons n ns ih =>
  intro us r
  rw[QE]at r
  cases r with
  | cons r1 r2 =>
   obtain⟨t,e⟩:=r1
   subst e
   exact .cons n t (ih r2)
section
variable {X:Cx} {e:Expr} {te:TE} {lo hi:Option Expr} {tl th:TO} {pos p2:Pos}
theorem ZL:PO X none Zl7:=by
 intro pins s σ H Q I h
 rw[evalPart_none]
 exact wpAny_pure ⟨none,H,I,.none,h⟩
theorem Zz(h:PE X e te):PO X (some e) (ZnS te):=by
 intro pins s σ H Q I hw
 rw[evalPart_some]
 refine thn (h pins s σ H _ I hw) ?_
 rintro u s1 ⟨x,H1,I1,r1,q1⟩
 obtain⟨i,rfl,q⟩:=q1
 obtain⟨t,rfl⟩:=r1
 exact⟨some i,H1,I1,.int i t,q⟩
def SlR(X:Cx)(r:V→Option Int→Option Int→Hp→VK→Prop):Prop :=
 ∀ (pins:List (Addr×Obj)) (s:Shared) (σ:St) (H:Hp) (x:V) (v vl vu:Value) (lo hi:Option Int) (sl:Addr) (Q:VK),Inv X pins σ H s→ZT x v→s.heap.IsSliceOf sl vl vu .none→IsPart vl lo→IsPart vu hi→r x lo hi H Q →
  ∃T id,typeLookup (.type T) "__getitem__" = pure (some (.builtin id))∧s.TypeIs v T∧wpAny (model X.prog X.w) X.A (getItem v (.ref sl)) (EP X pins σ Q) X.xe s
def tSl(r:V→Option Int→Option Int→Hp→VK→Prop)(te:TE)(tl th:TO):TE:=fun σ H Q=>te σ H fun x H1=>tl σ H1 fun l H2=>th σ H2 fun u H3=>r x l u H3 Q
theorem ZF{r:V→Option Int→Option Int→Hp→VK→Prop}(hr:SlR X r)(he:PE X e te)(hl:PO X lo tl)(hu:PO X hi th):PE X (.Subscript e (.Slice lo hi none p2) pos) (tSl r te tl th):=by
 intro pins s σ H Q I h
 refine Subscript_ (thn (he pins s σ H _ I h) ?_)
 rintro v s1 ⟨x,H1,I1,r1,q1⟩
 refine wpAny_Slice (thn (hl pins s1 σ H1 _ I1 q1) fun vl s2 ⟨l,H2,I2,pl,q2⟩=>thn (hu pins s2 σ H2 _ I2 q2) ?_)
 rintro vu s3 ⟨u,H3,I3,pu,q3⟩
 rw[evalPart_none]
 refine wpAny_pure ?_
 have I4:Inv X pins σ H3 { s3 with heap:=s3.heap.push { cls:=.type "slice",data:=.fields #[vl,vu,.none] } }:=I3.kept (t':=s3.toks) fun b ob q=>Qb _ q
 obtain⟨T,id,hT,ht,hg⟩:=hr pins { s3 with heap:=s3.heap.push { cls:=.type "slice",data:=.fields #[vl,vu,.none] } } σ H3 x v vl vu l u s3.heap.objs.size Q I4 r1 (Heap.IsSliceOf.new ..) pl pu q3
 show wpAny (model X.prog X.w) X.A (subscriptTail e (.Slice lo hi none p2) v (.ref s3.heap.objs.size)) (EP X pins σ Q) X.xe { s3 with heap:=s3.heap.push { cls:=.type "slice",data:=.fields #[vl,vu,.none] } }
 exact tail_any (ops:=[.ref s3.heap.objs.size,v]) ht hT hg (by with_unfolding_all rfl)
def ZY(xs:List V)(lo hi:Option Int):List V:=(xs.drop (HT.sIx xs.length 0 lo)).take (HT.sIx xs.length xs.length hi-HT.sIx xs.length 0 lo)
theorem Zd4(xs:List V)(lo hi:Option Int):(ZY xs lo hi).length≤xs.length:=by
 unfold ZY
 rw[Qk,QA]
 omega
def ZnU(K:PySem.W.Frag):V→Option Int→Option Int→Hp→VK→Prop:=fun x lo hi H Q=>∃a xs,x=.ref a∧SqT K H a xs ∧
 ¬ (HT.sIx xs.length 0 lo=0∧HT.sIx xs.length xs.length hi=xs.length)∧∀p,H p=none→Q (.ref p) (upd H p (.tup (ZY xs lo hi)))
theorem Zm9:SlR X (ZnU X.K):=by
 intro pins s σ H x v vl vu lo hi sl Q I rx hs pl pu h
 obtain⟨a,xs,rfl,hx,hw,q⟩:=h
 cases rx
 obtain⟨its,r,ht,hz⟩:=I.tuple hx
 have hlen:its.toArray.size=xs.length:=by rw[Qq];exact r.length.symm
 refine⟨"tuple",_,PyProof.Rows.slot_tuple_getitem.lookup,ht.typeIs,?_⟩
 refine HT.getItem_tuple_cut ht hs pl pu (by rw[hlen];exact hw) ?_ (by rw[hlen];exact hz)
 rw[hlen]
 refine⟨.ref s.heap.objs.size,_,I.laid (t':=s.toks) (o:=.tup (ZY xs lo hi)) (fun b ob q=>Qb _ q) (Qd _) ?_,rfl,q _ (I.hok.fresh (Qd _))⟩
 exact⟨QI (Zd4 xs lo hi) hz,_,(r.drop (HT.sIx xs.length 0 lo)).take (HT.sIx xs.length xs.length hi-HT.sIx xs.length 0 lo),IsTup.new _ _⟩
def Znu(K:PySem.W.Frag):R2:=fun x y H Q=>∃a b xs ys,x=.ref a∧y=.ref b∧SqT K H a xs∧SqT K H b ys∧xs≠[]∧xs.length+ys.length≤sizeLine ∧
 (ys=[]→Q (.ref a) H)∧(ys≠[]→∀p,H p=none→Q (.ref p) (upd H p (.tup (xs++ys))))
theorem ZE.nil_iff{xs:List V}{us:List Value}(r:ZE xs us):us=[]↔xs=[]:=by
 cases r with
 | nil=>simp
 | cons _ _=>simp
theorem ZhN:OpR X (binaryOp .Add) (Znu X.K):=by
 intro pins s σ H x y v u Q I rx ry h
 obtain⟨a,b,xs,ys,rfl,rfl,ha,hb,hx,hz,q1,q2⟩:=h
 cases rx
 cases ry
 obtain⟨its,r1,p1,_⟩:=I.tuple ha
 obtain⟨its2,r2,p2,_⟩:=I.tuple hb
 refine HT.cat_tup p1 p2 (fun z=>hx (r1.nil_iff.mp z)) (fun z=>⟨.ref a,H,I,rfl,q1 (r2.nil_iff.mp z)⟩) (fun z=>?_) (by rw[← r1.length,← r2.length];exact hz)
 refine⟨.ref s.heap.objs.size,_,I.laid (t':=s.toks) (o:=.tup (xs++ys)) (fun b ob q=>Qb _ q) (Qd _) ?_,rfl,q2 (fun w=>z (r2.nil_iff.mpr w)) _ (I.hok.fresh (Qd _))⟩
 exact⟨by rw[Qe];exact hz,_,r1.append r2,IsTup.new _ _⟩
end
def ixN(n:Nat)(i:Int):Option Nat:=if 0≤i then (if i<n then some i.toNat else none) else if -(n:Int)≤i then some (i+n).toNat else none
def atI{α:Type}(xs:List α)(i:Int):Option α:=(ixN xs.length i).bind fun j=>xs[j]?
theorem Zh8{n:Nat}{i:Int}{j:Nat}(h:ixN n i=some j):seqIndex? i n=some j∧j<n ∧ -(n:Int)≤i∧i<n:=by
 unfold ixN at h
 by_cases h0:0≤i
 ·rw[if_pos h0]at h
  by_cases h1:i<n
  ·rw[if_pos h1]at h
   have e:i.toNat=j:=QM h
   exact⟨by rw[seqIndex_of h0 h1,e],by omega,by omega,h1⟩
  ·rw[if_neg h1]at h;cases h
 ·rw[if_neg h0]at h
  by_cases h1:-(n:Int)≤i
  ·rw[if_pos h1]at h
   have e:(i+n).toNat=j:=QM h
   exact⟨by rw[seqIndex_neg (by omega) h1,e],by omega,h1,by omega⟩
  ·rw[if_neg h1]at h;cases h
theorem ZhR{α:Type}{xs:List α}{i:Int}{v:α}(h:atI xs i=some v):∃j,seqIndex? i xs.length=some j∧xs[j]? = some v∧j<xs.length ∧ -(xs.length:Int)≤i∧i<xs.length:=by
 unfold atI at h
 cases e:ixN xs.length i with
 | none=>rw[e]at h;cases h
 | some j =>
  rw[e]at h
  obtain⟨h1,h2,h3,h4⟩:=Zh8 e
  exact⟨j,h1,h,h2,h3,h4⟩
theorem Zbl{α:Type}{xs:List α}{j:Nat}{v:α}(h:xs[j]? = some v):atI xs (j:Int)=some v:=by
 have hj:j<xs.length:=(Qi.mp h).1
 have e:ixN xs.length (j:Int)=some j:=by
  unfold ixN
  rw[if_pos (by omega),if_pos (by omega)];simp
 unfold atI;rw[e];exact h
def Zln(b:Expr):Prop:=∀o i,subscripted b false o i=operate [o,i] (getItem o i)
def IxR(X:Cx)(r:R2):Prop :=
 ∀ (value slice:Expr) (pins:List (Addr×Obj)) (s:Shared) (σ:St) (H:Hp) (x y:V) (v u:Value) (Q:VK),Inv X pins σ H s→ZT x v→ZT y u→r x y H Q →
  subscripted slice false v u=operate [v,u] (getItem v u)→wpAny (model X.prog X.w) X.A (subscriptTail value slice v u) (EP X pins σ Q) X.xe s
def MtR(X:Cx)(id:String)(r:V→List V→Hp→VK→Prop):Prop :=
 ∀ (pins:List (Addr×Obj)) (s:Shared) (σ:St) (H:Hp) (x:V) (xs:List V) (v:Value) (us:List Value) (Q:VK),Inv X pins σ H s→ZT x v→ZE xs us→r x xs H Q →
  wpAny (model X.prog X.w) X.A (call (.builtin id) (v::us)) (EP X pins σ Q) X.xe s
section
variable {X:Cx} {a b:Expr} {ta tb:TE} {pos:Pos}
theorem ZJ{r:R2}(hr:IxR X r)(ha:PE X a ta)(hb:PE X b tb)(hs:Zln b):PE X (.Subscript a b pos) (tOp r ta tb):=by
 intro pins s σ H Q I h
 exact Subscript_ (Zmu ha hb I h fun v u s2 x y H2 I2 rx ry q=>hr a b pins s2 σ H2 x y v u Q I2 rx ry q (hs _ _))
def ZnW(K:PySem.W.Frag):R2:=fun x y H Q=>∃p xs i v,x=.ref p∧y=.int i∧SqL K H p xs∧atI xs i=some v∧Q v H
def ZnE(K:PySem.W.Frag):R2:=fun x y H Q=>∃p xs i v,x=.ref p∧y=.int i∧SqT K H p xs∧atI xs i=some v∧Q v H
theorem ZkS:IxR X (ZnW X.K):=by
 intro value slice pins s σ H x y v u Q I rx ry h hs
 obtain⟨p,xs,i,z,rfl,rfl,hq,he,q⟩:=h
 cases rx
 obtain⟨t,rfl⟩:=ry
 obtain⟨its,r,pl,hz⟩:=I.list hq
 obtain⟨j,h1,h2,h3,h4,h5⟩:=ZhR he
 obtain⟨w,ew,rw'⟩:=r.get h2
 have hl:=r.length
 have hn:=ZfY
 have fin:EP X pins σ Q w s:=⟨z,H,I,rw',q⟩
 by_cases h0:0≤i
 ·have hj:i.toNat=j:=by
   rw[seqIndex_of h0 h5]at h1
   exact QM h1
  exact item_listR pl.isList h0 (by omega) (by rw[hj];simpa using ew) fin hs
 ·have hj:(i+(its.toArray.size:Int)).toNat=j:=by
   rw[seqIndex_neg (by omega) h4]at h1
   rw[Qq,← hl]
   exact QM h1
  exact subscriptTail_builtinR (x:=w) pl.isList.typeIs slot_list_getitem.lookup
   (wpAny_getItem_list_neg (Q:=fun r s'=>r=w∧EP X pins σ Q r s') pl.isList (by omega) (by rw[Qq]<;>omega) (by omega) (by rw[hj];simpa using ew) ⟨rfl,fin⟩) hs
theorem ZmG:IxR X (ZnE X.K):=by
 intro value slice pins s σ H x y v u Q I rx ry h hs
 obtain⟨p,xs,i,z,rfl,rfl,hq,he,q⟩:=h
 cases rx
 obtain⟨t,rfl⟩:=ry
 obtain⟨its,r,pl,hz⟩:=I.tuple hq
 obtain⟨j,h1,h2,h3,h4,h5⟩:=ZhR he
 obtain⟨w,ew,rw'⟩:=r.get h2
 have hl:=r.length
 have hn:=ZfY
 have fin:EP X pins σ Q w s:=⟨z,H,I,rw',q⟩
 exact subscriptTail_builtinR (x:=w) pl.typeIs slot_tuple_getitem.lookup
  (getItem_tuple (j:=j) (Q:=fun r s'=>r=w∧EP X pins σ Q r s') pl (by omega) (by omega) (by rw[Qq,← hl];exact h1) (by simpa using ew) ⟨rfl,fin⟩) hs
theorem Zhy(its:List Value)(n j:Nat)(u:Value):Obj.mapSeq (·.setIfInBounds j u) { cls:=.type "list",data:=.seq its.toArray n }={ cls:=.type "list",data:=.seq (its.set j u).toArray n }:=by
 simp[Obj.mapSeq]
theorem Inv.lst{pins:List (Addr×Obj)}{σ:St}{H:Hp}{s:Shared}{p:Addr}{xs:List V}(I:Inv X pins σ H s)(h:H p=some (.lst xs)) :
  ∃ (its:List Value) (n:Nat),ZE xs its∧s.heap.get? p=some { cls:=.type "list",data:=.seq its.toArray n }∧xs.length≤sizeLine:=by
 obtain⟨z,its,n,r,e⟩:=I.hok p _ h
 exact⟨its,n,r,e,z⟩
theorem Inv.lstUpd{pins:List (Addr×Obj)}{σ:St}{H:Hp}{s:Shared}{p:Addr}{xs ys:List V}{its its':List Value}{n n':Nat}{f:Obj→Obj}(I:Inv X pins σ H s)(h:H p=some (.lst xs))
  (ho:s.heap.get? p=some { cls:=.type "list",data:=.seq its.toArray n }) (hf:f { cls:=.type "list",data:=.seq its.toArray n }={ cls:=.type "list",data:=.seq its'.toArray n' }) (r:ZE ys its') (hz:ys.length≤sizeLine) (t:Nat) :
  Inv X pins σ (upd H p (.lst ys)) { s with heap:=s.heap.update p f,toks:=t }:=by
 have e:(s.heap.update p f).get? p=some { cls:=.type "list",data:=.seq its'.toArray n' }:=by
  rw[Heap.get?_update_self f ho (by rw[hf]<;>rfl),hf]
 refine I.write (x:=p) (e:=p) (by rw[h];trivial) (.inl rfl) (fun b u hb q=>(Heap.get?_update_other _ _ (Ne.symm hb)).trans q) ⟨_,e⟩ ?_
 exact⟨hz,its',n',r,e⟩
def Zny:V→V→V→Hp→(Hp→Prop)→Prop:=fun o i v H Q=>∃p xs k j,o=.ref p∧i=.int k∧H p=some (.lst xs)∧ixN xs.length k=some j∧Q (upd H p (.lst (xs.set j v)))
theorem Zf8:Zll X Zny:=by
 intro pins s σ H o i v ov iv u Q I ro ri rv h
 obtain⟨p,xs,k,j,rfl,rfl,hp,hj,q⟩:=h
 cases ro
 obtain⟨t,rfl⟩:=ri
 obtain⟨its,n,r,ho,hz⟩:=I.lst hp
 obtain⟨h1,h2,h3,h4⟩:=Zh8 hj
 have hl:=r.length
 have hn:=ZfY
 have I':Inv X pins σ (upd H p (.lst (xs.set j v))) { s with heap:=s.heap.update p (Obj.mapSeq (·.setIfInBounds j u)) } :=
  I.lstUpd hp ho (Zhy its n j u) (r.set rv j) (by rw[List.length_set];exact hz) s.toks
 by_cases h0:0≤k
 ·have hk:k.toNat=j:=by
   rw[seqIndex_of h0 h4]at h1
   exact QM h1
  exact PySem.W.ki_setAt ho h0 (by omega) (by rw[Qq,← hl];exact h4) (by rw[hk];exact⟨_,I',q⟩)
 ·have hk:(k+(its.toArray.size:Int)).toNat=j:=by
   rw[seqIndex_neg (by omega) h3]at h1
   rw[Qq,← hl]
   exact QM h1
  exact PySem.W.ki_setBack ho (by omega) (by rw[Qq,← hl];exact h3) (by omega) (by rw[hk];exact⟨_,I',q⟩)
theorem ZfL(lo hi:Option Int)(n:Nat):(sliceBounds lo hi none n).1=((HT.sIx n 0 lo:Nat):Int)∧(sliceBounds lo hi none n).2.1=((HT.sIx n n hi:Nat):Int)∧(sliceBounds lo hi none n).2.2=1:=by
 refine⟨?_,?_,rfl⟩
 ·cases lo with
  | none=>simp[sliceBounds,HT.sIx]
  | some i =>
   simp only[sliceBounds,HT.sIx,Option.getD_none,show (1:Int)>0 by decide,if_true]
   by_cases h:i<0
   ·simp only[h,if_true]<;>omega
   ·simp only[h,if_false]<;>omega
 ·cases hi with
  | none=>simp[sliceBounds,HT.sIx]
  | some i =>
   simp only[sliceBounds,HT.sIx,Option.getD_none,show (1:Int)>0 by decide,if_true]
   by_cases h:i<0
   ·simp only[h,if_true]<;>omega
   ·simp only[h,if_false]<;>omega
theorem ZeT(its:List Value)(lo hi:Option Int):slicePick its.toArray lo hi none=((its.drop (HT.sIx its.length 0 lo)).take (HT.sIx its.length its.length hi-HT.sIx its.length 0 lo)).toArray:=by
 obtain⟨h1,h2,h3⟩:=ZfL lo hi its.toArray.size
 unfold slicePick
 rw[h1,h2,h3]
 simp only[sliceRange_one,pick_run,List.size_toArray]<;>rfl
def ZnN(K:PySem.W.Frag):V→Option Int→Option Int→Hp→VK→Prop:=fun x lo hi H Q=>∃a xs,x=.ref a∧SqL K H a xs∧∀p,H p=none→Q (.ref p) (upd H p (.lst (ZY xs lo hi)))
theorem Zlz:SlR X (ZnN X.K):=by
 intro pins s σ H x v vl vu lo hi sl Q I rx hs pl pu h
 obtain⟨a,xs,rfl,hx,q⟩:=h
 cases rx
 obtain⟨its,r,ht,hz⟩:=I.list hx
 have hlen:=r.length
 refine⟨"list",_,slot_list_getitem.lookup,ht.isList.typeIs,?_⟩
 refine wpAny_getItem_list_slice ht.isList hs pl pu .none (by simp) ?_ (by rw[Qq]<;>omega)
 rw[ZeT,← hlen]
 refine⟨.ref s.heap.objs.size,_,I.laid (t':=s.toks) (o:=.lst (ZY xs lo hi)) (fun b ob q=>Qb _ q) (Qd _) ?_,rfl,q _ (I.hok.fresh (Qd _))⟩
 exact⟨QI (Zd4 xs lo hi) hz,_,0,(r.drop (HT.sIx xs.length 0 lo)).take (HT.sIx xs.length xs.length hi-HT.sIx xs.length 0 lo),Qp _ rfl⟩
theorem ZfD:Z8 X (.builtin "len") (fun xs H Q=>∃p ys,xs=[.ref p]∧(SqL X.K H p ys∨SqT X.K H p ys)∧Q (.int ys.length) H):=by
 intro pins s σ H xs us Q I r h
 obtain⟨p,ys,rfl,hq,q⟩:=h
 obtain⟨u,rfl,rx⟩:=ZbD r
 cases rx
 have hn:=ZfY
 rcases hq with hq|hq
 ·obtain⟨its,r',pl,hz⟩:=I.list hq
  have hlen:=r'.length
  exact Calls.call_len_list pl.isList (by simp only[List.size_toArray]<;>omega) ⟨.int ys.length,H,I.tok _,⟨s.toks+1,by rw[Qq,hlen]⟩,q⟩
 ·obtain⟨its,r',pl,hz⟩:=I.tuple hq
  have hlen:=r'.length
  exact len_tuple pl (by simp only[List.size_toArray]<;>omega) ⟨.int ys.length,H,I.tok _,⟨s.toks+1,by rw[Qq,hlen]⟩,q⟩
theorem Zfv:Z8 X (.type "list") (fun xs H Q=>∃p ys,xs=[.ref p]∧(SqL X.K H p ys∨SqT X.K H p ys)∧∀l,H l=none→Q (.ref l) (upd H l (.lst ys))):=by
 intro pins s σ H xs us Q I r h
 obtain⟨p,ys,rfl,hq,q⟩:=h
 obtain⟨u,rfl,rx⟩:=ZbD r
 cases rx
 have fin:∀ (its:List Value),ZE ys its→ys.length≤sizeLine→∀ (h':Heap) (c':Nat),(∀b o',s.heap.get? b=some o'→h'.get? b=some o') →
   h'.get? s.heap.objs.size=some { cls:=.type "list",dict:=none,data:=.seq its.toArray c',slots:=#[] }→EP X pins σ Q (.ref s.heap.objs.size) { s with heap:=h' }:=fun its r' hz h' c' kp e =>
  ⟨.ref s.heap.objs.size,_,I.laid (t':=s.toks) kp (Qd _) (show Zah X.prog X.w _ h' _ (.lst ys) from⟨hz,its,c',r',e⟩),rfl,q _ (I.hok.fresh (Qd _))⟩
 rcases hq with hq|hq
 ·obtain⟨its,r',pl,hz⟩:=I.list hq
  have hlen:=r'.length
  obtain⟨o,ho,hc,n,hd⟩:=pl.isList
  exact call_list_seq p (.inl rfl) ho hc hd (fun h' c' kp e=>fin its r' hz h' c' kp e) (by simp only[List.size_toArray]<;>omega)
 ·obtain⟨its,r',pl,hz⟩:=I.tuple hq
  have hlen:=r'.length
  obtain⟨o,ho,hc,n,hd⟩:=pl
  exact call_list_seq p (.inr rfl) ho hc hd (fun h' c' kp e=>fin its r' hz h' c' kp e) (by simp only[List.size_toArray]<;>omega)
theorem ZeV:Z8 X (.type "tuple") (fun xs H Q=>∃p ys,xs=[.ref p]∧((SqL X.K H p ys∧∀l,H l=none→Q (.ref l) (upd H l (.tup ys)))∨(SqT X.K H p ys∧Q (.ref p) H))):=by
 intro pins s σ H xs us Q I r h
 obtain⟨p,ys,rfl,h⟩:=h
 obtain⟨u,rfl,rx⟩:=ZbD r
 cases rx
 rcases h with⟨hq,q⟩|⟨hq,q⟩
 ·obtain⟨its,r',pl,hz⟩:=I.list hq
  have hlen:=r'.length
  refine call_tuple_list pl.isList (fun h' kp=>?_) (by simp only[List.size_toArray]<;>omega)
  have I1:Inv X pins σ H { s with heap:=h' }:=I.kept (t':=s.toks) kp
  have I2:Inv X pins σ (upd H h'.objs.size (.tup ys)) { s with heap:=h'.push { cls:=.type "tuple",data:=.seq its.toArray } } :=
   I1.laid (t':=s.toks) (fun b o e=>Qb _ e) (Qd _) (show Zah X.prog X.w _ _ _ (.tup ys) from⟨hz,its,r',IsTup.new _ _⟩)
  exact⟨.ref h'.objs.size,_,I2,rfl,q _ (I1.hok.fresh (Qd _))⟩
 ·obtain⟨its,r',pl,hz⟩:=I.tuple hq
  exact call_tuple_same pl ⟨.ref p,H,I,rfl,q⟩
def tyV(K:PySem.W.Frag)(T:String)(x:V)(H:Hp):Prop:=match x with
 | .str _=>T = "str"
 | .int _=>T = "int"
 | .ref p=>(T = "list"∧∃xs,SqL K H p xs)∨(T = "tuple"∧∃o,K.lookup p=some o∧o.cls=.type "tuple"∧o.dict=none) ∨
   (T = "dict"∧((∃kvs,H p=some (.dK kvs))∨∃kvs,H p=some (.dT kvs)))∨(T = "set"∧∃S n,H p=some (.set S n))
 | _=>False
theorem ZjE{pins:List (Addr×Obj)}{σ:St}{H:Hp}{s:Shared}{T:String}{x:V}{v:Value}(I:Inv X pins σ H s)(r:ZT x v)(ty:tyV X.K T x H) :
  s.TypeIs v T∧∀a,v=.ref a→∃ob,s.heap.get? a=some ob∧ob.dict=none:=by
 cases x with
 | str z =>
  obtain⟨t,rfl⟩:=r
  cases (show T = "str" from ty)
  exact⟨typeIs_str s z t,fun _ e=>nomatch e⟩
 | int i =>
  obtain⟨t,rfl⟩:=r
  cases (show T = "int" from ty)
  exact⟨typeIs_int s i t,fun _ e=>nomatch e⟩
 | ref p =>
  cases r
  rcases ty with⟨rfl,xs,hq⟩|⟨rfl,o,hk,hc,hd⟩|⟨rfl,hk⟩|⟨rfl,S,n,hk⟩
  ·obtain⟨its,_,pl,_⟩:=I.list hq
   refine⟨pl.isList.typeIs,fun a e=>?_⟩
   cases e
   obtain⟨o,n,e,c,hd,_⟩:=pl
   exact⟨o,e,hd⟩
  ·refine⟨⟨o,I.kIn p o hk,hc⟩,fun a e=>?_⟩
   cases e
   exact⟨o,I.kIn _ o hk,hd⟩
  ·have z:∃o,s.heap.get? p=some o∧o.ExactDict:=by
    rcases hk with⟨kvs,hk⟩|⟨kvs,hk⟩
    ·obtain⟨_,_,_,_,o,_,_,e,ex,_⟩:=I.hok p _ hk
     exact⟨o,e,ex⟩
    ·obtain⟨_,_,_,_,o,_,_,e,ex,_⟩:=I.hok p _ hk
     exact⟨o,e,ex⟩
   obtain⟨o,e,ex⟩:=z
   refine⟨⟨o,e,ex.1⟩,fun a e2=>?_⟩
   cases e2
   exact⟨o,e,ex.2.1⟩
  ·obtain⟨o,_,_,_,e,ex,_⟩:=I.hok p _ hk
   refine⟨⟨o,e,ex.1⟩,fun a e2=>?_⟩
   cases e2
   exact⟨o,e,ex.2.1⟩
 | _=>exact False.elim ty
def Zol(K:PySem.W.Frag)(T:String)(r:V→List V→Hp→VK→Prop)(to:TE):TE:=fun σ H Q=>to σ H fun x H1=>tyV K T x H1∧r x [] H1 Q
def tBM(K:PySem.W.Frag)(T:String)(r:V→List V→Hp→VK→Prop)(to:TE)(t:TA):TE:=fun σ H Q=>to σ H fun x H1=>tyV K T x H1∧t σ H1 fun xs H2=>r x xs H2 Q
variable {o e:Expr} {es:List Expr} {to:TE} {t:TA} {name:Str} {apos cpos:Pos} {T id:String} {r:V→List V→Hp→VK→Prop}
theorem Zhg(pa:PlainAttrs T)(slot:Slot T name id)(hty:typeOf (.builtin id)=pure (.type "method_descriptor"))(hm:MtR X id r)(ho:PE X o to)
  (hbase:attributeBase o name X.env (eval o X.env)=eval o X.env:=by rfl) (hline:(apos.endLine == cpos.line)=true:=by rfl):PE X (.Call (.Attribute o name apos) [] [] cpos) (Zol X.K T r to):=by
 intro pins s σ H Q I h
 refine wpAny_Call_method0_late hbase hline (thn (ho pins s σ H _ I h) ?_)
 rintro v s1 ⟨x,H1,I1,r1,ty,q1⟩
 obtain⟨h1,h2⟩:=ZjE I1 r1 ty
 exact⟨T,id,pa,slot,hty,h1,h2,Calls.callWith_builtin rfl (PySem.evalArgs_none (hm pins s1 σ H1 x [] v [] Q I1 r1 .nil q1))⟩
theorem ZcX(pa:PlainAttrs T)(slot:Slot T name id)(hty:typeOf (.builtin id)=pure (.type "method_descriptor"))(hm:MtR X id r)(ho:PE X o to)(ha:PA X (e::es) t)
  (hbase:attributeBase o name X.env (eval o X.env)=eval o X.env:=by rfl)
  (hfew:((backTo cpos (starEach (e::es) X.env)).all (fun x=>!x.1)&&(backToKw cpos (keywordEach [] X.env)).all (fun x=>x.1.isSome)
   && decide ((e::es).length+([]:List Keyword).length+(if ([]:List Keyword).isEmpty then 0 else 1)<30))=true:=by rfl)
  (hline:(apos.endLine == cpos.line)=true:=by rfl) (hs:starEach (e::es) X.env=(false,eval e X.env)::starEach es X.env:=by rfl) (hplain:(backTo cpos (starEach es X.env)).any (·.1)=false:=by rfl) :
  PE X (.Call (.Attribute o name apos) (e::es) [] cpos) (tBM X.K T r to t):=by
 intro pins s σ H Q I h
 refine wpAny_Call_method_late hbase hfew hline rfl (thn (ho pins s σ H _ I h) ?_)
 rintro v s1 ⟨x,H1,I1,r1,ty,q1⟩
 obtain⟨h1,h2⟩:=ZjE I1 r1 ty
 refine⟨T,id,pa,slot,hty,h1,h2,?_⟩
 have hA:=ha cpos pins s1 σ H1 _ I1 q1
 rw[hs]at hA ⊢
 refine Calls.callWith_builtin (by show (false||(backTo cpos (starEach es X.env)).any (·.1))=false;rw[hplain]<;>rfl) (Calls.evalArgs_plain ?_)
 exact thn hA fun us s2 ⟨vs,H2,I2,r2,q2⟩=>hm pins s2 σ H2 x vs v us Q I2 r1 r2 q2
end
def MtM(X:Cx)(id:String)(r:V→List V→Hp→VK→Prop):Prop :=
 ∀ (pins:List (Addr×Obj)) (s:Shared) (σ:St) (H:Hp) (x:V) (xs:List V) (v:Value) (us:List Value) (Q:VK),Inv X pins σ H s→ZT x v→ZE xs us→r x xs H Q →
  wpAny (model X.prog X.w) X.A (call (.builtin id) (v::us)) (EP X pins σ Q) X.xe s
theorem ZE.one:∀ {x:V} {us:List Value},ZE [x] us→∃u,us=[u]∧ZT x u
 | _,_,.cons r .nil=>⟨_,rfl,r⟩
theorem ZE.two:∀ {x y:V} {us:List Value},ZE [x,y] us→∃u v,us=[u,v]∧ZT x u∧ZT y v
 | _,_,_,.cons r (.cons q .nil)=>⟨_,_,rfl,r,q⟩
theorem ZE.zero:∀ {us:List Value},ZE [] us→us=[]
 | _,.nil=>rfl
theorem ZE.dropLast{xs:List V}{us:List Value}(h:ZE xs us):ZE xs.dropLast us.dropLast:=by
 induction h with
 | nil=>exact .nil
 | cons r t ih =>
  cases t with
  | nil=>exact .nil
  | cons q t'=>exact .cons r ih
theorem Zhi{α:Type}(l:List α):l.eraseIdx (l.length-1)=l.dropLast:=by
 induction l with
 | nil=>rfl
 | cons a r ih =>
  cases r with
  | nil=>rfl
  | cons b r =>
   have e:(a::b::r).length-1=((b::r).length-1)+1:=by
    have h1:(a::b::r).length=r.length+2:=rfl
    have h2:(b::r).length=r.length+1:=rfl
    omega
   rw[e,List.eraseIdx_cons_succ,ih]
   all_goals rfl
section
variable {X:Cx} {pins:List (Addr×Obj)} {σ:St} {H:Hp} {s:Shared} {l b:Addr} {xs ys zs:List V}
theorem Inv.lset{its its':List Value}{n:Nat}{f:Array Value→Array Value}{t':Nat}(I:Inv X pins σ H s)(hH:H l=some (.lst xs))
  (e:s.heap.get? l=some { cls:=.type "list",data:=.seq its.toArray n }) (hf:f its.toArray=its'.toArray) (hv:ZE ys its') (hz:ys.length≤sizeLine) :
  Inv X pins σ (upd H l (.lst ys)) { s with heap:=s.heap.update l (Obj.mapSeq f),toks:=t' }:=by
 have q:=PySem.IsL.update e f
 rw[hf]at q
 refine I.write (x:=l) (e:=l) (by rw[hH];exact trivial) (.inl rfl) (fun b' u hb hu=>(Heap.get?_update_other s.heap (Obj.mapSeq f) (Ne.symm hb)).trans hu) ⟨_,q⟩ ?_
 exact⟨hz,its',_,hv,q⟩
theorem Inv.lnew{its:List Value}{t':Nat}(I:Inv X pins σ H s)(hv:ZE ys its)(hz:ys.length≤sizeLine) :
  Inv X pins σ (upd H s.heap.objs.size (.lst ys)) { s with heap:=s.heap.push { cls:=.type "list",data:=.seq its.toArray },toks:=t' } :=
 I.laid (fun _ _ q=>Qb _ q) (Qd _) ⟨hz,its,0,hv,Qp _ rfl⟩
theorem Inv.fresh(I:Inv X pins σ H s):H s.heap.objs.size=none:=I.hok.fresh (Qd _)
theorem Inv.lstM(I:Inv X pins σ H s)(hH:H l=some (.lst xs)):xs.length≤sizeLine∧∃ (its:List Value) (n:Nat),ZE xs its∧xs.length=its.length∧s.heap.get? l=some { cls:=.type "list",data:=.seq its.toArray n }:=by
 obtain⟨z,its,n,r,e⟩:=I.hok l _ hH
 exact⟨z,its,n,r,r.length,e⟩
theorem Zdp{n:Nat}(h:n≤sizeLine):Builtin.List.listTooLong n=false:=by
 unfold Builtin.List.listTooLong
 exact decide_eq_false (by omega)
end
section
variable {X:Cx}
def ZlF:V→List V→Hp→VK→Prop:=fun x vs H Q=>∃l xs y,x=.ref l∧vs=[y]∧H l=some (.lst xs)∧xs.length<sizeLine∧Q .non (upd H l (.lst (xs++[y])))
theorem ZaS:MtM X "list.append" ZlF:=by
 intro pins s σ H x vs v us Q I rx rv h
 obtain⟨l,xs,y,rfl,rfl,hH,hz,q⟩:=h
 cases rx
 obtain⟨u,rfl,ru⟩:=rv.one
 obtain⟨z,its,n,r,hl,e⟩:=I.lstM hH
 refine call_meets F.slot_list_append ⟨_,e,rfl⟩ F.entry_list_append (F.args_list_append_2 _ _) (PySem.list_append l its.toArray n u (by rw[Qq];omega)) ⟨e,?_⟩
 refine⟨.non,_,I.lset (its':=its++[u]) hH e (by simp) (r.append (.cons ru .nil)) ?_,rfl,q⟩
 rw[Qe,Qh]
 omega
def ZlV:V→List V→Hp→VK→Prop:=fun x vs H Q=>∃l b xs zs,x=.ref l∧vs=[.ref b]∧H l=some (.lst xs)∧H b=some (.lst zs)∧xs.length+zs.length≤sizeLine∧Q .non (upd H l (.lst (xs++zs)))
theorem ZiK:MtM X "list.extend" ZlV:=by
 intro pins s σ H x vs v us Q I rx rv h
 obtain⟨l,b,xs,zs,rfl,rfl,hH,hB,hz,q⟩:=h
 cases rx
 obtain⟨u,rfl,ru⟩:=rv.one
 cases ru
 obtain⟨z,its,n,r,hl,e⟩:=I.lstM hH
 obtain⟨z2,its2,n2,r2,hl2,e2⟩:=I.lstM hB
 have hsz:its.toArray.size+its2.toArray.size≤sizeLine:=by rw[Qq,Qq];omega
 have hlong:¬ (!its.toArray.isEmpty&&Builtin.List.listTooLong (its.toArray.size+its2.toArray.size))=true:=by
  rw[Zdp hsz,Bool.and_false]
  exact Qj
 refine call_meets F.slot_list_extend ⟨_,e,rfl⟩ F.entry_list_extend (F.args_list_extend_2 _ _)
  (AutoSeq1.list_extend_list_list_0 l its.toArray n b its2.toArray n2 hlong (by rw[Qq];omega) (by omega)) ⟨e,e2,?_⟩
 refine⟨.non,_,I.lset (its':=its++its2) hH e (by simp) (r.append r2) ?_,rfl,q⟩
 rw[Qe]
 omega
def Zn7:V→List V→Hp→VK→Prop:=fun x vs H Q=>∃l xs y,x=.ref l∧vs=[]∧H l=some (.lst xs)∧xs[xs.length-1]? = some y∧Q y (upd H l (.lst xs.dropLast))
theorem Zg1:MtM X "list.pop" Zn7:=by
 intro pins s σ H x vs v us Q I rx rv h
 obtain⟨l,xs,y,rfl,rfl,hH,hy,q⟩:=h
 cases rx
 have hus:=rv.zero
 subst hus
 obtain⟨z,its,n,r,hl,e⟩:=I.lstM hH
 obtain⟨u,hu,ru⟩:=r.get hy
 have hy':its.toArray[its.toArray.size-1]? = some u:=by
  show its.toArray[its.length-1]? = some u
  rw[← Array.getElem?_toList,← hl]
  exact hu
 refine call_meets F.slot_list_pop ⟨_,e,rfl⟩ F.entry_list_pop (F.args_list_pop_1 _) (MeetsSeq.list_pop_last l its.toArray n u hy' (by rw[Qq];omega)) ⟨e,?_⟩
 refine⟨y,_,I.lset (its':=its.dropLast) hH e ?_ r.dropLast ?_,ru,q⟩
 ·show its.toArray.eraseIdxIfInBounds (its.toArray.size-1)=its.dropLast.toArray
  rw[Qq,List.eraseIdxIfInBounds_toArray,Zhi]
 ·rw[Qas]
  omega
def Zob:R2:=fun x y H Q=>∃l b xs zs,x=.ref l∧y=.ref b∧H l=some (.lst xs)∧H b=some (.lst zs)∧xs.length+zs.length≤sizeLine∧∀p,H p=none→Q (.ref p) (upd H p (.lst (xs++zs)))
theorem ZaB:OpR X (binaryOp .Add) Zob:=by
 intro pins s σ H x y v u Q I rx ry h
 obtain⟨l,b,xs,zs,rfl,rfl,hH,hB,hz,q⟩:=h
 cases rx
 cases ry
 obtain⟨z,its,n,r,hl,e⟩:=I.lstM hH
 obtain⟨z2,its2,n2,r2,hl2,e2⟩:=I.lstM hB
 refine PySem.P.add_list e e2 ?_ (by rw[Qq,Qq];omega)
 have ea:its.toArray++its2.toArray=(its++its2).toArray:=by simp
 rw[ea]
 exact⟨.ref _,_,I.lnew (t':=s.toks) (r.append r2) (by rw[Qe];omega),rfl,q _ I.fresh⟩
end
section
variable {prog:Program} {w:World} {A:Around} {E:Value→Shared→Prop} {s:Shared}
theorem Zi9(its its2:List Value)(a c:Nat):its.toArray.extract 0 a++its2.toArray++its.toArray.extract c its.toArray.size=(its.take a++its2++its.drop c).toArray:=by
 apply Array.toList_inj.mp
 first
  | (simp;exact Qn (by simp))
  | simp[List.take_of_length_le]
  | simp
theorem Zg7{a c n:Nat}(hac:a≤c)(hc:c≤n):sliceBounds (some (a:Int)) (some (c:Int)) none n=((a:Int),(c:Int),1):=by
 simp only[sliceBounds,Option.getD_none]
 have h1:¬ ((a:Int)<0):=by omega
 have h2:¬ ((c:Int)<0):=by omega
 simp only[h1,h2,if_false,show (1:Int)>0 by decide,if_true]
 congr 1
 ·omega
 ·congr 1;omega
theorem ZeP{l b sl:Addr}{items new:Array Value}{n n2:Nat}{vl vu:Value}{a c:Nat}{Q:Unit→Shared→Prop}
  (e:s.heap.get? l=some { cls:=.type "list",data:=.seq items n }) (e2:s.heap.get? b=some { cls:=.type "list",data:=.seq new n2 }) (hne:l≠b)
  (hs:s.heap.IsSliceOf sl vl vu .none) (pl:IsPart vl (some (a:Int))) (pu:IsPart vu (some (c:Int))) (hac:a≤c) (hc:c≤items.size)
  (hsz:items.size+new.size≤sizeLine) (h:Q () { s with heap:=s.heap.update l (Obj.mapSeq fun xs=>xs.extract 0 a++new++xs.extract c xs.size) }) :
  wpAny (model prog w) A (setItem (.ref l) (.ref sl) (.ref b)) Q E s:=by
 have hl:s.heap.IsList l items:=PySem.IsL.isList e
 have hb:s.heap.IsList b new:=PySem.IsL.isList e2
 obtain⟨os,hos,hcs,hds⟩:=id hs
 have hTs:s.TypeIs (.ref sl) "slice":=⟨os,hos,hcs⟩
 have hstep:¬ ((rawPart none == rawInt 0)=true):=Qj
 have hsame:Builtin.List.listSameRef (.ref l) (.ref b)=false:=by
  unfold Builtin.List.listSameRef
  exact beq_eq_false_iff_ne.mpr hne
 have hmax:(max (a:Int) (c:Int)).toNat=c:=by omega
 have hz':((fun xs:Array Value=>xs.extract 0 a++new++xs.extract c xs.size) items).size≤sizeLine+1:=by
  simp only[Array.size_append,Array.size_extract]
  omega
 unfold setItem
 try with_reducible refine wpAny_holding ?_
 first|refine wpAny_bind (wpAny_pure ?_)|skip
 refine wpAny_bind (wpAny_sequenceKey hl.typeIs (by decide) ?_)
 refine wpAny_bind (wpAny_callSpecial?_slot (name:=Str.ofString "__setitem__") hl.typeIs slot_list_setitem
  (wpAny_call_entry slot_list_setitem hl.typeIs entry_list_setitem ?_ (args_list_setitem _ _ _)))
 show wpAny _ _ (Builtin.List.listSubscript? (.ref sl) >>= _) _ _ s
 refine wpAny_bind ?_
 unfold Builtin.List.listSubscript?
 refine wpAny_bind (wpAny_specialOf hTs slice_no_index ?_)
 simp only[Option.isNone_none,if_true]
 refine wpAny_pure ?_
 show wpAny _ _ (typeOf (.ref sl) >>= _) _ _ s
 refine wpAny_bind (wpAny_typeOf hTs ?_)
 first
  | rw[if_neg (by decide)]
  | refine PySem.W.KFB.if_not (by decide) ?_
 rw[listSliceParts_eq]
 refine wpAny_bind (wpAny_bind (wpAny_field hos hds (x:=.none) rfl (wpAny_bind (wpAny_listPart .none ?_))))
 rw[if_neg hstep]
 refine wpAny_bind (wpAny_field hos hds (x:=vl) rfl (wpAny_bind (wpAny_listPart pl ?_)))
 refine wpAny_bind (wpAny_field hos hds (x:=vu) rfl (wpAny_bind (wpAny_listPart pu (wpAny_pure ?_))))
 first
  | simp only[hsame,Bool.false_eq_true,if_false]
  | refine PySem.W.KFB.if_not hsame ?_
  | (dsimp only;rw[if_neg (by rw[hsame];exact Qj)])
 refine wpAny_bind (m:=Builtin.List.listAllItems (.ref b) "must assign iterable to extended slice") ?_
 unfold Builtin.List.listAllItems
 refine wpAny_bind (wpAny_typeOf hb.typeIs ?_)
 first
  | refine PySem.W.KFB.if_so (by decide) ?_
  | rw[if_pos (by decide)]
  | simp only[beq_self_eq_true,Bool.true_or,if_true]
 unfold Builtin.List.listItems
 refine wpAny_bind (wpAny_seqItems e2 rfl (wpAny_pure ?_))
 refine wpAny_bind (wpAny_bind (wpAny_seqItems e rfl (wpAny_pure ?_)))
 refine wpAny_bind (wpAny_of_eq ((sliceIndices_raw (some (a:Int)) (some (c:Int)) none items.size (by simp)).trans (congrArg (pure:Int×Int×Int→Sem (Int×Int×Int)) (Zg7 hac hc))) ?_)
 show wpAny _ _ (if ((1:Int) == 1)=true then _ else _) _ _ s
 rw[if_pos (by decide)]
 refine wpAny_bind (wpAny_rule ?_)
 first
  | simp only[Zdp hsz,Bool.false_eq_true,if_false]
  | refine PySem.W.KFB.if_not (Zdp hsz) ?_
 first|refine wpAny_bind (wpAny_pure ?_)|skip
 show wpAny _ _ (updateSeq l (fun xs=>xs.extract 0 ((a:Int)).toNat++new++xs.extract (max (a:Int) (c:Int)).toNat xs.size) >>= _) _ _ s
 rw[hmax,Q6]
 refine wpAny_bind (wpAny_updateSeq (hz:=QI (Qad _ _) hsz) (_hz':=hz') e rfl ?_)
 refine wpAny_bind (wpAny_letGo ?_)
 first
  | exact wpAny_bind (wpAny_pure (wpAny_pure ⟨.none,rfl,wpAny_pure h⟩))
  | exact wpAny_pure ⟨.none,rfl,wpAny_pure h⟩
end
section
variable {X:Cx}
theorem Zjc{pins:List (Addr×Obj)}{s:Shared}{σ:St}{H:Hp}{l b sl:Addr}{xs ys:List V}{a c:Int}{vl vu:Value}{Q:Unit→Shared→Prop}(I:Inv X pins σ H s)
  (hH:H l=some (.lst xs)) (hB:H b=some (.lst ys)) (hne:l≠b) (hs:s.heap.IsSliceOf sl vl vu .none) (ra:ZT (.int a) vl) (rc:ZT (.int c) vu) (h0:0≤a) (hac:a≤c) (hc:c≤xs.length)
  (hz:xs.length+ys.length≤sizeLine) (h:∀s',Inv X pins σ (upd H l (.lst (xs.take a.toNat++ys++xs.drop c.toNat))) s'→Q () s') :
  wpAny (model X.prog X.w) X.A (setItem (.ref l) (.ref sl) (.ref b)) Q X.xe s:=by
 obtain⟨ta,rfl⟩:=ra
 obtain⟨tc,rfl⟩:=rc
 obtain⟨z,its,n,r,hl,e⟩:=I.lstM hH
 obtain⟨z2,its2,n2,r2,hl2,e2⟩:=I.lstM hB
 obtain⟨a',rfl⟩:=Int.eq_ofNat_of_zero_le h0
 obtain⟨c',rfl⟩:=Int.eq_ofNat_of_zero_le (Int.le_trans h0 hac)
 simp only[Int.toNat_natCast]at h
 refine ZeP (a:=a') (c:=c') e e2 hne hs (.int _ _) (.int _ _) (by omega) (by rw[Qq];omega) (by rw[Qq,Qq];omega) (h _ ?_)
 refine I.lset (its':=its.take a'++its2++its.drop c') (t':=s.toks) hH e ?_ (ZE.append (ZE.append (r.take _) r2) (r.drop _)) ?_
 ·exact Zi9 its its2 a' c'
 ·rw[Qe,Qe,Qk,QA]
  omega
end
end L2
namespace Att
open PySem PySem.W PySem.Calls PyProof.Rows
theorem Zea{P:Params}{h:Heap}:∀ (ns:List Int) (vs:List Value),WellAll P h vs (ns.map WData.int)→IntsAre vs ns:=by
 intro ns
 induction ns with
 | nil =>
  intro vs w
  rw[List.map_nil]at w
  cases w
  exact .nil
 | cons n ns ih =>
  intro vs w
  rw[QE]at w
  cases w with
  | cons a b =>
   cases a
   exact .cons _ _ (ih _ b)
theorem ZiT{l:OpenLaw}{n:Nat}(hn:l.most=some n){P:Params}{h:Heap}{args:List WData}{vals:List Value}
  (hpre:l.row.toRowW.claim.pre args=true) (hwl:WellAll P h vals args) :
  ∃a vs ns,vals=[Value.ref a]∧args=[WData.list (ns.map WData.int)]∧h.get? a=some { cls:=.type "list",data:=.seq vs.toArray }∧IntsAre vs ns∧ns.length≤n:=by
 have hsh:WShape.hasAll [] args [.list .int]=true:=(pre_splitW hpre).1
 have hc:l.pre.holds [] { args:=args }=true:=(pre_splitW hpre).2
 obtain⟨d,r,rfl,h1,h2⟩:=hasAllW_cons hsh
 obtain rfl:=hasAllW_nil h2
 obtain⟨xs,rfl,h3⟩:=hasW_list h1
 obtain⟨ns,rfl⟩:=items_int h3
 have hlen:ns.length≤n:=by
  unfold OpenLaw.pre at hc
  have h4:(WTm.not (.lt (.lit (.int (n:Int))) (.len (.arg 0)))).holds [] { args:=[.list (ns.map .int)] }=true:=by
   have h4:=(holds_andW hc).1
   rw[hn]at h4
   exact h4
  have h5:=condW_of h4 (w_not (w_lt w_lit (w_len_list (w_arg rfl))))
  rw[Qa]at h5
  refine Nat.le_of_not_lt fun q=>?_
  have q':(n:Int)<((ns.length:Nat):Int):=by omega
  first
   | (rw[decide_eq_true q']at h5;exact absurd h5 (by decide))
   | (simp at h5;omega)
 cases hwl with
 | cons w1 w2 =>
  cases w2
  cases w1 with
  | list ho hall=>exact⟨_,_,ns,rfl,rfl,ho,Zea ns _ hall,hlen⟩
theorem ZiB(l:OpenLaw)(args:List WData):l.row.toRowW.claim.post args (.bool true) args=true :=
 postW_of (r:=l.row.toRowW) (X:=(true == true))
  (show WShape.has [] (.bool true) .bool=true by first|rfl|decide|simp[WShape.has,WShape.arms,WShape.armsAll])
  (show (WTm.eq .res (.lit (.bool true))).value [] { args:=args,res:=some (.bool true),after:=args }=some (.bool (true == true)) from w_eq_bool (w_res rfl) w_lit) rfl
theorem attach_call{l:OpenLaw}{n:Nat}{q:Program}{loose:List Str}{XP:(Str→Option Value)→Heap→Prop}{YP:World→Heap→Prop}{d:DefRec}
  (hn:l.most=some n) (hdf:d.params.defaults=[])
  (call:∀ (w:World) (s₀ s₁:Shared) (mg mb:Str→Option Value) (fa:Addr) (o:Obj) (pm cd doc:Value) (a:Addr) (vs:List Value) (ns:List Int),
   Ground q loose [] XP w s₀ mg mb s₁.heap→YP w s₁.heap →
   s₁.heap.get? fa=some o→o.data=.func (docDef d.name d.params d.body d.scope pm cd doc)→s₁.heap.CodeRec cd d.name→mg d.name=some (.ref fa) →
   s₁.heap.get? a=some { cls:=.type "list",data:=.seq vs.toArray }→IntsAre vs ns→ns.length≤n→s₁.gens = #[] →
   codeAny (model l.prog w) callerA (.call (.ref fa) ⟨[.ref a],[]⟩) (fun r s'=>r=.ok (.ret (.bool true))∧OldK s₁.heap s'.heap∧s'.os=s₁.os∧AllBare s'.gens) s₁) :
  WalkO q loose XP YP l.row.toRowW d [] (fun f vs=>PySem.call f vs):=by
 intro w s₀ s₁ mg mb G Y fa o pm cd doc dV kV ho hd hcd hD hmg hg args vals as hpre hlay hrd hwl hlo
 obtain rfl:dV=.none:=Dflts.none hD hdf
 obtain rfl:kV=.none:=Dflts.noKw hD
 obtain⟨a,vs,ns,rfl,rfl,hobj,hints,hlen⟩:=ZiT hn hpre hwl
 refine enter_call (codeAny_mono (call w s₀ s₁ mg mb fa o pm cd doc a vs ns G Y ho (fd_plain hd) hcd hmg hobj hints hlen hg) fun r s' hq=>?_)
 obtain⟨rfl,h2,h3,h4⟩:=hq
 exact⟨.inl ⟨.bool true,.bool true,[],rfl,fun _=>rfl,.bool true,ZiB l _,fun _=>⟨List.Pairwise.nil,fun _ hm=>(nomatch hm)⟩⟩,h2,h3,h4⟩
section
variable {prog:Program} {w:World} {A:Around} {E:Value→Shared→Prop} {s:Shared} {K:Frag}
end
end Att
namespace L2
open PySem PySem.Spec PyProof.Rows
theorem ZdR:∀ {vs:List Value} {ns:List Int},IntsAre vs ns→ZE (ns.map V.int) vs
 | _,_,.nil=>.nil
 | _,_,.cons n t h=>.cons ⟨t,rfl⟩ (ZdR h)
def ZmM(H:Hp):Prop:=∀b,H b=none∨∃o xs,H b=some (.frz o (.lst xs))
theorem ZkJ{P:Program}{w:World}{K:PySem.W.Frag}{mg mb:Str→Option Value}{CX:CXT}{k:Nat}{fa a:Addr}{fd:FuncData}{x:Str}{sp:Sp}{s₁:Shared}{vs:List Value}{ns:List Int}
  (KX:K.In s₁.heap) (hns:s₁.heap.Ns mainGlobals mg) (hb:s₁.heap.Ns builtinsNs mb) (hbb:∀x:Str,x ≠ "__name__"→mb x=bootBuiltins x) (hlim:s₁.heap.NoLimit) (hg:s₁.gens = #[])
  (ha:s₁.heap.get? a=some { cls:=.type "list",data:=.seq vs.toArray }) (hi:IntsAre vs ns) (hl:ns.length≤sizeLine) (hr:Za7 k callerA)
  (F:∀base:Heap,K.In base→base.Ns mainGlobals mg→Zd6 P w K mg base CX k fa fd [x] sp) (hbind:∀ (s:Shared) (u:Value),BindsTo s fd ⟨[u],[]⟩ [(x,u)])
  (hsp:∀H:Hp,ZmM H→SqL K H a (ns.map V.int)→sp [.ref a] H (fun v _=>v=.bl true) fun _ _ _=>False)
  (hCX:∀H e s',CX [] H s₁ (fun _ _ _=>False) e s'→False) :
  codeAny (model P w) callerA (.call (.ref fa) ⟨[.ref a],[]⟩) (fun r s'=>r=.ok (.ret (.bool true))∧OldK s₁.heap s'.heap∧s'.os=s₁.os∧AllBare s'.gens) s₁:=by
 have rv:=ZdR hi
 have lenV:=hi.length
 have core:∀H:Hp,ZmM H→SqL K H a (ns.map V.int)→HOk P w H s₁.heap→(∀b,H b≠none→b=a)→(H a≠none→K.lookup a=none) →
   codeAny (model P w) callerA (.call (.ref fa) ⟨[.ref a],[]⟩) (fun r s'=>r=.ok (.ret (.bool true))∧OldK s₁.heap s'.heap∧s'.os=s₁.os∧AllBare s'.gens) s₁:=by
  intro H hO hS hok hA hK
  have base_of:∀ {b:Addr} {o:Obj},s₁.heap.get? b=some o→H b=none→(ZfF s₁.heap H).get? b=some o:=fun e n=>Zj8 e n
  have noA:∀ {b:Addr} {o:Obj} {es:Array DictEntry} {ep:Nat},s₁.heap.get? b=some o→o.data=.dict es ep→H b=none:=fun {b o es ep} e d=>by
   cases q:H b with
   | none=>rfl
   | some u =>
    have e':b=a:=hA b (by rw[q];simp)
    subst e'
    rw[ha]at e;cases e
    have d':Data.seq vs.toArray _=Data.dict es ep:=d
    cases d'
  have nsK:∀ {b:Addr} {m:Str→Option Value},s₁.heap.Ns b m→(ZfF s₁.heap H).Ns b m:=fun {b m} ⟨o,es,ep,e,d,r⟩=>⟨o,es,ep,base_of e (noA e d),d,r⟩
  have hKb:K.In (ZfF s₁.heap H):=fun b o e=>base_of (KX b o e) (by
   cases q:H b with
   | none=>rfl
   | some u =>
    have e':b=a:=hA b (by rw[q];simp)
    subst e'
    rw[hK (by rw[q];simp)]at e;cases e)
  have hM:Mod K mg (ZfF s₁.heap H):=⟨hKb,nsK hns,⟨mb,nsK hb,hbb⟩,let ⟨mc,h1,h2⟩:=hlim;⟨mc,nsK h1,h2⟩⟩
  have e0:Zk2 P w K mg (ZfF s₁.heap H) callerA [] s₁ H:=⟨rfl,hM,fun b o e=>ZlA e,Nat.le_of_eq (ZiW _ _),trivial,fun b hb=>absurd (show b∈([]:List Addr) from hb) (by simp),hok,.of_eq hg⟩
  refine codeAny_mono ((F _ hKb (nsK hns)).run callerA [] s₁ H ⟨[.ref a],[]⟩ [.ref a] [.ref a] _ _ hr e0 (hbind s₁ (.ref a)) (.cons rfl .nil) (hsp H hO hS)) fun r s' h=>?_
  cases r with
  | error e=>exact(hCX H e s' h).elim
  | ok fl =>
   cases fl with
   | next=>exact False.elim h
   | brk=>exact False.elim h
   | cont=>exact False.elim h
   | ret u =>
    obtain⟨v,H',os,bare,un,hok',r',q⟩:=h
    have q':v=.bl true:=q
    subst q'
    obtain rfl:u=Value.bool true:=r'
    refine⟨rfl,OldK.of_keep fun b o e=>?_,os,bare⟩
    cases q:H b with
    | none=>exact un.keep b o e q (by intro z;exact absurd (show b∈([]:List Addr) from z) (by simp)) (by simp)
    | some u =>
     rcases hO b with z|⟨ob,xs,z⟩
     ·rw[q]at z;cases z
     ·have z2:=un.frzs b ob _ z
      obtain⟨e1,_⟩:=hok b _ z
      obtain⟨e2,_⟩:=hok' b _ z2
      rw[e]at e1;cases e1
      exact e2
 cases hk:K.lookup a with
 | some o =>
  have e:=KX a o hk
  rw[ha]at e
  cases e
  refine core (fun _=>none) (fun _=>.inl rfl) (.inr ⟨_,vs.toArray,_,hk,rfl,rfl,rfl,by rw[Qq,lenV];exact hl,by simpa using rv⟩) (fun b u z=>by have z':(none:Option HO)=some u:=z;cases z') (fun b z=>absurd rfl z) fun z=>absurd rfl z
 | none =>
  refine core (fun b=>if b=a then some (.frz { cls:=.type "list",data:=.seq vs.toArray } (.lst (ns.map V.int))) else none) (fun b=>?_) (.inl (.inr ⟨{ cls:=.type "list",data:=.seq vs.toArray },if_pos rfl⟩)) (fun b u z=>?_) (fun b z=>?_) fun _=>hk
  ·by_cases hb:b=a
   ·exact .inr ⟨_,_,if_pos hb⟩
   ·exact .inl (if_neg hb)
  ·by_cases hb:b=a
   ·have z':=(if_pos hb).symm.trans z
    cases z'
    subst hb
    exact⟨ha,by rw[Qa];exact hl,vs,_,rv,ha⟩
   ·have z':=(if_neg hb).symm.trans z
    cases z'
  ·by_cases hb:b=a
   ·exact hb
   ·exact absurd (if_neg hb) z
theorem walk_of{l:PySem.W.OpenLaw}{n k:Nat}{q:Program}{loose:List Str}{XP:(Str→Option Value)→Heap→Prop}{YP:World→Heap→Prop}{d:DefRec}{K:Params→PySem.W.Frag}{CX:World→CXT}{sp:World→Sp}{x:Str}
  (hn:l.most=some n) (hn2:n≤sizeLine) (hdf:d.params.defaults=[]) (hr:Za7 k callerA)
  (hY:∀ (w:World) (h:Heap),YP w h→(K w.params).In h)
  (F:∀ (w:World) (mg:Str→Option Value) (fa:Addr) (h:Heap),(K w.params).In h→h.Ns mainGlobals mg→mg d.name=some (.ref fa) →
   ∃fd:FuncData,(∀ (s:Shared) (u:Value),BindsTo s fd ⟨[u],[]⟩ [(x,u)]) ∧
    ∀base:Heap,(K w.params).In base→base.Ns mainGlobals mg→Zd6 l.prog w (K w.params) mg base (CX w) k fa fd [x] (sp w))
  (hsp:∀ (w:World) (H:Hp) (a:Addr) (ns:List Int),ns.length≤n→ZmM H→SqL (K w.params) H a (ns.map V.int)→sp w [.ref a] H (fun v _=>v=.bl true) fun _ _ _=>False)
  (hCX:∀ (w:World) (H:Hp) (s:Shared) (e:Value) (s':Shared),CX w [] H s (fun _ _ _=>False) e s'→False) :
  PySem.W.WalkO q loose XP YP l.row.toRowW d [] (fun f vs=>PySem.call f vs):=by
 refine Att.attach_call hn hdf fun w s₀ s₁ mg mb fa o pm cd doc a vs ns G Y ho hd hcd hmg hobj hints hlen hg=>?_
 have KX:=hY w _ Y
 obtain⟨fd,hb,hF⟩:=F w mg fa _ KX G.T.g hmg
 exact ZkJ KX G.T.g G.T.b G.T.builtins G.T.nolimit hg hobj hints (QI hlen hn2) hr hF hb (fun H hO hS=>hsp w H a ns hlen hO hS) fun H e s'=>hCX w H s₁ e s'
def Zs(s:Stmt):Arguments:=match s with
 | .FunctionDef _ a _ _ _ _ _ _ _ _=>a
 | _=>{ posonlyargs:=[],args:=[],vararg:=none,kwonlyargs:=[],kw_defaults:=[],kwarg:=none,defaults:=[] }
def Zr(s:Stmt):List Stmt:=match s with
 | .FunctionDef _ _ b _ _ _ _ _ _ _=>b
 | _=>[]
def Zh(s:Stmt):Scope:=match s with
 | .FunctionDef _ _ _ _ _ _ sc _ _ _=>sc
 | _=>{ kind:=.function,names:=[],isGenerator:=false,isCoroutine:=false }
abbrev CX0:CXT:=fun _ _ _ _ _ _=>False
abbrev E0:XK:=fun _ _ _=>False
theorem ZnD{X:Cx}:Zhn CX0 X E0:=fun _ _ _ _ _ _ _ h=>h.elim
structure Fun (K:PySem.W.Frag) (x qual:Str) (st:Stmt) (f:Addr) (fd:FuncData):Prop where
 ex:∃ (oc:Value) (od:Option Addr) (kV doc pm:Value) (an:Option Addr) (cdv ct:Value) (osl:Array (Option Value)),
  fd=PySem.W.fnOf x qual (Zs st) (Zr st) (Zh st) .none kV doc pm an cdv ct∧K.lookup f=some ⟨oc,od,.func fd,osl⟩∧PySem.W.codeIn K cdv qual=true
 kp:PySem.W.keepIn K (.ref f)=true
section
variable {P:Program} {w:World} {K:PySem.W.Frag} {mg:Str→Option Value} {base:Heap}
theorem Fun.ok{x qual:Str}{st:Stmt}{f:Addr}{fd:FuncData}{N ps:List Str}{k:Nat}{sp:Sp}(F:Fun K x qual st f fd)(S:Zw N ps (Zh st))(len:∀vs H Q E,sp vs H Q E→vs.length=ps.length)
  (hbody:∀ (cdv:Value) (A:Around) (outer:List Env) (s:Shared) (H:Hp) (vs:List V) (Q:VK) (E:XK),Za7 k (A.deeper (envOfC qual (Zh st) s.heap.objs.size f cdv))→sp vs H Q E →
   ∃t,PSs (Zhb CX0 P w K mg base N qual (Zh st) f cdv A outer s H E).nox (Zr st) t∧t { nx:=fun _ H'=>Q .non H',rt:=Q } (Zdn N vs) H):Zd6 P w K mg base CX0 (k+1) f fd ps sp:=by
 obtain⟨oc,od,kV,doc,pm,an,cdv,ct,osl,rfl,lk,hcd⟩:=F.ex
 refine Znn lk hcd S len fun A outer s H vs Q E hr hsp=>?_
 obtain⟨t,h,q⟩:=hbody cdv A outer s H vs Q E hr hsp
 exact⟨t,h.nox,q⟩
theorem Fun.binds{x qual:Str}{st:Stmt}{f:Addr}{fd:FuncData}{ps:List Str}(F:Fun K x qual st f fd)
  (h:∀ (kV doc pm:Value) (an:Option Addr) (cdv ct:Value) (us:List Value),us.length=ps.length→bindArgs (PySem.W.fnOf x qual (Zs st) (Zr st) (Zh st) .none kV doc pm an cdv ct) ⟨us,[]⟩=pure (ps.zip us)):ZcZ K fd ps []:=by
 obtain⟨oc,od,kV,doc,pm,an,cdv,ct,osl,rfl,lk,hcd⟩:=F.ex
 exact .all (h kV doc pm an cdv ct)
theorem Zg5{x qual:Str}{st:Stmt}{f:Addr}{oc:Value}{od an:Option Addr}{osl:Array (Option Value)}{kV doc pm cdv ct:Value}(l:K.lookup f=some ⟨oc,od,.func (PySem.W.fnOf x qual (Zs st) (Zr st) (Zh st) .none kV doc pm an cdv ct),osl⟩)
  (c:PySem.W.codeIn K cdv qual=true) (k:PySem.W.keepIn K (.ref f)=true):Fun K x qual st f (PySem.W.fnOf x qual (Zs st) (Zr st) (Zh st) .none kV doc pm an cdv ct):=⟨⟨oc,od,kV,doc,pm,an,cdv,ct,osl,rfl,l,c⟩,k⟩
end
theorem ZM{n:Nat}(h:n≤1000):n<sizeLine:=Nat.lt_of_le_of_lt h (by decide)
section
variable {X:Cx}
theorem pv(i:Nat){x:Str}{pos:Pos}(hN:X.N[i]? = some x:=by rfl)(hv:Vis X.env.scope x:=by first|exact Or.inl rfl|exact Or.inr (Or.inl rfl)|exact Or.inr (Or.inr rfl))(hd:(x == ("__debug__" : Str))=false:=by decide)
  (hcd:(x == ("__classdict__" : Str))=false:=by decide):PE X (.Name x pos) (ZlX i):=Zg8 hN hv hd hcd
end
theorem ZaG{A B:Prop}(h:B):if false=true then A else B:=by
 rw[if_neg Qj]
 exact h
theorem Z9{A B:Prop}(h:A):if true=true then A else B:=by
 rw[if_pos rfl]
 exact h
theorem ZcD{c A B:Prop}[Decidable c](h1:c→A)(h2:¬ c→B):if c then A else B:=by
 by_cases h:c
 ·rw[if_pos h]
  exact h1 h
 ·rw[if_neg h]
  exact h2 h
theorem Zno{c A B:Prop}[Decidable c](hc:c)(h:B):if (!decide c)=true then A else B:=by
 rw[decide_eq_true hc]
 exact ZaG h
def Zn(H H':Hp):Prop:=∀b o,H b=some o→H' b=some o
theorem Zn.refl(H:Hp):Zn H H:=fun _ _ h=>h
theorem Zn.trans{H H1 H2:Hp}(a:Zn H H1)(b:Zn H1 H2):Zn H H2:=fun c o h=>b c o (a c o h)
theorem Zn.free{H H':Hp}(e:Zn H H'){l:Addr}(h:H' l=Option.none):H l=Option.none:=by
 cases q:H l with
 | none=>rfl
 | some o =>
  rw[e l o q]at h
  cases h
theorem Zn.seq{K:PySem.W.Frag}{H H':Hp}{a:Addr}{xs:List V}(e:Zn H H')(h:SqL K H a xs):SqL K H' a xs:=by
 rcases h with(h|⟨o,h⟩)|h
 ·exact .inl (.inl (e _ _ h))
 ·exact .inl (.inr ⟨o,e _ _ h⟩)
 ·exact .inr h
def Z5(cells:List (Str×Addr)):List (Str×NameKind)→List (Str×Addr)→List (Str×Addr)
 | [],acc=>acc
 | (n,k)::r,acc=>if k == .free then Z5 cells r ((n,(cells.lookup n).getD 0)::acc) else Z5 cells r acc
theorem Zb6{sc:Scope}{env:Env}(h:∀y∈sc.names,y.2=.free→∃c,env.cells.lookup y.1=some c) :
  closureFor sc env=pure (Z5 env.cells sc.names []):=by
 have go:∀ (names:List (Str×NameKind)) (acc:List (Str×Addr)),(∀y∈names,y.2=.free→∃c,env.cells.lookup y.1=some c) →
   (forIn names acc fun (x:Str×NameKind) (r:List (Str×Addr))=>if (x.2 == NameKind.free)=true then (do let c ← cellOf env x.1;pure (ForInStep.yield ((x.1,c)::r))) else pure (ForInStep.yield r):Sem (List (Str×Addr)))=pure (Z5 env.cells names acc):=by
  intro names
  induction names with
  | nil=>intro acc _;rfl
  | cons y r ih =>
   intro acc hy
   obtain⟨n,k⟩:=y
   rw[List.forIn_cons]
   cases hk:(k == NameKind.free) with
   | false =>
    have e1:Z5 env.cells ((n,k)::r) acc=Z5 env.cells r acc:=by
     show (if (k == NameKind.free)=true then _ else _)=_
     rw[hk];rfl
    rw[e1,← ih acc fun z hz=>hy z (Ql _ hz)]
    simp only[hk,Bool.false_eq_true,if_false,pure_bind]
   | true =>
    have hk':k=.free:=by simpa using hk
    obtain⟨c,hc⟩:=hy (n,k) Qu hk'
    have e1:Z5 env.cells ((n,k)::r) acc=Z5 env.cells r ((n,c)::acc):=by
     show (if (k == NameKind.free)=true then _ else _)=_
     rw[hk,hc];rfl
    have e2:cellOf env n=pure c:=by
     unfold cellOf
     rw[hc]
    rw[e1,← ih ((n,c)::acc) fun z hz=>hy z (Ql _ hz)]
    simp only[hk,if_true,e2,pure_bind]
 have q:=go sc.names [] h
 unfold closureFor
 first
  | (rw[show (forIn sc.names ([]:List (Str×Addr)) _:Sem (List (Str×Addr)))=pure (Z5 env.cells sc.names []) from q];rfl)
  | (simp only[bind_pure];exact q)
  | exact q
theorem ZcK(cells:List (Str×Addr)):∀ (names:List (Str×NameKind)) (acc:List (Str×Addr)) (x:Str) (c:Addr),(Z5 cells names acc).lookup x=some c →
  (∃y∈names,y.1=x∧y.2=.free∧c=(cells.lookup x).getD 0)∨acc.lookup x=some c
 | [],acc,x,c,h=>.inr h
 | (n,k)::r,acc,x,c,h=>by
  by_cases hk:(k == NameKind.free)=true
  ·have e:Z5 cells ((n,k)::r) acc=Z5 cells r ((n,(cells.lookup n).getD 0)::acc):=by
    show (if (k == NameKind.free)=true then _ else _)=_
    rw[if_pos hk]
   rw[e]at h
   rcases ZcK cells r _ x c h with⟨y,hy,q⟩|q
   ·exact .inl ⟨y,Ql _ hy,q⟩
   ·rw[Qat]at q
    by_cases hx:(x == n)=true
    ·rw[hx]at q
     have hx':x=n:=by simpa using hx
     subst hx'
     exact .inl ⟨(x,k),Qu,rfl,by simpa using hk,(QM q).symm⟩
    ·have hx':(x == n)=false:=by simpa using hx
     rw[hx']at q
     exact .inr q
  ·have e:Z5 cells ((n,k)::r) acc=Z5 cells r acc:=by
    show (if (k == NameKind.free)=true then _ else _)=_
    rw[if_neg hk]
   rw[e]at h
   rcases ZcK cells r _ x c h with⟨y,hy,q⟩|q
   ·exact .inl ⟨y,Ql _ hy,q⟩
   ·exact .inr q
theorem Zew(cells:List (Str×Addr)):∀ (names:List (Str×NameKind)) (acc:List (Str×Addr)) (x:Str),((∃y∈names,y.1=x∧y.2=.free)∨∃c,acc.lookup x=some c) →
  ∃c,(Z5 cells names acc).lookup x=some c
 | [],acc,x,h=>by
  rcases h with⟨y,hy,_⟩|h
  ·cases hy
  ·exact h
 | (n,k)::r,acc,x,h=>by
  by_cases hk:(k == NameKind.free)=true
  ·have e:Z5 cells ((n,k)::r) acc=Z5 cells r ((n,(cells.lookup n).getD 0)::acc):=by
    show (if (k == NameKind.free)=true then _ else _)=_
    rw[if_pos hk]
   rw[e]
   refine Zew cells r _ x ?_
   by_cases hx:(x == n)=true
   ·exact .inr ⟨_,by rw[Qat,hx]⟩
   ·have hx':(x == n)=false:=by simpa using hx
    rcases h with⟨y,hy,q⟩|⟨c,q⟩
    ·rcases QK.mp hy with rfl|hy
     ·exact absurd (by simpa using q.1.symm) hx
     ·exact .inl ⟨y,hy,q⟩
    ·exact .inr ⟨c,by rw[Qat,hx'];exact q⟩
  ·have e:Z5 cells ((n,k)::r) acc=Z5 cells r acc:=by
    show (if (k == NameKind.free)=true then _ else _)=_
    rw[if_neg hk]
   rw[e]
   refine Zew cells r _ x ?_
   rcases h with⟨y,hy,q⟩|h
   ·rcases QK.mp hy with rfl|hy
    ·exact absurd (by simpa using q.2) hk
    ·exact .inl ⟨y,hy,q⟩
   ·exact .inr h
structure ZN (N N':List Str) (o c:Scope):Prop where
 kind:c.kind=.function
 okind:o.kind=.function
 nocell:∀y∈c.names,y.2≠.cell
 loc:∀y∈c.names,y.2=.local→c.names.lookup y.1=some .local
 free:∀y∈c.names,y.2=.free→c.names.lookup y.1=some .free∧(o.names.lookup y.1=some .cell∨o.names.lookup y.1=some .free)
 len:N.length≤N'.length
 same:∀i∈List.range N.length,∀x∈N'[i]?,c.names.lookup x=some .local∨c.names.lookup x=some .free→c.names.lookup x=some .free∧N[i]? = some x
 nd:N'.Nodup
def ZI(X:Cx)(c:Scope)(N':List Str)(C:Addr)(s:Shared)(H:Hp)(fp:List Addr):Cx :=
 { X with N:=N',s₀:=s,H₀:=H,env:=compEnvC c (Z5 X.env.cells c.names []) C X.env,outer:=X.stack,stack:=X.stack,ex:=fp,fn:=fun _=>false,pn:=[],xe:=fun _ _=>False }
theorem ZcQ{env:Env}(hf:env.scope.kind=.function):∀ (names:List (Str×NameKind)) (x:Str),
  (names.map fun (p:Str×NameKind)=>if (p.2 == NameKind.free&&env.scope.kind == .function&&env.kindOf p.1 == some .cell)=true then (p.1,NameKind.cell) else (p.1,p.2)).lookup x =
   match names.lookup x with
   | some .free=>if env.kindOf x=some .cell then some .cell else some .free
   | k=>k
 | [],x=>rfl
 | (n,k)::r,x=>by
  have ih:=ZcQ hf r x
  rw[QE]
  by_cases hx:(x == n)=true
  ·have hx':x=n:=by simpa using hx
   subst hx'
   have e2:List.lookup x ((x,k)::r)=some k:=by rw[Qat];simp
   rw[e2]
   by_cases hk:k=.free
   ·subst hk
    by_cases hc:env.kindOf x=some .cell
    ·simp[List.lookup_cons,hf,hc]
    ·simp[List.lookup_cons,hf,hc]
   ·have hk':(k == NameKind.free)=false:=by simpa using hk
    rw[hk']
    simp only[Bool.false_and,Bool.false_eq_true,if_false,List.lookup_cons,beq_self_eq_true]
    all_goals (cases k<;>first|rfl|exact absurd rfl hk)
  ·have hx':(x == n)=false:=by simpa using hx
   have e2:List.lookup x ((n,k)::r)=List.lookup x r:=by rw[Qat,hx']
   rw[e2,← ih]
   by_cases hc:(k == NameKind.free&&env.scope.kind == .function&&env.kindOf n == some .cell)=true
   ·simp only[hc,if_true,List.lookup_cons,hx']
   ·simp only[hc,if_false,List.lookup_cons,hx',Bool.false_eq_true]
section
variable {X:Cx} {N N':List Str} {o c:Scope}
theorem Zce(S:ZN N N' o c)(ho:X.env.scope=o)(cl:List (Str×Addr))(C:Addr)(x:Str):(compEnvC c cl C X.env).kindOf x =
  match c.names.lookup x with
  | some .free=>if X.env.kindOf x=some .cell then some .cell else some .free
  | k=>k:=ZcQ (env:=X.env) (by rw[ho];exact S.okind) c.names x
theorem Zcj{names:List (Str×NameKind)}{x:Str}{k:NameKind}(h:names.lookup x=some k):(x,k)∈names:=Q9 h
theorem ZbJ(S:ZN N N' o c)(ho:X.env.scope=o)(ok:X.Ok){x:Str}{a:Addr}(h:(Z5 X.env.cells c.names []).lookup x=some a) :
  X.env.cells.lookup x=some a∧c.names.lookup x=some .free:=by
 rcases ZcK _ _ _ _ _ h with⟨y,hy,rfl,hf,e⟩|q
 ·have hk:=S.free y hy hf
  have hv:X.env.kindOf y.1=some .cell∨X.env.kindOf y.1=some .free:=by
   show X.env.scope.names.lookup y.1=_∨X.env.scope.names.lookup y.1=_
   rw[ho];exact hk.2
  obtain⟨b,hb⟩:=ok.has y.1 hv
  rw[hb]at e
  exact⟨by rw[hb,e];rfl,hk.1⟩
 ·cases q
theorem ZgH(S:ZN N N' o c)(ho:X.env.scope=o)(ok:X.Ok){x:Str}(h:c.names.lookup x=some .free):∃a,(Z5 X.env.cells c.names []).lookup x=some a∧X.env.cells.lookup x=some a:=by
 obtain⟨a,ha⟩:=Zew X.env.cells c.names [] x (.inl ⟨(x,.free),Zcj h,rfl,rfl⟩)
 exact⟨a,ha,(ZbJ S ho ok ha).1⟩
theorem ZlO(S:ZN N N' o c)(ho:X.env.scope=o){pins:List (Addr×Obj)}{σ:St}{H:Hp}{s:Shared}{fp:List Addr}(I:Inv X pins σ H s)
  (hf:∀b∈fp,ZcR X pins H b) (ht:∀b∈fp,b<s.heap.objs.size):(ZI X c N' s.heap.objs.size s H fp).Ok where
 mod:=I.ok.mod
 kind:=S.kind
 glob:=I.ok.glob
 blt:=I.ok.blt
 above:=Qd _
 inj:=fun x y a h1 h2=>I.ok.inj x y a (ZbJ S ho I.ok h1).1 (ZbJ S ho I.ok h2).1
 has:=fun x hx=>by
  have e:=Zce (X:=X) S ho (Z5 X.env.cells c.names []) s.heap.objs.size x
  have hx':(compEnvC c (Z5 X.env.cells c.names []) s.heap.objs.size X.env).kindOf x=some .cell∨(compEnvC c (Z5 X.env.cells c.names []) s.heap.objs.size X.env).kindOf x=some .free:=hx
  rw[e]at hx'
  cases q:c.names.lookup x with
  | none=>rw[q]at hx';rcases hx' with z|z<;>cases z
  | some k =>
   by_cases hk:k=.free
   ·subst hk
    obtain⟨a,ha,_⟩:=ZgH S ho I.ok q
    exact⟨a,ha⟩
   ·rw[q]at hx'
    have hc:k=.cell:=by
     cases k<;>first|rfl|exact absurd rfl hk|(rcases hx' with z|z<;>cases z)
    subst hc
    exact absurd rfl (S.nocell _ (Zcj q))
 cab:=fun x a h=>by cases (show false=true from h)
 hd:=I.ok.hd
 frames:=I.ok.frames
 stk:=.inl rfl
 exf:=fun b hb=>⟨Qx (ht b hb),fun x a h=>(hf b hb).2.2.2.2.1 x a (ZbJ S ho I.ok h).1⟩
 bs:=fun b ob e=>I.bs b ob e
 bsz:=QI I.ok.bsz I.sz
 noex:=fun b ob e hb=>by
  rcases(hf b hb).2.2.2.1 with z|z
  ·exact I.ok.noex b ob e z
  ·exact absurd (Qy (Qo e) (QI I.ok.bsz z)) (QX _)
 exfs:=fun b hb hb'=>by
  rcases QK.mp (I.stkSub b hb') with z|z
  ·exact(hf b hb).2.1 z
  ·exact(hf b hb).2.2.1 z
 funs:=I.stack
 frf:=I.stkFree
theorem Zem(S:ZN N N' o c)(hN:X.N=N)(ho:X.env.scope=o){pins:List (Addr×Obj)}{σ:St}{H:Hp}{s:Shared}{fp:List Addr}{h₁:Heap}{tk:Nat}{m₀:Str→Option Value}(I:Inv X pins σ H s)
  (hf:∀b∈fp,ZcR X pins H b) (ht:∀b∈fp,b<s.heap.objs.size) (hns:h₁.Ns s.heap.objs.size m₀) (hk:∀b ob,s.heap.get? b=some ob→h₁.get? b=some ob) :
  Inv (ZI X c N' s.heap.objs.size s H fp) [] (σ++List.replicate (N'.length-N.length) none) H { s with heap:=h₁,toks:=tk } where
 ok:=ZlO S ho I hf ht
 os:=rfl
 bare:=I.bare
 base:=Un.kept hk
 loc:=by
  refine⟨m₀,hns,fun i x v e1 e2 e3=>?_⟩
  obtain⟨m,hn,hl⟩:=I.loc
  have hlen:σ.length=N.length:=by rw[I.len,hN]
  have hi:i<σ.length:=by
   by_cases hi:i<σ.length
   ·exact hi
   ·rw[Qar (by omega),List.getElem?_replicate]at e2
    split at e2<;>cases e2
  have e2':σ[i]? = some (some v):=by rw[Qau hi]at e2;exact e2
  have kd:=Zce (X:=X) S ho (Z5 X.env.cells c.names []) s.heap.objs.size x
  have vis:c.names.lookup x=some .local∨c.names.lookup x=some .free:=by
   have e3':(compEnvC c (Z5 X.env.cells c.names []) s.heap.objs.size X.env).kindOf x=some .local∨(compEnvC c (Z5 X.env.cells c.names []) s.heap.objs.size X.env).kindOf x=some .cell∨(compEnvC c (Z5 X.env.cells c.names []) s.heap.objs.size X.env).kindOf x=some .free:=e3
   rw[kd]at e3'
   cases q:c.names.lookup x with
   | none=>rw[q]at e3';rcases e3' with z|z|z<;>cases z
   | some k =>
    cases k with
    | «local»=>exact .inl rfl
    | free=>exact .inr rfl
    | cell=>exact absurd rfl (S.nocell _ (Zcj q))
    | _=>rw[q]at e3';rcases e3' with z|z|z<;>cases z
  obtain⟨hfr,hNi⟩:=S.same i (QJ.mpr (by omega)) x (by rw[show N'[i]? = some x from e1];rfl) vis
  have hok:X.env.kindOf x=some .cell∨X.env.kindOf x=some .free:=by
   show X.env.scope.names.lookup x=_∨X.env.scope.names.lookup x=_
   rw[ho];exact(S.free _ (Zcj hfr) rfl).2
  obtain⟨u,r,l⟩:=hl i x v (by rw[hN];exact hNi) e2' (.inr hok)
  refine⟨u,r,.inr ⟨?_,?_⟩⟩
  ·show (compEnvC c (Z5 X.env.cells c.names []) s.heap.objs.size X.env).kindOf x=some .cell∨(compEnvC c (Z5 X.env.cells c.names []) s.heap.objs.size X.env).kindOf x=some .free
   rw[kd,hfr]
   show (if X.env.kindOf x=some .cell then some NameKind.cell else some NameKind.free)=some .cell∨(if X.env.kindOf x=some .cell then some NameKind.cell else some NameKind.free)=some .free
   by_cases q:X.env.kindOf x=some .cell
   ·rw[if_pos q];exact .inl rfl
   ·rw[if_neg q];exact .inr rfl
  ·obtain⟨a,ha,ha'⟩:=ZgH S ho I.ok hfr
   refine⟨a,ha,?_⟩
   rcases l with⟨z,_⟩|⟨_,a',e,ob,hob,hd⟩
   ·rcases hok with q|q<;>rw[q]at z<;>cases z
   ·rw[ha']at e;cases e
    exact⟨ob,hk _ _ hob,hd⟩
 cell:=fun x a h=>by
  obtain⟨v,ob,e,d⟩:=I.cell x a (ZbJ S ho I.ok h).1
  exact⟨v,ob,hk _ _ e,d⟩
 free:=I.hok.fresh (Qd _)
 freeC:=fun x a h=>I.freeC x a (ZbJ S ho I.ok h).1
 pin:=fun p hp=>absurd (show p∈([]:List (Addr×Obj)) from hp) (by simp)
 hok:=I.hok.kept hk
 len:=by
  have hlen:σ.length=N.length:=by rw[I.len,hN]
  have:=S.len
  show (σ++List.replicate (N'.length-N.length) none).length=N'.length
  rw[Qe,List.length_replicate]
  omega
end
abbrev ZfH(ifs:List Expr)(env:Env):Sem Bool :=
 forIn ifs true fun k r=>if r=true then do let ok ← isTrue k env (eval k env);pure (ForInStep.yield ok) else pure (ForInStep.yield r)
def PTs(X:Cx)(ifs:List Expr)(t:TT):Prop :=
 ∀ (pins:List (Addr×Obj)) (s:Shared) (σ:St) (H:Hp) (Q:Bool→Hp→Prop),Inv X pins σ H s→t σ H Q→wpAny (model X.prog X.w) X.A (ZfH ifs X.env) (TP X pins σ Q) X.xe s
def ZdV:TT:=fun _ H Q=>Q true H
theorem ZaE{X:Cx}:PTs X [] ZdV:=fun _ _ _ H _ I h=>wpAny_tests_nil ⟨H,I,h⟩
theorem Zix{X:Cx}{e:Expr}{t:TT}(h:PT X e t):PTs X [e] t:=fun pins s σ H Q I q=>wpAny_tests_one (h pins s σ H Q I q)
section
variable {prog:Program} {w:World} {A:Around} {R:Result→Shared→Prop} {s:Shared}
theorem Zfw{elt target iter:Expr}{ifs:List Expr}{scope:Scope}{pos:Pos}{it acc:Value}{env:Env}{E:Value→Shared→Prop}(I:Nat→Shared→Prop)
  (hE:∀e s',E e s'→False)
  (turn:∀n s,I n s→wpAny (model prog w) A (pyNext it) (fun r s₁=>match r with
   | none=>R (.ok .next) s₁
   | some v=>wpAny (model prog w) A (letOwnedTupleGo target it v) (fun _ s₀=>wpAny (model prog w) A (assign target env v) (fun _ s₂ =>
     wpAny (model prog w) A (ZfH ifs env) (fun ok s₃ =>
      if ok=true then wpAny (model prog w) A (eval elt env) (fun x s₄ =>
       wpAny (model prog w) A (call (.builtin "list.append") [acc,x]) (fun _ s₅=>∃m,m<n∧I m s₅) E s₄) E s₃
      else ∃m,m<n∧I m s₃) E s₂) E s₀) E s₁) E s)
  (n:Nat) (h:I n s):codeAny (model prog w) A (.compLoop (.ListComp elt [⟨target,iter,ifs,0⟩] scope pos) 0 it acc env) R s:=by
 have go:∀ {α:Type} {t:Sem α} {Q:α→Shared→Prop} {s:Shared},wpAny (model prog w) A t Q E s→wpAny (model prog w) A t Q (notedBy (model prog w) A env fun e s'=>R (.error e) s') s :=
  fun {α t Q s} q=>wpAny_mono q (fun _ _ z=>z) fun e s' z=>(hE e s' z).elim
 refine codeAny_loop rfl I (fun n s hI=>?_) n h
 show wpAny _ A ((compTurn (.ListComp elt [⟨target,iter,ifs,0⟩] scope pos) 0 it acc env).onRaise (fun x=>do noteFrame x env;theTreesLotGoes x)) _ _ s
 refine wpAny_noted ?_
 rw[compTurn_list]
 refine wpAny_bind (wpAny_standAt (wpAny_bind (thn (go (turn n s hI)) fun r s₁ h₁=>?_)))
 cases r with
 | none=>exact wpAny_pure h₁
 | some v =>
  refine wpAny_bind (thn (go h₁) fun _ s₀ h₀=>wpAny_bind (thn (go h₀) fun _ s₂ h₂=>wpAny_bind (thn (go h₂) fun ok s₃ h₃=>?_)))
  cases ok with
  | false=>exact wpAny_pure ⟨rfl,h₃⟩
  | true =>
   exact wpAny_bind (wpAny_bind (thn (go h₃) fun x s₄ h₄=>wpAny_bind (thn (go h₄) fun _ s₅ h₅=>wpAny_pure (wpAny_pure ⟨rfl,h₅⟩))))
end
def ZdM(J:It)(D:Addr)(k:Nat)(σ:St)(H1:Hp)(g:TG)(tc:TT)(te:TE)(Q:VK):Prop :=
 ∃W:Nat→Nat→List V→St→Hp→Prop,(∃m,W 0 m [] (σ++List.replicate k none) (upd H1 D (.lst []))) ∧
  ∀i m ys σ2 H2,W i m ys σ2 H2→(J.stop i H2∧Q (.ref D) H2) ∨
   (J.go i H2∧∃N:List V→St→Hp→Prop,(∀ys' σ' H',N ys' σ' H'→∃m',m'<m∧W (i+1) m' ys' σ' H')∧∀x H3,J.yld i H2 x H3→g x σ2 H3 fun σ4 H4=>tc σ4 H4 fun b H5 =>
    if b=true then te σ4 H5 fun y H6=>H6 D=some (.lst ys)∧ys.length<sizeLine∧N (ys++[y]) σ4 (upd H6 D (.lst (ys++[y]))) else N ys σ4 H5)
def Zmc(n:Nat)(wi:TI)(g:TG)(tc:TT)(te:TE):TE:=fun σ H Q=>wi σ H fun J H1=>∀D,H1 D=none→ZdM J D n σ H1 g tc te Q
section
variable {X:Cx} {N N':List Str} {o c:Scope}
theorem ZjB{elt tg iter:Expr}{ifs:List Expr}{pos pos':Pos}{wi:TI}{g:TG}{tc:TT}{te:TE}{use:Option (Value→Sem Unit)}{QQ:Value→Shared→Prop}(S:ZN N N' o c)(hN:X.N=N)(ho:X.env.scope=o)(hc:X.calm=true)
  (hi:PI X tg iter wi) (hg:∀C s H fp,PG (ZI X c N' C s H fp) tg g) (ht:∀C s H fp,PTs (ZI X c N' C s H fp) ifs tc) (he:∀C s H fp,PE (ZI X c N' C s H fp) elt te)
  (hs:∀x,foldedSetIterable iter X.env x=pure x) {pins:List (Addr×Obj)} {s:Shared} {σ:St} {H:Hp} {Q:VK} (I:Inv X pins σ H s) (h:Zmc (N'.length-N.length) wi g tc te σ H Q)
  (post:∀ (D C:Addr) (s5:Shared) (H5:Hp) (m:Str→Option Value),Inv X pins σ H5 s5→H5 C=none→s5.heap.Ns C m→C≠X.env.locals→X.s₀.heap.objs.size≤C→(∀x a,X.env.cells.lookup x=some a→a≠C)→(∀p∈X.pn++pins,p.1≠C) →
   Q (.ref D) H5→compPost (model X.prog X.w) X.A X.xe use QQ (.ref D) C (.ok .next) s5) :
  wpAny (model X.prog X.w) X.A (comprehension (.ListComp elt [⟨tg,iter,ifs,0⟩] c pos) c X.env pos' (newList []) false (eval iter X.env) use) QQ X.xe s:=by
 have hclos:closureFor c X.env=pure (Z5 X.env.cells c.names []):=Zb6 fun y hy hf=>by
  refine I.ok.has y.1 ?_
  show X.env.scope.names.lookup y.1=_∨X.env.scope.names.lookup y.1=_
  rw[ho];exact(S.free y hy hf).2
 refine wpAny_comprehension_free (use:=use) rfl hs hclos S.kind S.loc (thn (hi pins s σ H _ I h) fun v s1 h1=>thn h1 fun itv s2 h2=>?_)
 obtain⟨it,fp,tn,J,H2,e,I2,T,st2,f2,hR⟩:=h2
 subst e
 have hD:H2 s2.heap.objs.size=none:=I2.fresh
 have I3:Inv X pins σ (upd H2 s2.heap.objs.size (.lst [])) { s2 with heap:=s2.heap.push { cls:=.type "list",data:=.seq ([]:List Value).toArray } } :=
  I2.lnew (ys:=[]) (its:=[]) (t':=s2.toks) .nil (Qm _)
 have fpl:∀b∈fp,b<s2.heap.objs.size:=fun b hb=>by
  obtain⟨ob,e,_⟩:=T.obj 0 _ st2 b hb
  exact Qo e
 refine wpAny_newObj_type (wpAny_newFunctionEnv S.nocell (by intro y hy;simp at hy) (fun h₁ hns₁ hsb₁=>?_) S.kind)
 have e3:∃s3:Shared,s3={ s2 with heap:=s2.heap.push { cls:=.type "list",data:=.seq ([]:List Value).toArray } }:=⟨_,rfl⟩
 obtain⟨s3,hs3⟩:=e3
 have e3:s3.heap=s2.heap.push { cls:=.type "list",data:=.seq ([]:List Value).toArray }:=by rw[hs3]
 have sz3:s3.heap.objs.size=s2.heap.objs.size+1:=by rw[e3,Q1]
 have fpl3:∀b∈fp,b<s3.heap.objs.size:=fun b hb=>Qy (fpl b hb) (by rw[sz3];exact QaM _)
 have f3:∀b∈fp,ZcR X pins (upd H2 s2.heap.objs.size (.lst [])) b:=fun b hb=>⟨by rw[Zi (Qx (fpl b hb))];exact(f2 b hb).1,(f2 b hb).2⟩
 have st3:tn 0 s3.heap:=T.keep 0 _ _ st2 fun b _ ob e=>by rw[e3];exact Qb _ e
 rw[← hs3]at I3
 show codeAny (model X.prog X.w) X.A (.compStart _ 0 (.ref it) (.ref s2.heap.objs.size) (compEnvC c (Z5 X.env.cells c.names []) (s2.heap.push { cls:=.type "list",data:=.seq ([]:List Value).toArray }).objs.size X.env))
  (compPost (model X.prog X.w) X.A X.xe use QQ (.ref s2.heap.objs.size) (s2.heap.push { cls:=.type "list",data:=.seq ([]:List Value).toArray }).objs.size)
  { s2 with heap:=h₁,toks:=s2.toks+([]:List (Str×Value)).length }
 have hns:h₁.Ns s3.heap.objs.size (fun x=>([]:List (Str×Value)).reverse.lookup x):=by rw[e3];exact hns₁
 have hk1:∀b ob,s3.heap.get? b=some ob→h₁.get? b=some ob:=fun b ob e=>by
  rw[e3]at e
  exact hsb₁.extBut b ob (Qx (Qo e)) (Qb _ e)
 rw[← e3]
 have es4:({ s2 with heap:=h₁,toks:=s2.toks+([]:List (Str×Value)).length }:Shared)={ s3 with heap:=h₁,toks:=s2.toks }:=by rw[hs3];rfl
 rw[es4]
 obtain⟨W,⟨m0,w0⟩,turn⟩:=hR s2.heap.objs.size hD
 have I4:=Zem (tk:=s2.toks) S hN ho I3 f3 fpl3 hns hk1
 have st4:tn 0 h₁:=T.keep 0 _ _ st3 fun b _ ob e=>hk1 b ob e
 generalize hX:ZI X c N' s3.heap.objs.size s3 (upd H2 s2.heap.objs.size (.lst [])) fp=Y at I4
 have Yp:Y.prog=X.prog:=by rw[← hX];rfl
 have Yw:Y.w=X.w:=by rw[← hX];rfl
 have YK:Y.K=X.K:=by rw[← hX];rfl
 have Yc:Y.calm=true:=by rw[← hX];exact hc
 have YA:Y.A=X.A:=by rw[← hX];rfl
 have Yenv:Y.env=compEnvC c (Z5 X.env.cells c.names []) s3.heap.objs.size X.env:=by rw[← hX];rfl
 have Yl:Y.env.locals=s3.heap.objs.size:=by rw[Yenv];rfl
 have Yxe:Y.xe=fun _ _=>False:=by rw[← hX];rfl
 have hg':=hg s3.heap.objs.size s3 (upd H2 s2.heap.objs.size (.lst [])) fp
 have ht':=ht s3.heap.objs.size s3 (upd H2 s2.heap.objs.size (.lst [])) fp
 have he':=he s3.heap.objs.size s3 (upd H2 s2.heap.objs.size (.lst [])) fp
 rw[hX]at hg' ht' he'
 have stat:∀ {H':Hp},(∀b∈fp,H' b=none)→∀b∈fp,ZcR Y [] H' b:=fun {H'} hn b hb=>by
  obtain⟨_,q1,q2,q3,q4,_⟩:=f3 b hb
  have z1:=I4.ok.exf b (by rw[← hX];exact hb)
  refine⟨hn b hb,z1.1,I4.ok.exfs b (by rw[← hX];exact hb),.inl (by rw[← hX];exact hb),z1.2,fun p hp=>?_⟩
  have hp':p∈([]:List (Addr×Obj)):=by
   have:Y.pn=[]:=by rw[← hX];rfl
   rw[this]at hp;exact hp
  cases hp'
 have fin:∀ (s5:Shared) (σ5:St) (H5:Hp),Inv Y [] σ5 H5 s5→Q (.ref s2.heap.objs.size) H5→compPost (model X.prog X.w) X.A X.xe use QQ (.ref s2.heap.objs.size) s3.heap.objs.size (.ok .next) s5:=fun s5 σ5 H5 I5 q=>by
  obtain⟨m,hn,_⟩:=id I5.loc
  rw[Yl]at hn
  have hCn:H5 s3.heap.objs.size=none:=by have:=I5.free;rw[Yl]at this;exact this
  have un:Un (frs X.stack) fp (upd H2 s2.heap.objs.size (.lst [])) H5 s3.heap s5.heap:=by
   have:=I5.base
   rw[← hX]at this
   exact this
  have os5:s5.os=s3.os:=by have:=I5.os;rw[← hX]at this;exact this
  have hok5:HOk X.prog X.w H5 s5.heap:=by
   have:=I5.hok
   rw[Yp,Yw]at this
   exact this
  refine post _ _ s5 H5 m (I3.call' (s':=s5) (ch:=fp) os5 un hok5 I5.bare fun b hb=>?_) hCn hn (QZ I3.lt) I3.sz (fun x a e=>?_) (fun p hp=>?_) q
  ·obtain⟨_,q1,_,q3,q4,q5⟩:=f3 b hb
   exact⟨q3,q1,q4,q5⟩
  ·obtain⟨v,ob,e',_⟩:=I3.cell x a e
   exact Qx (Qo e')
  ·exact Qx (Qo (I3.pin p hp).1)
 have loop:codeAny (model X.prog X.w) X.A (.compLoop (.ListComp elt [⟨tg,iter,ifs,0⟩] c pos) 0 (.ref it) (.ref s2.heap.objs.size) (compEnvC c (Z5 X.env.cells c.names []) s3.heap.objs.size X.env))
   (compPost (model X.prog X.w) X.A X.xe use QQ (.ref s2.heap.objs.size) s3.heap.objs.size) { s3 with heap:=h₁,toks:=s2.toks }:=by
  rw[← Yenv,← YA]
  refine Zfw (E:=fun _ _=>False) (fun n s'=>∃i ys σ' H',Inv Y [] σ' H' s'∧tn i s'.heap∧(∀b∈fp,H' b=none)∧W i n ys σ' H') (fun _ _ z=>z) ?_ m0
   ⟨0,[],_,_,I4,st4,fun b hb=>(f3 b hb).1,?_⟩
  ·rintro n s5 ⟨i,ys,σ5,H5,I5,st5,fr5,w5⟩
   rcases turn i n ys σ5 H5 w5 with⟨stop,qn⟩|⟨go,Nn,hNn,step⟩
   ·refine thn (T.done Y Yp Yw YK Yc i [] s5 σ5 H5 _ I5 (stat fr5) st5 stop) ?_
    rintro r s6 ⟨hr,I6⟩
    subst hr
    have fq:=fin s6 σ5 H5 I6 qn
    rw[← YA]at fq
    exact fq
   ·refine thn (T.item Y Yp Yw YK Yc i [] s5 σ5 H5 _ I5 (stat fr5) st5 go) ?_
    rintro r s6 ⟨u,hr,h6⟩
    subst hr
    refine thn h6 ?_
    rintro _ s7 ⟨x,H7,I7,r7,y7,st7,fr7⟩
    have I7':=I7.pinned (stat fr7) (T.obj _ _ st7)
    have back:∀ {σ9:St} {H9:Hp} {s9:Shared},Inv Y ([]++ZbC fp s7.heap) σ9 H9 s9→Inv Y [] σ9 H9 s9∧tn (i+1) s9.heap∧∀b∈fp,H9 b=none:=fun {σ9 H9 s9} I9=>by
     refine⟨I9.unpinned,T.keep _ _ _ st7 fun b hb ob e=>(I9.pin (b,ob) (Qs _ (Qs _ (Zaj hb e)))).1,fun b hb=>?_⟩
     obtain⟨ob,e,d⟩:=T.obj _ _ st7 b hb
     exact(I9.pin (b,ob) (Qs _ (Qs _ (Zaj hb e)))).2.1
    have P1:=hg' _ s7 σ5 H7 x u _ I7' r7 (step x H7 y7)
    rw[Yp,Yw,Yxe]at P1
    refine thn P1 ?_
    rintro _ s8 ⟨σ8,H8,I8,q8⟩
    have P2:=ht' _ s8 σ8 H8 _ I8 q8
    rw[Yp,Yw,Yxe]at P2
    refine thn P2 ?_
    rintro ok s9 ⟨H9,I9,q9⟩
    cases ok with
    | false =>
     rw[if_neg Qj]at q9
     rw[if_neg Qj]
     obtain⟨b1,b2,b3⟩:=back I9
     obtain⟨m',hm',w9⟩:=hNn _ _ _ q9
     exact⟨m',hm',i+1,ys,σ8,H9,b1,b2,b3,w9⟩
    | true =>
     rw[if_pos rfl]at q9
     rw[if_pos rfl]
     have P3:=he' _ s9 σ8 H9 _ I9 q9
     rw[Yp,Yw,Yxe]at P3
     refine thn P3 ?_
     rintro y s10 ⟨vy,H10,I10,r10,hDl,hsz,q10⟩
     have P4:=ZaS (X:=Y) _ s10 σ8 H10 (.ref s2.heap.objs.size) [vy] (.ref s2.heap.objs.size) [y] (fun _ H'=>Nn (ys++[vy]) σ8 H') I10 rfl (.cons r10 .nil) ⟨_,ys,vy,rfl,rfl,hDl,hsz,q10⟩
     rw[Yp,Yw,Yxe]at P4
     refine thn P4 ?_
     rintro _ s11 ⟨_,H11,I11,_,q11⟩
     obtain⟨b1,b2,b3⟩:=back I11
     obtain⟨m',hm',w11⟩:=hNn _ _ _ q11
     exact⟨m',hm',i+1,ys++[vy],σ8,H11,b1,b2,b3,w11⟩
  ·exact w0
 have lp:=T.self X.A 0 { s3 with heap:=h₁,toks:=s2.toks } (fun it' s'=>codeAny (model X.prog X.w) X.A (.compLoop (.ListComp elt [⟨tg,iter,ifs,0⟩] c pos) 0 it' (.ref s2.heap.objs.size) (compEnvC c (Z5 X.env.cells c.names []) s3.heap.objs.size X.env))
   (compPost (model X.prog X.w) X.A X.xe use QQ (.ref s2.heap.objs.size) s3.heap.objs.size) s') (fun _ _=>False) st4 loop
 exact codeAny_compStart_list loop (wpAny_mono lp (fun _ _ z=>z) fun _ _ z=>z.elim)
theorem Inv.let{pins:List (Addr×Obj)}{σ:St}{H:Hp}{s:Shared}{C:Addr}{h':Heap}(I:Inv X pins σ H s)(hn:H C=none)(hL:C≠X.env.locals)(h1:X.s₀.heap.objs.size≤C)
  (h2:∀x a,X.env.cells.lookup x=some a→a≠C) (h3:∀p∈X.pn++pins,p.1≠C) (hs:Heap.SameBut C s.heap h'):Inv X pins σ H { s with heap:=h' } :=
 I.turned (t':=s.toks) (fun b ob hb e=>hs.extBut b ob hb e) hn hL (.inr h1) h2 h3
theorem ZaD{elt tg iter:Expr}{ifs:List Expr}{pos:Pos}{wi:TI}{g:TG}{tc:TT}{te:TE}(S:ZN N N' o c)(hN:X.N=N)(ho:X.env.scope=o)(hc:X.calm=true)
  (hi:PI X tg iter wi) (hg:∀C s H fp,PG (ZI X c N' C s H fp) tg g) (ht:∀C s H fp,PTs (ZI X c N' C s H fp) ifs tc) (he:∀C s H fp,PE (ZI X c N' C s H fp) elt te)
  (hs:∀x,foldedSetIterable iter X.env x=pure x:=by intro _;rfl) :
  PE X (.ListComp elt [⟨tg,iter,ifs,0⟩] c pos) (Zmc (N'.length-N.length) wi g tc te):=by
 intro pins s σ H Q I h
 rw[eval_ListComp]
 refine ZjB (use:=none) S hN ho hc hi hg ht he hs I h fun D C s5 H5 m I5 hCn hn n1 n2 n3 n4 q=>⟨m,hn,fun h' hsb=>?_⟩
 exact⟨.ref D,H5,I5.let hCn n1 n2 n3 n4 hsb,rfl,q⟩
end
section
variable {X:Cx}
def Zns(K:PySem.W.Frag):List V→Hp→VK→Prop:=fun xs H Q=>∃x c t b,xs=[x,.ty c]∧Zdu K H x t∧PySem.W.kitOne K t (.type c)=some b∧Q (.bl b) H
theorem Zkw:Z8 X (.builtin "isinstance") (Zns X.K):=by
 intro pins s σ H xs us Q I r h
 obtain⟨x,c,t,b,rfl,ty,e,q⟩:=h
 obtain⟨u,w',rfl,rx,rc⟩:=ZkI r
 cases rc
 exact Zjl I rx ty e fun tk=>⟨.bl b,H,I.tok _,rfl,q⟩
theorem Zkd(hc:X.calm=true):Z8 X (.builtin "all") (fun xs H Q=>∃ (p:Addr) (bs:List Bool),xs=[.ref p]∧SqL X.K H p (bs.map V.bl)∧Q (.bl (bs.all id)) H):=by
 intro pins s σ H xs us Q I r h
 obtain⟨p,bs,rfl,hq,q⟩:=h
 obtain⟨u,rfl,rx⟩:=ZbD r
 cases rx
 obtain⟨its,rv,pl,hz⟩:=I.list hq
 have hl:=pl.isList
 have hlt:p<s.heap.objs.size:=by obtain⟨_,e,_⟩:=hl;exact Qo e
 refine call_all_walk (wpAny_pyIter_list hl ?_)
 refine⟨s.heap.objs.size,[s.heap.objs.size,p],[s.heap.objs.size],its.toArray.size,_,_,fun i=>(bs[i]?).getD true,rfl,Walks.list (A:=X.A.in1) (I.ok.hd hc) _ p (Qx hlt) its.toArray,
  ⟨⟨_,Qp _ rfl,rfl,rfl⟩,hl.push _⟩,fun i v s' Q' E' hP hQ=>?_,fun h' tk hk=>?_⟩
 ·have hP':its[i]? = some v:=by simpa using hP
  have hi:i<its.length:=(Qi.mp hP').1
  have hlen:=rv.length
  have hb:(bs.map V.bl)[i]? = some (V.bl (bs[i]'(by rw[Qa]at hlen;omega))):=by
   rw[Qt,Qc (by rw[Qa]at hlen;omega)];rfl
  obtain⟨u',hu',ru'⟩:=rv.get hb
  rw[hP']at hu';cases hu'
  obtain rfl:v=Value.bool _:=ru'
  have hQ2:Q' ((bs[i]?).getD true) s':=hQ
  rw[Qc (by rw[Qa]at hlen;omega)]at hQ2
  exact wpAny_truthy_bool hQ2
 ·have e:((List.range its.toArray.size).all fun i=>(bs[i]?).getD true)=bs.all id:=by
   have hlen:=rv.length
   rw[Qa]at hlen
   rw[Qq,← hlen,Qaz,List.all_eq_true,List.all_eq_true]
   constructor
   ·intro z b hb
    obtain⟨i,hi,rfl⟩:=List.mem_iff_getElem.mp hb
    have:=z i (QJ.mpr hi)
    rw[Qc hi]at this
    exact this
   ·intro z i hi
    have hi':=QJ.mp hi
    rw[Qc hi']
    exact z _ (Q5 hi')
  refine⟨.bl (bs.all id),H,I.kept fun b ob e'=>hk b ob (fun hm=>?_) (Qb _ e'),by rw[e];rfl,q⟩
  rw[Qg.mp hm]at e'
  exact QX _ (Qo e')
theorem ZfI:Z8 X (.builtin "sorted") (fun xs H Q=>∃ (p:Addr) (ns:List Int),xs=[.ref p]∧SqL X.K H p (ns.map V.int)∧ns.length<64 ∧
  ∀ (l:Addr) (ns':List Int),H l=none→ns'.Perm ns→ns'.Pairwise (·≤·)→Q (.ref l) (upd H l (.lst (ns'.map V.int)))):=by
 intro pins s σ H xs us Q I r h
 obtain⟨p,ns,rfl,hq,h64,q⟩:=h
 obtain⟨u,rfl,rx⟩:=ZbD r
 cases rx
 obtain⟨its,rv,pl,hz⟩:=I.list hq
 have hlen:=rv.length
 rw[Qa]at hlen hz
 refine sorted_ints pl.isList (Zcp rv) (by omega) fun out ns' a1 a2 a3=>?_
 obtain⟨e,he⟩:=sortedAll_at s.heap its out
 have hp:=a2.length_eq
 refine⟨.ref (s.heap.objs.size+1),_,I.laid (t':=s.toks) (o:=.lst (ns'.map V.int)) (fun _ _=>sortedAll_old) (QaM _) ⟨by rw[Qa];omega,out.toList,e,ZdR a1,by simpa using he⟩,rfl,q _ ns' (I.hok.fresh (QaM _)) a2 a3⟩
end
inductive Src where
 | l (a:Addr)|t (a:Addr)|s (z:Str)
def Src.val:Src→V
 | .l a=>.ref a
 | .t a=>.ref a
 | .s z=>.str z
def Zk6(c:Nat):V:=.str ⟨#[c]⟩
def Src.its(K:PySem.W.Frag)(H:Hp):Src→List V→Prop
 | .l a,xs=>SqL K H a xs
 | .t a,xs=>SqT K H a xs
 | .s z,xs=>xs=z.cps.toList.map Zk6
def Src.at(h:Heap)(i:Addr):Src→Nat→Prop
 | .l a,k=>h.IsListIter i a k
 | .t a,k=>h.IsTupleIter i a k
 | .s z,k=>∃tk,h.IsStrIter i (strIterType z) z tk k
def Src.raw(h:Heap):Src→List Value→Prop
 | .l a,us=>h.IsList a us.toArray
 | .t a,us=>h.IsTuple a us.toArray
 | .s _,_=>True
def Src.fit:Src→List Value→Nat→Value→Prop
 | .l _,us,k,u=>us[k]? = some u
 | .t _,us,k,u=>us[k]? = some u
 | .s z,_,k,u=>∃c tk,z.cps[k]? = some c∧u=.str ⟨#[c]⟩ tk
def Src.many:Src→List Value→Nat
 | .l _,us=>us.length
 | .t _,us=>us.length
 | .s z,_=>z.cps.size
def Src.off:Src→Addr→Prop
 | .l a,b=>a≠b
 | .t a,b=>a≠b
 | .s _,_=>True
theorem Src.at_obj{h:Heap}{i:Addr}:∀ {S:Src} {k:Nat},S.at h i k→∃o vs,h.get? i=some o∧o.data=.fields vs
 | .l _,_,⟨o,e,_,d⟩=>⟨o,_,e,d⟩
 | .t _,_,⟨o,e,_,d⟩=>⟨o,_,e,d⟩
 | .s _,_,⟨_,o,e,_,d⟩=>⟨o,_,e,d⟩
theorem Src.at_keep{h h':Heap}{i:Addr}(k':∀o,h.get? i=some o→h'.get? i=some o):∀ {S:Src} {k:Nat},S.at h i k→S.at h' i k
 | .l _,_,⟨o,e,d⟩=>⟨o,k' o e,d⟩
 | .t _,_,⟨o,e,d⟩=>⟨o,k' o e,d⟩
 | .s _,_,⟨tk,o,e,d⟩=>⟨tk,o,k' o e,d⟩
theorem Src.raw_keep{h h':Heap}{b:Addr}(k':∀c o,c≠b→h.get? c=some o→h'.get? c=some o):∀ {S:Src} {us:List Value},S.off b→S.raw h us→S.raw h' us
 | .l _,_,f,⟨o,e,d⟩=>⟨o,k' _ o f e,d⟩
 | .t _,_,f,⟨o,e,d⟩=>⟨o,k' _ o f e,d⟩
 | .s _,_,_,_=>trivial
section
variable {prog:Program} {w:World} {A:Around} {E:Value→Shared→Prop} {s:Shared}
theorem Zfu{it t:Addr}{i:Nat}{items:Array Value}{x:Value}{Q:Value→Shared→Prop}(hit:s.heap.IsTupleIter it t i)(ht:s.heap.IsTuple t items)(hx:items[i]? = some x)
  (hQ:∀h',h'.IsTupleIter it t (i+1)→Heap.SameBut it s.heap h'→Q x { s with heap:=h' }):wpAny (model prog w) A (Builtin.SmallTypes.nextOf (.ref it)) Q E s:=by
 obtain⟨o,ho,hc,hd⟩:=id hit
 obtain⟨ol,hol,_,nl,hdl⟩:=ht
 unfold Builtin.SmallTypes.nextOf
 refine wpAny_bind (wpAny_callSpecial?_slot (name:=Str.ofString "__next__") hit.typeIs F.slot_tuple_iterator_next
  (wpAny_call_entry F.slot_tuple_iterator_next hit.typeIs F.entry_tuple_iterator_next ?_ (F.args_tuple_iterator_next_1 _)))
 show wpAny _ _ (field (.ref it) 0 >>= _) _ _ s
 refine wpAny_bind (wpAny_field ho hd (x:=.ref t) rfl ?_)
 show wpAny _ _ (if (Value.ref t == Value.none)=true then _ else _) _ _ s
 rw[if_neg (show ¬ ((Value.ref t == Value.none)=true) from Qj)]
 show wpAny _ _ (field (.ref it) 1 >>= _) _ _ s
 refine wpAny_bind (wpAny_field ho hd (x:=.int i 0) rfl ?_)
 show wpAny _ _ (seqItems? (.ref t) >>= _) _ _ s
 refine wpAny_bind (wpAny_seqItems hol hdl ?_)
 simp only[Int.toNat_natCast,hx]
 refine wpAny_bind (wpAny_setField ho hd (by simp) (wpAny_pure ⟨x,rfl,wpAny_pure (hQ _ ?_ (Qag ..))⟩))
 exact⟨_,Heap.get?_update_self _ ho (Obj.isFreed_of_fields (Obj.data_mapFields hd _)),(Obj.cls_mapFields ..).trans hc,by
  rw[Obj.data_mapFields hd];simp[rawInt]⟩
theorem Za6{i:Addr}{k:Nat}{us:List Value}{Q:Value→Shared→Prop}:∀ {S:Src},S.at s.heap i k→S.raw s.heap us→k<S.many us →
  (∀h' tk u,S.fit us k u→S.at h' i (k+1)→Heap.SameBut i s.heap h'→Q u { s with heap:=h',toks:=tk })→wpAny (model prog w) A (Builtin.SmallTypes.nextOf (.ref i)) Q E s
 | .l a,h1,h2,h3,hQ=>wpAny_nextOf_list_item h1 h2 (x:=us[k]'h3) (by rw[Qao];exact Qc h3) fun h' q1 q2=>hQ h' s.toks _ (Qc h3) q1 q2
 | .t a,h1,h2,h3,hQ=>Zfu h1 h2 (x:=us[k]'h3) (by rw[Qao];exact Qc h3) fun h' q1 q2=>hQ h' s.toks _ (Qc h3) q1 q2
 | .s z,⟨tk,h1⟩,h2,h3,hQ=>by
  have hx:z.cps[k]? = some z.cps[k]:=Array.getElem?_eq_getElem h3
  by_cases ha:z.cps.all (·<128)=true
  ·have e:strIterType z = "str_ascii_iterator":=by unfold strIterType;rw[if_pos ha]
   rw[e]at h1
   exact wpAny_nextOf_ascii_item h1 hx fun h' q1 q2=>hQ h' _ _ ⟨_,_,hx,rfl⟩ ⟨tk,by rw[e];exact q1⟩ q2
  ·have e:strIterType z = "str_iterator":=by unfold strIterType;rw[if_neg ha]
   rw[e]at h1
   exact wpAny_nextOf_wide_item h1 hx fun h' q1 q2=>hQ h' _ _ ⟨_,_,hx,rfl⟩ ⟨tk,by rw[e];exact q1⟩ q2
theorem ZdO{it t:Addr}{i:Nat}{items:Array Value}{Q:Value→Shared→Prop}(hh:A.handled=none)(hit:s.heap.IsTupleIter it t i)(ht:s.heap.IsTuple t items)(hx:items[i]? = none)
  (hE:∀h' e,Heap.ExtBut it s.heap h'→(∃o,h'.get? e=some o∧o.cls=.type "StopIteration")→E (.ref e) { s with heap:=h' }):wpAny (model prog w) A (Builtin.SmallTypes.nextOf (.ref it)) Q E s:=by
 obtain⟨o,ho,hc,hd⟩:=id hit
 obtain⟨ol,hol,_,nl,hdl⟩:=ht
 unfold Builtin.SmallTypes.nextOf
 refine wpAny_bind (wpAny_callSpecial?_slot (name:=Str.ofString "__next__") hit.typeIs F.slot_tuple_iterator_next
  (wpAny_call_entry F.slot_tuple_iterator_next hit.typeIs F.entry_tuple_iterator_next ?_ (F.args_tuple_iterator_next_1 _)))
 show wpAny _ _ (field (.ref it) 0 >>= _) _ _ s
 refine wpAny_bind (wpAny_field ho hd (x:=.ref t) rfl ?_)
 show wpAny _ _ (if (Value.ref t == Value.none)=true then _ else _) _ _ s
 rw[if_neg (show ¬ ((Value.ref t == Value.none)=true) from Qj)]
 show wpAny _ _ (field (.ref it) 1 >>= _) _ _ s
 refine wpAny_bind (wpAny_field ho hd (x:=.int i 0) rfl ?_)
 show wpAny _ _ (seqItems? (.ref t) >>= _) _ _ s
 refine wpAny_bind (wpAny_seqItems hol hdl ?_)
 simp only[Int.toNat_natCast,hx]
 refine wpAny_bind (wpAny_rule (wpAny_bind (wpAny_setField ho hd (by simp) ?_)))
 show wpAny _ _ (newExc (.type "StopIteration") [] >>= _) _ _ _
 refine wpAny_bind ?_
 simp only[newExc,newTuple]
 refine wpAny_bind (wpAny_newObj_type ?_ (by size_fits))
 refine wpAny_bind (m:=firstArgMember _ _) (wpAny_of_eq (a:=Value.none) (by first|rfl|(simp only[firstArgMember];rfl)) ?_)
 refine wpAny_newObj_type ?_ (by size_fits)
 simp only[raiseNew]
 refine wpAny_bind (wpAny_handled ?_)
 first|rw[show A.in1.handled=none from hh]|rw[hh]
 refine wpAny_bind (wpAny_pure (wpAny_throw ?_))
 exact hE _ _ (((Qag ..).extBut.push _).push _) ⟨_,Qp _ rfl,rfl⟩
theorem Zcu{i:Addr}{k:Nat}{us:List Value}{Q:Value→Shared→Prop}(hh:A.handled=none):∀ {S:Src},S.at s.heap i k→S.raw s.heap us→S.many us≤k →
  (∀h' e,Heap.ExtBut i s.heap h'→(∃o,h'.get? e=some o∧o.cls=.type "StopIteration")→E (.ref e) { s with heap:=h' })→wpAny (model prog w) A (Builtin.SmallTypes.nextOf (.ref i)) Q E s
 | .l a,h1,h2,h3,hE=>wpAny_nextOf_list_end hh h1 h2 (by rw[Qao];exact QT h3) hE
 | .t a,h1,h2,h3,hE=>ZdO hh h1 h2 (by rw[Qao];exact QT h3) hE
 | .s z,⟨tk,h1⟩,h2,h3,hE=>by
  have hx:z.cps[k]? = none:=Array.getElem?_eq_none h3
  by_cases ha:z.cps.all (·<128)=true
  ·have e:strIterType z = "str_ascii_iterator":=by unfold strIterType;rw[if_pos ha]
   rw[e]at h1
   exact wpAny_nextOf_ascii_end hh h1 hx hE
  ·have e:strIterType z = "str_iterator":=by unfold strIterType;rw[if_neg ha]
   rw[e]at h1
   exact wpAny_nextOf_wide_end hh h1 hx hE
structure ZfN (z TI TO i1 i2:Addr) (S1 S2:Src):Prop where
 TIz:TI≠z
 TOz:TO≠z
 i1z:i1≠z
 i2z:i2≠z
 TITO:TI≠TO
 TIi1:TI≠i1
 TIi2:TI≠i2
 TOi1:TO≠i1
 TOi2:TO≠i2
 i12:i1≠i2
 s1z:S1.off z
 s1TO:S1.off TO
 s1i1:S1.off i1
 s1i2:S1.off i2
 s2z:S2.off z
 s2TO:S2.off TO
 s2i1:S2.off i1
 s2i2:S2.off i2
end
def Src.iter(tk:Tok):Src→Obj
 | .l a=>{ cls:=.type "list_iterator",data:=.fields #[.ref a,.int 0 0] }
 | .t a=>{ cls:=.type "tuple_iterator",data:=.fields #[.ref a,.int 0 0] }
 | .s z=>{ cls:=.type (strIterType z),data:=.fields #[.str z tk,.int 0 0] }
def Src.value(tk:Tok):Src→Value
 | .l a=>.ref a
 | .t a=>.ref a
 | .s z=>.str z tk
theorem Src.iter_at{h:Heap}{i:Addr}{tk:Tok}:∀ {S:Src},h.get? i=some (S.iter tk)→S.at h i 0
 | .l _,e=>⟨_,e,rfl,rfl⟩
 | .t _,e=>⟨_,e,rfl,rfl⟩
 | .s _,e=>⟨tk,_,e,rfl,rfl⟩
theorem Src.pyIter{prog:Program}{w:World}{A:Around}{E:Value→Shared→Prop}{s:Shared}{tk:Tok}{us:List Value}{Q:Value→Shared→Prop}:∀ {S:Src},S.raw s.heap us →
  Q (.ref s.heap.objs.size) { s with heap:=s.heap.push (S.iter tk) }→wpAny (model prog w) A (pyIter (S.value tk)) Q E s
 | .l _,r,q=>wpAny_pyIter_list r q
 | .t _,r,q=>wpAny_pyIter_tuple r q
 | .s _,_,q=>wpAny_pyIter_strU q
theorem Src.raw_push{h:Heap}{ob:Obj}:∀ {S:Src} {us:List Value},S.raw h us→S.raw (h.push ob) us
 | .l _,_,⟨o,e,d⟩=>⟨o,Qb _ e,d⟩
 | .t _,_,⟨o,e,d⟩=>⟨o,Qb _ e,d⟩
 | .s _,_,_=>trivial
abbrev zH1(h:Heap)(S1:Src)(t1:Tok):Heap:=h.push (S1.iter t1)
abbrev zH2(h:Heap)(S1 S2:Src)(t1 t2:Tok):Heap:=(zH1 h S1 t1).push (S2.iter t2)
abbrev zH3(h:Heap)(S1 S2:Src)(t1 t2:Tok):Heap:=(zH2 h S1 S2 t1 t2).push { cls:=.type "tuple",data:=.seq #[.ref h.objs.size,.ref (zH1 h S1 t1).objs.size] }
abbrev zH4(h:Heap)(S1 S2:Src)(t1 t2:Tok):Heap:=(zH3 h S1 S2 t1 t2).push { cls:=.type "tuple",data:=.seq #[.none,.none] }
abbrev zH5(h:Heap)(S1 S2:Src)(t1 t2:Tok):Heap:=(zH4 h S1 S2 t1 t2).push { cls:=.type "zip",data:=.fields #[.none,.bool false,.bool false,.ref (zH2 h S1 S2 t1 t2).objs.size,.ref (zH3 h S1 S2 t1 t2).objs.size] }
theorem ZlR(S1 S2:Src)(t1 t2:Tok)(us1 us2:List Value) :
  Meets (Builtin.«zip.__new__» ⟨[.type "zip",S1.value t1,S2.value t2],[]⟩) (fun _ R s=>S1.raw s.heap us1∧S2.raw s.heap us2 ∧
   R (.ok (.ret (.ref (zH4 s.heap S1 S2 t1 t2).objs.size))) { s with heap:=zH5 s.heap S1 S2 t1 t2 }) :=
 .of_wp fun prog w A R s h=>by
  obtain⟨hp,g,d,tk,os⟩:=s;obtain⟨r1,r2,h⟩:=h
  have hsub:=sub_zip
  have q1:∀ {A:Around} {E:Value→Shared→Prop} {Q:Value→Shared→Prop},Q (.ref hp.objs.size) ⟨zH1 hp S1 t1,g,d,tk,os⟩→wpAny (model prog w) A (pyIter (S1.value t1)) Q E ⟨hp,g,d,tk,os⟩:=
   fun {A E Q} q=>Src.pyIter (s:=⟨hp,g,d,tk,os⟩) (us:=us1) r1 q
  have q2:∀ {A:Around} {E:Value→Shared→Prop} {Q:Value→Shared→Prop},Q (.ref (zH1 hp S1 t1).objs.size) ⟨zH2 hp S1 S2 t1 t2,g,d,tk,os⟩→wpAny (model prog w) A (pyIter (S2.value t2)) Q E ⟨zH1 hp S1 t1,g,d,tk,os⟩:=
   fun {A E Q} q=>Src.pyIter (s:=⟨zH1 hp S1 t1,g,d,tk,os⟩) (us:=us2) (S2.raw_push r2) q
  generalize S1.value t1=v1 at q1 ⊢
  generalize S2.value t2=v2 at q2 ⊢
  wp_walk using q1,q2
  exact⟨_,rfl,h⟩
section
variable {prog:Program} {w:World} {A:Around} {E:Value→Shared→Prop} {s:Shared}
theorem ZjI{S1 S2:Src}{t1 t2:Tok}{us1 us2:List Value}{Q:Value→Shared→Prop}(r1:S1.raw s.heap us1)(r2:S2.raw s.heap us2)
  (h:∀h',IsZip h' (s.heap.objs.size+4) (s.heap.objs.size+2) (s.heap.objs.size+3) .none→IsPair h' (s.heap.objs.size+2) (.ref s.heap.objs.size) (.ref (s.heap.objs.size+1)) →
   IsPair h' (s.heap.objs.size+3) .none .none→S1.at h' s.heap.objs.size 0→S2.at h' (s.heap.objs.size+1) 0→h'.objs.size=s.heap.objs.size+5 →
   (∀c o,s.heap.get? c=some o→h'.get? c=some o)→Q (.ref (s.heap.objs.size+4)) { s with heap:=h' }) :
  wpAny (model prog w) A (call (.type "zip") [S1.value t1,S2.value t2]) Q E s:=by
 refine callType_new F.called_zip (by decide) (F.typeCall_zip_2 _ _) (F.newCall_zip_2 _ _) (fun obj=>F.args_object_init_3 obj _ _) F.entry_zip_new (ZlR S1 S2 t1 t2 us1 us2) ⟨r1,r2,?_⟩
 have z1:(zH1 s.heap S1 t1).objs.size=s.heap.objs.size+1:=Q1 ..
 have z2:(zH2 s.heap S1 S2 t1 t2).objs.size=s.heap.objs.size+2:=by rw[Q1,z1]
 have z3:(zH3 s.heap S1 S2 t1 t2).objs.size=s.heap.objs.size+3:=by rw[Q1,z2]
 have z4:(zH4 s.heap S1 S2 t1 t2).objs.size=s.heap.objs.size+4:=by rw[Q1,z3]
 have z5:(zH5 s.heap S1 S2 t1 t2).objs.size=s.heap.objs.size+5:=by rw[Q1,z4]
 have fr:∀ (tk:Tok) (S:Src),(S.iter tk).isFreed=false:=fun tk S=>by cases S<;>rfl
 have g5:(zH5 s.heap S1 S2 t1 t2).get? (zH4 s.heap S1 S2 t1 t2).objs.size=some _:=Qp _ rfl
 have g4:(zH5 s.heap S1 S2 t1 t2).get? (zH3 s.heap S1 S2 t1 t2).objs.size=some _:=Qb _ (Qp _ rfl)
 have g3:(zH5 s.heap S1 S2 t1 t2).get? (zH2 s.heap S1 S2 t1 t2).objs.size=some _:=Qb _ (Qb _ (Qp _ rfl))
 have g2:(zH5 s.heap S1 S2 t1 t2).get? (zH1 s.heap S1 t1).objs.size=some (S2.iter t2):=Qb _ (Qb _ (Qb _ (Qp _ (fr _ _))))
 have g1:(zH5 s.heap S1 S2 t1 t2).get? s.heap.objs.size=some (S1.iter t1):=Qb _ (Qb _ (Qb _ (Qb _ (Qp _ (fr _ _)))))
 show _∧_
 rw[z2,z3,z4]at g5
 rw[z1,z2]at g3
 rw[z3]at g4
 rw[z1]at g2
 rw[z4]
 exact⟨⟨_,g5,rfl⟩,h _ g5 g3 g4 (Src.iter_at g1) (Src.iter_at g2) z5 fun c o x =>
  Qb _ (Qb _ (Qb _ (Qb _ (Qb _ x))))⟩
end
def Itz(K:PySem.W.Frag)(S1 S2:Src):It :=
 ⟨fun i H=>∃xs ys,S1.its K H xs∧S2.its K H ys∧i<xs.length∧i<ys.length,
  fun i H v H'=>∃p,H p=none∧v=.ref p∧∀xs ys,S1.its K H xs→S2.its K H ys→∀x y,xs[i]? = some x→ys[i]? = some y→H'=upd H p (.tup [x,y]),
  fun i H=>∃xs ys,S1.its K H xs∧S2.its K H ys∧(xs.length≤i∨ys.length≤i)⟩
section
variable {X:Cx} {pins:List (Addr×Obj)} {σ:St} {H:Hp} {s:Shared}
theorem Inv.src(I:Inv X pins σ H s):∀ {S:Src} {xs:List V},S.its X.K H xs→∃us,S.raw s.heap us∧S.many us=xs.length∧∀k u x,S.fit us k u→xs[k]? = some x→ZT x u
 | .l a,xs,h=>by
  obtain⟨its,rv,pl,_⟩:=I.list h
  refine⟨its,pl.isList,rv.length.symm,fun k u x e1 e2=>?_⟩
  obtain⟨u',e3,r⟩:=rv.get e2
  rw[show its[k]? = some u from e1]at e3;cases e3
  exact r
 | .t a,xs,h=>by
  obtain⟨its,rv,pl,_⟩:=I.tuple h
  refine⟨its,pl,rv.length.symm,fun k u x e1 e2=>?_⟩
  obtain⟨u',e3,r⟩:=rv.get e2
  rw[show its[k]? = some u from e1]at e3;cases e3
  exact r
 | .s z,xs,h=>by
  refine⟨[],trivial,?_,fun k u x e1 e2=>?_⟩
  ·rw[show xs=_ from h,Qa];simp[Src.many]
  ·obtain⟨c,tk,e3,e4⟩:=e1
   subst e4
   rw[show xs=_ from h,Qt]at e2
   have e5:z.cps.toList[k]? = some c:=by simpa using e3
   rw[e5]at e2
   cases e2
   exact⟨tk,rfl⟩
theorem Inv.src_off(I:Inv X pins σ H s){b:Addr}(hb:ZcR X pins H b):∀ {S:Src} {xs:List V},S.its X.K H xs→S.off b
 | .l a,xs,h=>by
  rcases h with(h|⟨ob,h⟩)|⟨o,its,n,hk,_⟩
  ·exact Zg h hb.1
  ·exact Zg h hb.1
  ·rintro rfl
   have e:=I.ok.mod.kin a o hk
   rcases hb.2.2.2.1 with z|z
   ·exact I.ok.noex a o e z
   ·exact absurd (Qy (Qo e) (QI I.ok.bsz z)) (QX _)
 | .t a,xs,h=>by
  rcases h with(h|⟨ob,h⟩)|⟨o,its,n,hk,_⟩
  ·exact Zg h hb.1
  ·exact Zg h hb.1
  ·rintro rfl
   have e:=I.ok.mod.kin a o hk
   rcases hb.2.2.2.1 with z|z
   ·exact I.ok.noex a o e z
   ·exact absurd (Qy (Qo e) (QI I.ok.bsz z)) (QX _)
 | .s z,xs,h=>trivial
theorem Inv.zipped{fp:List Addr}{h':Heap}{tk:Nat}{x y:V}{u v:Value}(I:Inv X pins σ H s)(hf:∀b∈fp,ZcR X pins H b)(rx:ZT x u)(ry:ZT y v)
  (hp:IsPair h' s.heap.objs.size u v) (hfh:∀b∈fp,∃o,h'.get? b=some o) (hk:∀c o,c ∉ fp→s.heap.get? c=some o→h'.get? c=some o) :
  Inv X pins σ (upd H s.heap.objs.size (.tup [x,y])) { s with heap:=h',toks:=tk }:=by
 have hn:H s.heap.objs.size=none:=I.fresh
 have ne:∀b ob,s.heap.get? b=some ob→b≠s.heap.objs.size:=fun b ob e=>Qx (Qo e)
 have nt:∀b u,H b=some u→b≠s.heap.objs.size:=fun b u e=>Zg e hn
 have nfp:∀b u,H b=some u→b ∉ fp:=fun b u e hb=>by rw[(hf b hb).1]at e;cases e
 refine I.step (g':=s.gens) (d':=s.drawn) (ch:=fp) (fun b hb=>⟨(hf b hb).2.2.2.1,(hf b hb).2.1,(hf b hb).2.2.2.2.1,(hf b hb).2.2.2.2.2⟩)
  (fun b ob _ _ hc e _=>hk b ob hc e) (fun b ob _ _ hc e _=>⟨ob.slots,hk b ob hc e⟩) (fun b ob _ e n=>by rw[Zi (ne b ob e)];exact n) (fun b ob hc e=>⟨ob,hk b ob hc e⟩)
  (fun b xs e=>by rw[Zi (nt b _ e)];exact e) (fun b ob u e=>by rw[Zi (nt b _ e)];exact e) (fun b ps e=>⟨#[],by rw[Zi (nt b _ e),e];simp⟩) (fun m hm=>?_) (fun b ub e=>?_) I.bare
 ·obtain⟨ob,es,ep,ho,r⟩:=hm
  exact⟨ob,es,ep,hk _ ob (fun z=>(hf _ z).2.1 rfl) ho,r⟩
 ·by_cases hb:b=s.heap.objs.size
  ·subst hb
   rw[Zb]at e;cases e
   exact⟨by show 2≤sizeLine;decide,[u,v],.cons rx (.cons ry .nil),⟨_,hp,rfl,_,rfl⟩⟩
  ·rw[Zi hb]at e
   refine(I.hok b ub e).stay (fun c w' hc q=>hk c w' ?_ q) (fun c q=>by rw[Zi (nt c _ q)];exact q) fun c xs q=>by rw[Zi (nt c _ q)];exact q
   rcases hc with z|z
   ·rw[z];exact nfp b ub e
   ·exact nfp c _ z
end
def ZnX(K:PySem.W.Frag)(ta:TA):TI:=fun σ H R=>ta σ H fun vs H1=>∃S1 S2 xs ys,vs=[Src.val S1,Src.val S2]∧S1.its K H1 xs∧S2.its K H1 ys∧R (Itz K S1 S2) H1
section
variable {X:Cx} (K:PySem.W.Frag)
theorem ixL(h:X.K=K:=by rfl):IxR X (ZnW K):=by subst h;exact ZkS
theorem ixT(h:X.K=K:=by rfl):IxR X (ZnE K):=by subst h;exact ZmG
theorem slL(h:X.K=K:=by rfl):SlR X (ZnN K):=by subst h;exact Zlz
def ZnM:List V→Hp→VK→Prop:=fun xs H Q=>∃p ys,xs=[.ref p]∧(SqL K H p ys∨SqT K H p ys)∧Q (.int ys.length) H
theorem ZaY(h:X.K=K:=by rfl):Z8 X (.builtin "len") (ZnM K):=by subst h;exact ZfD
theorem Zcy(h:X.K=K:=by rfl):Z8 X (.builtin "isinstance") (Zns K):=by subst h;exact Zkw
def Znj:List V→Hp→VK→Prop:=fun xs H Q=>∃ (p:Addr) (bs:List Bool),xs=[.ref p]∧SqL K H p (bs.map V.bl)∧Q (.bl (bs.all id)) H
theorem Zon(hc:X.calm=true:=by rfl)(h:X.K=K:=by rfl):Z8 X (.builtin "all") (Znj K):=by subst h;exact Zkd hc
def ZnR:List V→Hp→VK→Prop:=fun xs H Q=>∃ (p:Addr) (ns:List Int),xs=[.ref p]∧SqL K H p (ns.map V.int)∧ns.length<64 ∧
  ∀ (l:Addr) (ns':List Int),H l=none→ns'.Perm ns→ns'.Pairwise (·≤·)→Q (.ref l) (upd H l (.lst (ns'.map V.int)))
theorem Zoi(h:X.K=K:=by rfl):Z8 X (.builtin "sorted") (ZnR K):=by subst h;exact ZfI
theorem iL{tg l:Expr}{tl:TE}(hl:PE X l tl)(h:X.K=K:=by rfl):PI X tg l (Zmn K tl):=by subst h;exact Zly hl
theorem iT{tg l:Expr}{tl:TE}(hl:PE X l tl)(h:X.K=K:=by rfl):PI X tg l (ZnL K tl):=by subst h;exact ZmL hl
theorem gT{es:List Expr}{k:Nat}{t:TGs}{n:Nat}{pos:Pos}(h:PGs X es t)(hK:X.K=K:=by rfl)(hc:X.calm=true:=by rfl)
  (hn:(assignEach es X.env).length=n:=by rfl) (hst:(assignEach es X.env).findIdx? (·.1)=none:=by rfl):PG X (.Tuple es k pos) (Znx K n t):=by subst hK;exact ZmP hc h hn hst
end
structure Df (P:Program) (w:World) (K:PySem.W.Frag) (mg:Str→Option Value) (base:Heap) (k:Nat) (x:Str) (ps:List Str) (sp:Sp):Prop where
 ex:∃f fd,Zd6 P w K mg base CX0 k f fd ps sp∧mg x=some (.ref f)∧PySem.W.keepIn K (.ref f)=true∧ZcZ K fd ps []
section
variable {P:Program} {w:World} {K:PySem.W.Frag} {mg:Str→Option Value} {base:Heap}
structure Top (K:PySem.W.Frag) (mg:Str→Option Value) (x:Str) (st:Stmt) (ps:List Str):Prop where
 ex:∃f fd,Fun K x x st f fd∧mg x=some (.ref f)∧ZcZ K fd ps []
theorem Top.df{x:Str}{st:Stmt}{N ps:List Str}{k:Nat}{sp:Sp}(T:Top K mg x st ps)(S:Zw N ps (Zh st))(len:∀vs H Q E,sp vs H Q E→vs.length=ps.length)
  (hbody:∀ (cdv:Value) (f:Addr) (A:Around) (outer:List Env) (s:Shared) (H:Hp) (vs:List V) (Q:VK) (E:XK),Za7 k (A.deeper (envOfC x (Zh st) s.heap.objs.size f cdv))→sp vs H Q E →
   ∃t,PSs (Zhb CX0 P w K mg base N x (Zh st) f cdv A outer s H E).nox (Zr st) t∧t { nx:=fun _ H'=>Q .non H',rt:=Q } (Zdn N vs) H):Df P w K mg base (k+1) x ps sp:=by
 obtain⟨f,fd,F,m,b⟩:=T.ex
 exact⟨f,fd,F.ok S len (fun cdv A outer s H vs Q E hr h=>hbody cdv f A outer s H vs Q E hr h),m,F.kp,b⟩
end
section
variable {X:Cx} {k j:Nat} {x:Str} {ps:List Str} {sp:Sp} {e:Expr} {es:List Expr} {t:TA} {p pos:Pos}
theorem Zu(F:Df X.prog X.w X.K X.mg X.base k x ps sp)(hr:Za7 j X.A)(ha:PA X (e::es) t)(hjk:k≤j:=by decide)(hg:Gl X x:=by rfl)(hdb:(x == ("__debug__" : Str))=false:=by decide)
  (he:starEach (e::es) X.env=(false,eval e X.env)::starEach es X.env:=by rfl) (hpl:(backTo pos (starEach es X.env)).any (·.1)=false:=by rfl) :
  PE X (.Call (.Name x p) (e::es) [] pos) (Zic sp [] E0 t):=by
 obtain⟨f,fd,F,m,kp,b⟩:=F.ex
 exact ZkU F (hr.mono hjk) hg m kp b .nil ZnD ha hdb he hpl
theorem Zbg{T:String}(hm:X.mg x=none)(hv:bootBuiltins x=some (.type T))(hg:Gl X x:=by rfl)(hn:x ≠ "__name__":=by decide)(hd:(x == ("__debug__" : Str))=false:=by decide):PE X (.Name x pos) (tC (.ty T)) :=
 Zla hg hm hv rfl hn hd
end
theorem Zdf{lo:Int}{n k:Nat}{D:Addr}{σ:St}{H1:Hp}{g:TG}{te:TE}{Q:VK}(Pv:Nat→List V→St→Hp→Prop)(h0:Pv 0 [] (σ++List.replicate k none) (upd H1 D (.lst [])))
  (hs:∀i ys σ H,i<n→Pv i ys σ H→g (.int (lo+i)) σ H fun σ4 H4=>te σ4 H4 fun y H6=>H6 D=some (.lst ys)∧ys.length<sizeLine∧Pv (i+1) (ys++[y]) σ4 (upd H6 D (.lst (ys++[y]))))
  (hd:∀ys σ H,Pv n ys σ H→Q (.ref D) H):ZdM (Itr lo n) D k σ H1 g ZdV te Q:=by
 refine⟨fun i m ys σ H=>m=n-i∧i≤n∧Pv i ys σ H,⟨n,by simp,Qm _,h0⟩,?_⟩
 rintro i m ys σ H ⟨rfl,hi,p⟩
 by_cases hlt:i<n
 ·refine .inr ⟨hlt,Pv (i+1),fun ys' σ' H' p'=>⟨n-(i+1),by omega,rfl,hlt,p'⟩,fun x H' y=>?_⟩
  obtain⟨e,y⟩:=y
  subst e y
  simp only[ZdV,↓reduceIte]
  exact hs i ys σ _ hlt p
 ·have e:i=n:=by omega
  subst e
  exact .inl ⟨Qd _,hd ys σ H p⟩
theorem Zkj{K:PySem.W.Frag}{S1 S2:Src}{xs ys:List V}{k:Nat}{D:Addr}{σ:St}{H1:Hp}{g:TG}{te:TE}{Q:VK}(Pv:Nat→List V→St→Hp→Prop)(h0:Pv 0 [] (σ++List.replicate k none) (upd H1 D (.lst [])))
  (hl:∀i zs σ H,Pv i zs σ H→S1.its K H xs∧S2.its K H ys)
  (hs:∀i zs σ H x y p,xs[i]? = some x→ys[i]? = some y→Pv i zs σ H→H p=none→g (.ref p) σ (upd H p (.tup [x,y])) fun σ4 H4=>te σ4 H4 fun z H6=>H6 D=some (.lst zs)∧zs.length<sizeLine∧Pv (i+1) (zs++[z]) σ4 (upd H6 D (.lst (zs++[z]))))
  (hd:∀zs σ H,Pv (min xs.length ys.length) zs σ H→Q (.ref D) H):ZdM (Itz K S1 S2) D k σ H1 g ZdV te Q:=by
 refine⟨fun i m zs σ H=>m=min xs.length ys.length-i∧i≤min xs.length ys.length∧Pv i zs σ H,⟨min xs.length ys.length,by simp,Qm _,h0⟩,?_⟩
 rintro i m zs σ H ⟨rfl,hi,p⟩
 obtain⟨q1,q2⟩:=hl i zs σ H p
 by_cases hlt:i<min xs.length ys.length
 ·have l1:i<xs.length:=by omega
  have l2:i<ys.length:=by omega
  refine .inr ⟨⟨xs,ys,q1,q2,l1,l2⟩,Pv (i+1),fun ys' σ' H' p'=>⟨min xs.length ys.length-(i+1),by omega,rfl,hlt,p'⟩,fun x H' y=>?_⟩
  obtain⟨r,hr,rfl,e⟩:=y
  have e':=e xs ys q1 q2 _ _ (Qc l1) (Qc l2)
  subst e'
  simp only[ZdV,↓reduceIte]
  exact hs i zs σ H _ _ r (Qc l1) (Qc l2) p hr
 ·have e:i=min xs.length ys.length:=by omega
  refine .inl ⟨⟨xs,ys,q1,q2,by omega⟩,hd zs σ H (e ▸ p)⟩
section
variable {X:Cx} {N N':List Str} {o c:Scope} {x:Str} {pos:Pos} {C:Addr} {s:Shared} {H:Hp} {fp:List Addr}
theorem Zde(S:ZN N N' o c)(ho:X.env.scope=o)(hl:c.names.lookup x=some .local):(ZI X c N' C s H fp).env.scope.names.lookup x=some .local:=by
 have e:=Zce (X:=X) S ho (Z5 X.env.cells c.names []) C x
 rw[hl]at e
 exact e
theorem Zaf(S:ZN N N' o c)(ho:X.env.scope=o)(hl:c.names.lookup x=some .globalImplicit):Gl (ZI X c N' C s H fp) x:=by
 have e:=Zce (X:=X) S ho (Z5 X.env.cells c.names []) C x
 rw[hl]at e
 exact e
theorem ZkE(S:ZN N N' o c)(ho:X.env.scope=o)(hl:c.names.lookup x=some .free):Vis (ZI X c N' C s H fp).env.scope x:=by
 have e:=Zce (X:=X) S ho (Z5 X.env.cells c.names []) C x
 rw[hl]at e
 have e':(ZI X c N' C s H fp).env.scope.names.lookup x=if X.env.kindOf x=some .cell then some NameKind.cell else some NameKind.free:=e
 by_cases z:X.env.kindOf x=some .cell
 ·rw[if_pos z]at e';exact .inr (.inl e')
 ·rw[if_neg z]at e';exact .inr (.inr e')
theorem cv(i:Nat)(S:ZN N N' o c)(ho:X.env.scope=o)(hl:c.names.lookup x=some .free)(hN:N'[i]? = some x:=by rfl)(hd:(x == ("__debug__" : Str))=false:=by decide)(hcd:(x == ("__classdict__" : Str))=false:=by decide) :
  PE (ZI X c N' C s H fp) (.Name x pos) (ZlX i):=Zg8 hN (ZkE S ho hl) hd hcd
theorem cw(i:Nat)(S:ZN N N' o c)(ho:X.env.scope=o)(hl:c.names.lookup x=some .local)(hN:N'[i]? = some x:=by rfl)(hd:(x == ("__debug__" : Str))=false:=by decide)(hcd:(x == ("__classdict__" : Str))=false:=by decide) :
  PE (ZI X c N' C s H fp) (.Name x pos) (ZlX i):=Zg8 hN (.inl (Zde S ho hl)) hd hcd
theorem cg(i:Nat)(S:ZN N N' o c)(ho:X.env.scope=o)(hl:c.names.lookup x=some .local)(hi:N'[i]? = some x:=by rfl):PG (ZI X c N' C s H fp) (.Name x pos) (Zij i) :=
 ZB S.nd hi (.inl (Zde S ho hl)) (.inr (Zde S ho hl))
end
mutual
inductive DV (K:PySem.W.Frag) (H:Hp):V→PyData→Prop where
 | non:DV K H .non .none
 | bl (b:Bool):DV K H (.bl b) (.bool b)
 | int (i:Int):DV K H (.int i) (.int i)
 | str (s:Str):DV K H (.str s) (.str s)
 | lst {a:Addr} {xs:List V} {ds:List PyData}:SqL K H a xs→DVs K H xs ds→DV K H (.ref a) (.list ds)
 | tup {a:Addr} {xs:List V} {ds:List PyData}:SqT K H a xs→DVs K H xs ds→DV K H (.ref a) (.tuple ds)
inductive DVs (K:PySem.W.Frag) (H:Hp):List V→List PyData→Prop where
 | nil:DVs K H [] []
 | cons {x:V} {d:PyData} {xs:List V} {ds:List PyData}:DV K H x d→DVs K H xs ds→DVs K H (x::xs) (d::ds)
end
section
variable {X:Cx} {pins:List (Addr×Obj)} {σ:St} {H:Hp} {s:Shared}
mutual
theorem Inv.reads(I:Inv X pins σ H s):∀ {x:V} {d:PyData} {u:Value},DV X.K H x d→ZT x u→∃as,Reads s.heap u d as
 | _,_,_,.non,r=>by cases r;exact⟨_,.none⟩
 | _,_,_,.bl b,r=>by cases r;exact⟨_,.bool b⟩
 | _,_,_,.int i,r=>by obtain⟨t,rfl⟩:=r;exact⟨_,.int i t⟩
 | _,_,_,.str z,r=>by obtain⟨t,rfl⟩:=r;exact⟨_,.str z t⟩
 | _,_,_,.lst h hs,r=>by
  cases r
  obtain⟨its,rv,⟨o,n,e,hc,_,hd⟩,_⟩:=I.list h
  obtain⟨as,q⟩:=Inv.readsAll I hs rv
  exact⟨_,reads_list_at e hc hd (by simpa using q)⟩
 | _,_,_,.tup h hs,r=>by
  cases r
  obtain⟨its,rv,⟨o,e,hc,n,hd⟩,_⟩:=I.tuple h
  obtain⟨as,q⟩:=Inv.readsAll I hs rv
  exact⟨_,reads_tuple_at e hc hd (by simpa using q)⟩
theorem Inv.readsAll(I:Inv X pins σ H s):∀ {xs:List V} {ds:List PyData} {us:List Value},DVs X.K H xs ds→ZE xs us→∃as,ReadsAll s.heap us ds as
 | _,_,_,.nil,r=>by cases r;exact⟨_,.nil⟩
 | _,_,_,.cons h hs,r=>by
  cases r with
  | cons r1 r2 =>
   obtain⟨as,q1⟩:=Inv.reads I h r1
   obtain⟨bs,q2⟩:=Inv.readsAll I hs r2
   exact⟨_,.cons q1 q2⟩
end
def ZlE(K:PySem.W.Frag)(neg:Bool):R2:=fun x y H Q=>∃d e,DV K H x d∧DV K H y e∧SeqAt.shaped d=true∧SeqAt.shaped e=true∧Q (.bl (if neg then !PyData.eqv d e else PyData.eqv d e)) H
theorem Zmv(hu:X.A.units+64<cLine):OpR X (compareOp .Eq) (ZlE X.K false):=by
 intro pins s σ H x y v u Q I rx ry h
 obtain⟨d,e,h1,h2,s1,s2,q⟩:=h
 obtain⟨as,r1⟩:=I.reads h1 rx
 obtain⟨bs,r2⟩:=I.reads h2 ry
 exact eq_dataH r1 r2 s1 s2 hu ⟨.bl _,H,I,rfl,q⟩
theorem ZmS(hu:X.A.units+64<cLine):OpR X (compareOp .NotEq) (ZlE X.K true):=by
 intro pins s σ H x y v u Q I rx ry h
 obtain⟨d,e,h1,h2,s1,s2,q⟩:=h
 obtain⟨as,r1⟩:=I.reads h1 rx
 obtain⟨bs,r2⟩:=I.reads h2 ry
 exact ne_dataH r1 r2 s1 s2 hu ⟨.bl _,H,I,rfl,q⟩
end
theorem eqD{X:Cx}(K:PySem.W.Frag){k:Nat}(hr:Za7 k X.A)(h:X.K=K:=by rfl):OpR X (compareOp .Eq) (ZlE K false):=by subst h;exact Zmv hr.units
theorem neD{X:Cx}(K:PySem.W.Frag){k:Nat}(hr:Za7 k X.A)(h:X.K=K:=by rfl):OpR X (compareOp .NotEq) (ZlE K true):=by subst h;exact ZmS hr.units
mutual
theorem DV.mono{K:PySem.W.Frag}{H H':Hp}(s:Zn H H'):∀ {x:V} {d:PyData},DV K H x d→DV K H' x d
 | _,_,.non=>.non
 | _,_,.bl b=>.bl b
 | _,_,.int i=>.int i
 | _,_,.str z=>.str z
 | _,_,.lst h hs=>.lst (s.seq h) (DVs.mono s hs)
 | _,_,.tup h hs=>.tup (by
   rcases h with(h|⟨ob,h⟩)|h
   ·exact .inl (.inl (s _ _ h))
   ·exact .inl (.inr ⟨ob,s _ _ h⟩)
   ·exact .inr h) (DVs.mono s hs)
theorem DVs.mono{K:PySem.W.Frag}{H H':Hp}(s:Zn H H'):∀ {xs:List V} {ds:List PyData},DVs K H xs ds→DVs K H' xs ds
 | _,_,.nil=>.nil
 | _,_,.cons h hs=>.cons (DV.mono s h) (DVs.mono s hs)
end
def Zmf(K:PySem.W.Frag):List V→Hp→VK→Prop:=fun vs H Q=>∃ (p:Addr) (ns:List Int),vs=[.ref p]∧SqL K H p (ns.map V.int)∧0<ns.length∧∀M,M∈ns→(∀a∈ns,M≤a)→Q (.int M) H
theorem Zjo{X:Cx}(hc:X.calm=true):Z8 X (.builtin "min") (Zmf X.K):=by
 intro pins s σ H vs us Q I r h
 obtain⟨p,ns,rfl,hq,hne,q⟩:=h
 obtain⟨u,rfl,rx⟩:=ZbD r
 cases rx
 obtain⟨its,rv,pl,_⟩:=I.list hq
 have hi:=Zcp rv
 obtain⟨xs,e⟩:=hi.allInts.items
 have hns:ns=xs.toList.map (·.1):=by rw[← hi.numsOf,← nums_intItems,← e]
 have hsz:0<xs.size:=by
  have h3:=hne
  rw[hns,Qa,QH]at h3
  exact h3
 have hl:=pl.isList
 rw[e]at hl
 refine min_intList (I.ok.hd hc) hl hsz fun v h' tk hv hk=>?_
 obtain⟨t,rfl⟩:=intItems_at hv
 obtain⟨h1,h2⟩:=argBest_lt (numAt xs) (xs.size-1)
 refine⟨.int _,H,I.kept hk,⟨t,rfl⟩,q _ ?_ fun a ha=>?_⟩
 ·rw[hns,numAt_eq];exact getD_mem (by rw[Qa,QH];omega)
 ·rw[hns]at ha
  obtain⟨j,hj,rfl⟩:=mem_getD ha
  rw[Qa,QH]at hj
  rw[← numAt_eq];exact h2 j (by omega)
theorem ZnP{X:Cx}(K:PySem.W.Frag)(hc:X.calm=true:=by rfl)(h:X.K=K:=by rfl):Z8 X (.builtin "min") (Zmf K):=by subst h;exact Zjo hc
def ZmH(K:PySem.W.Frag):List V→Hp→VK→Prop:=fun xs H Q=>∃p ys,xs=[.ref p]∧(SqL K H p ys∨SqT K H p ys)∧∀l,H l=none→Q (.ref l) (upd H l (.lst ys))
theorem ZkA{X:Cx}(K:PySem.W.Frag)(h:X.K=K:=by rfl):Z8 X (.type "list") (ZmH K):=by subst h;exact Zfv
section
variable {prog:Program} {w:World} {A:Around} {E:Value→Shared→Prop} {s:Shared}
end
def ZeX(xs:List V)(lo hi:Option Int)(st:Int):List V :=
 (sliceRange (sliceBounds lo hi (some st) xs.length).1 (sliceBounds lo hi (some st) xs.length).2.1 (sliceBounds lo hi (some st) xs.length).2.2).filterMap fun i=>xs[i]?
theorem ZdS{xs:List V}{us:List Value}(r:ZE xs us):∀is:List Nat,ZE (is.filterMap fun i=>xs[i]?) (is.filterMap fun i=>us[i]?)
 | []=>.nil
 | i::is=>by
  have ih:=ZdS r is
  by_cases hi:i<xs.length
  ·have e1:xs[i]? = some xs[i]:=Qc hi
   obtain⟨u,hu,ru⟩:=r.get e1
   rw[QN,QN,e1,hu]
   exact .cons ru ih
  ·have e1:xs[i]? = none:=QT (by omega)
   have e2:us[i]? = none:=QT (by rw[← r.length];omega)
   rw[QN,QN,e1,e2]
   exact ih
def ZjS(X:Cx)(r:V→Option Int→Option Int→Int→Hp→VK→Prop):Prop :=
 ∀ (pins:List (Addr×Obj)) (s:Shared) (σ:St) (H:Hp) (x:V) (v vl vu vs:Value) (lo hi:Option Int) (st:Int) (sl:Addr) (Q:VK),Inv X pins σ H s→ZT x v→s.heap.IsSliceOf sl vl vu vs→IsPart vl lo→IsPart vu hi→IsPart vs (some st)→r x lo hi st H Q →
  ∃T id,typeLookup (.type T) "__getitem__" = pure (some (.builtin id))∧s.TypeIs v T∧wpAny (model X.prog X.w) X.A (getItem v (.ref sl)) (EP X pins σ Q) X.xe s
def Zod(r:V→Option Int→Option Int→Int→Hp→VK→Prop)(te:TE)(tl th ts:TO):TE:=fun σ H Q=>te σ H fun x H1=>tl σ H1 fun l H2=>th σ H2 fun u H3=>ts σ H3 fun k H4=>∃i,k=some i∧r x l u i H4 Q
section
variable {X:Cx} {e st:Expr} {te:TE} {lo hi:Option Expr} {tl th ts:TO} {pos p2:Pos}
theorem ZdT{r:V→Option Int→Option Int→Int→Hp→VK→Prop}(hr:ZjS X r)(he:PE X e te)(hl:PO X lo tl)(hu:PO X hi th)(hst:PO X (some st) ts):PE X (.Subscript e (.Slice lo hi (some st) p2) pos) (Zod r te tl th ts):=by
 intro pins s σ H Q I h
 refine Subscript_ (thn (he pins s σ H _ I h) ?_)
 rintro v s1 ⟨x,H1,I1,r1,q1⟩
 refine wpAny_Slice (thn (hl pins s1 σ H1 _ I1 q1) fun vl s2 ⟨l,H2,I2,pl,q2⟩=>thn (hu pins s2 σ H2 _ I2 q2) fun vu s3 ⟨u,H3,I3,pu,q3⟩=>thn (hst pins s3 σ H3 _ I3 q3) ?_)
 rintro vs s4 ⟨k,H4,I4,pk,q4⟩
 obtain⟨i,rfl,q4⟩:=q4
 have I5:Inv X pins σ H4 { s4 with heap:=s4.heap.push { cls:=.type "slice",data:=.fields #[vl,vu,vs] } }:=I4.kept (t':=s4.toks) fun b ob q=>Qb _ q
 obtain⟨T,id,hT,ht,hg⟩:=hr pins { s4 with heap:=s4.heap.push { cls:=.type "slice",data:=.fields #[vl,vu,vs] } } σ H4 x v vl vu vs l u i s4.heap.objs.size Q I5 r1 (Heap.IsSliceOf.new ..) pl pu pk q4
 show wpAny (model X.prog X.w) X.A (subscriptTail e (.Slice lo hi (some st) p2) v (.ref s4.heap.objs.size)) (EP X pins σ Q) X.xe { s4 with heap:=s4.heap.push { cls:=.type "slice",data:=.fields #[vl,vu,vs] } }
 exact tail_any (ops:=[v,.ref s4.heap.objs.size]) ht hT hg (by with_unfolding_all rfl)
def Zmg(K:PySem.W.Frag):V→Option Int→Option Int→Int→Hp→VK→Prop:=fun x lo hi st H Q=>∃a xs,x=.ref a∧SqL K H a xs∧st≠0∧∀p,H p=none→Q (.ref p) (upd H p (.lst (ZeX xs lo hi st)))
theorem ZjV:ZjS X (Zmg X.K):=by
 intro pins s σ H x v vl vu vs lo hi st sl Q I rx hs pl pu pk h
 obtain⟨a,xs,rfl,hx,hne,q⟩:=h
 cases rx
 obtain⟨its,r,ht,hz⟩:=I.list hx
 have hlen:=r.length
 refine⟨"list",_,slot_list_getitem.lookup,ht.isList.typeIs,?_⟩
 refine wpAny_getItem_list_slice ht.isList hs pl pu pk (by intro e;exact hne (QM e)) ?_ (by rw[Qq]<;>omega)
 have hsz:=slicePick_size_le its.toArray lo hi (some st)
 have hv:ZE (ZeX xs lo hi st) (slicePick its.toArray lo hi (some st)).toList:=by
  unfold slicePick ZeX
  simp only[List.size_toArray,← hlen]
  have:=ZdS r (sliceRange (sliceBounds lo hi (some st) xs.length).1 (sliceBounds lo hi (some st) xs.length).2.1 (sliceBounds lo hi (some st) xs.length).2.2)
  simpa using this
 refine⟨.ref s.heap.objs.size,_,I.laid (t':=s.toks) (o:=.lst (ZeX xs lo hi st)) (fun b ob q=>Qb _ q) (Qd _) ?_,rfl,q _ (I.hok.fresh (Qd _))⟩
 refine⟨?_,(slicePick its.toArray lo hi (some st)).toList,0,hv,?_⟩
 ·have e1:its.toArray.size=xs.length:=by rw[Qq];exact hlen.symm
  rw[hv.length,QH]
  exact QI hsz (by rw[e1];exact hz)
 ·simpa using Qp _ rfl
theorem Zn5(K:PySem.W.Frag)(h:X.K=K:=by rfl):ZjS X (Zmg K):=by subst h;exact ZjV
end
theorem Zd8(n:Nat):sliceRange ((n:Int)-1) (-1) (-1)=(List.range n).map fun i=>n-1-i:=by
 unfold sliceRange
 have hc:(if (-1:Int)>0 then (if (n:Int)-1 < -1 then (-1-((n:Int)-1) + -1-1) / -1 else 0) else (if (n:Int)-1 > -1 then ((n:Int)-1 - -1 - -1-1) / (- -1) else 0)).toNat=n:=by
  rw[if_neg (by decide)]
  by_cases h:(n:Int)-1 > -1
  ·rw[if_pos h,show (- -1:Int)=1 by decide,Int.ediv_one];omega
  ·rw[if_neg h];omega
 simp only[]
 rw[hc]
 apply Qah
 intro k hk
 have:=QJ.mp hk
 omega
theorem Zbs{α:Type}(xs:List α):((List.range xs.length).map fun i=>xs.length-1-i).filterMap (fun i=>xs[i]?)=xs.reverse:=by
 rw[List.filterMap_map]
 have e:∀n,n≤xs.length→(List.range n).filterMap ((fun i=>xs[i]?) ∘ fun i=>xs.length-1-i)=xs.reverse.take n:=by
  intro n
  induction n with
  | zero=>intro _;rfl
  | succ n ih =>
   intro hn
   rw[QaB,List.filterMap_append,ih (by omega)]
   have h1:xs[xs.length-1-n]? = some xs[xs.length-1-n]:=Qc (by omega)
   rw[QN]
   simp only[Function.comp,h1,List.filterMap_nil]
   rw[Qv,List.getElem?_reverse (by omega),h1]
   rfl
 rw[e _ (Qd _)]
 exact Qn (by simp)
theorem ZiH(xs:List V):ZeX xs none none (-1)=xs.reverse:=by
 have e:sliceRange (sliceBounds none none (some (-1)) xs.length).1 (sliceBounds none none (some (-1)) xs.length).2.1 (sliceBounds none none (some (-1)) xs.length).2.2=sliceRange ((xs.length:Int)-1) (-1) (-1):=rfl
 unfold ZeX
 rw[e,Zd8,Zbs]
section
variable {X:Cx}
def ZnB(K:PySem.W.Frag):List V→Hp→VK→Prop:=fun xs H Q=>∃p ys,xs=[.ref p]∧((SqL K H p ys∧∀l,H l=none→Q (.ref l) (upd H l (.tup ys)))∨(SqT K H p ys∧Q (.ref p) H))
theorem ZnI(K:PySem.W.Frag)(h:X.K=K:=by rfl):Z8 X (.type "tuple") (ZnB K):=by subst h;exact ZeV
end
section
variable {X:Cx} {tg:Expr}
theorem ZlW:OpR X (compareOp .IsNot) (fun x y H Q=>∃a b,x=.bl a∧y=.bl b∧Q (.bl (!decide (a=b))) H):=by
 intro pins s σ H x y v u Q I rx ry h
 obtain⟨a,b,rfl,rfl,q⟩:=h
 cases rx
 cases ry
 exact wpAny_isNot_plain rfl (ZU I q (by cases a<;>cases b<;>rfl))
end
def ZnK:PyData→Str
 | .str z=>z
 | d=>d.shown
def Z3(kvs:List (List Key×V))(k:List Key):Option V:=(kvs.find? fun kv=>decide (kv.1=k)).map (·.2)
abbrev Zc8(H:Hp):List (List Key×V)→List (List Key×Addr×Value)→Prop:=Paired fun (p:List Key×V) (q:List Key×Addr×Value)=>p.1=q.1∧H q.2.1=some (.tup (p.1.map kV))∧ZT p.2 q.2.2
theorem Zft{H:Hp}{kvs:List (List Key×V)}{xs:List (List Key×Addr×Value)}(r:Zc8 H kvs xs){p:List Key×V}{q:List Key×Addr×Value}(h:p.1=q.1∧H q.2.1=some (.tup (p.1.map kV))∧ZT p.2 q.2.2):Zc8 H (kvs++[p]) (xs++[q]):=by
 induction r with
 | nil=>exact .cons h .nil
 | cons a t ih=>exact .cons a ih
theorem ZdN{H H':Hp}{kvs:List (List Key×V)}{xs:List (List Key×Addr×Value)}(k:∀b ys,H b=some (.tup ys)→H' b=some (.tup ys))(r:Zc8 H kvs xs):Zc8 H' kvs xs:=by
 induction r with
 | nil=>exact .nil
 | cons a t ih=>exact .cons ⟨a.1,k _ _ a.2.1,a.2.2⟩ ih
theorem ZcS{H:Hp}{R:List Key→Addr→Prop}(k:∀ks b,H b=some (.tup (ks.map kV))→R ks b){kvs:List (List Key×V)}{xs:List (List Key×Addr×Value)}(r:Zc8 H kvs xs):∀x∈xs,R x.1 x.2.1:=by
 induction r with
 | nil=>intro x hx;cases hx
 | cons a t ih =>
  intro x hx
  rcases QK.mp hx with rfl|hx
  ·exact k _ _ (by rw[← a.1];exact a.2.1)
  ·exact ih x hx
theorem ZcV{H:Hp}{kvs:List (List Key×V)}{xs:List (List Key×Addr×Value)}(r:Zc8 H kvs xs):kvs.length=xs.length:=by
 induction r with
 | nil=>rfl
 | cons a t ih=>rw[QD,QD,ih]
theorem Zng{P:Program}{w:World}{k:Key}{u:Value}(r:ZT (kV k) u):(ZW P w).is k u=true:=by
 rcases k with i|x
 ·obtain⟨t,e⟩:=(show ∃t,u=Value.int i t from r)
  rw[e]
  exact ZgF P w i t
 ·obtain⟨t,e⟩:=(show ∃t,u=Value.str x t from r)
  rw[e]
  exact Zgd P w x t
theorem ZkB{P:Program}{w:World}:∀ (ks:List Key) (us:List Value),ZE (ks.map kV) us→ItemsAre (ZW P w) ks us:=by
 intro ks
 induction ks with
 | nil=>intro us r;cases (show ZE [] us from r);exact .nil
 | cons k ks ih =>
  intro us r
  cases (show ZE (kV k::ks.map kV) us from r) with
  | cons a b=>exact .cons (Zng a) (ih _ b)
section
variable {X:Cx} {pins:List (Addr×Obj)} {σ:St} {H:Hp} {s:Shared}
theorem Inv.tkey{ks:List Key}{b:Addr}(I:Inv X pins σ H s)(e:H b=some (.tup (ks.map kV))):(tupleKind (ZW X.prog X.w)).is s.heap ks b:=by
 obtain⟨_,its,r,hb⟩:=I.hok b _ e
 obtain⟨o,h1,h2,n,h3⟩:=hb
 refine⟨o,its.toArray,n,h1,h2,h3,?_⟩
 have:=ZkB (P:=X.prog) (w:=X.w) ks its r
 simpa using this
def ZnQ:TE:=fun _ H Q=>∀p,H p=none→Q (.ref p) (upd H p (.dT []))
theorem ZlY{pos:Pos}:PE X (.Dict [] [] pos) ZnQ:=by
 intro pins s σ H Q I h
 have hb:sysModules<s.heap.objs.size:=QaG (by decide) (show mainGlobals<s.heap.objs.size from(I.mod.glob.keeps I.bk).lt)
 refine wpAny_Dict_empty ⟨.ref s.heap.objs.size,upd H s.heap.objs.size (.dT []),?_,rfl,h _ (I.hok.fresh (Qd _))⟩
 refine I.laid (t':=s.toks) (fun _ _ q=>Qb _ q) (Qd _) ?_
 refine⟨Qm _,?_,[],.nil,_,#[],0,Qp _ rfl,⟨rfl,rfl,rfl⟩,rfl,rfl,List.nodup_nil⟩
 exact beq_eq_false_iff_ne.mpr fun z=>QX _ (z ▸ hb)
end
def ZnC:List V→Hp→VK→Prop:=fun xs H Q=>∃j:Int,xs=[.int j]∧∀p,H p=none→Q (.ref p) (upd H p (.rng 0 j))
theorem Zlo{X:Cx}:Z8 X (.type "range") ZnC:=by
 intro pins s σ H xs us Q I r h
 obtain⟨j,rfl,q⟩:=h
 obtain⟨u,rfl,t,rfl⟩:=ZbD r
 refine call_range_1 ⟨.ref s.heap.objs.size,_,I.laid (a:=s.heap.objs.size) (o:=.rng 0 j) (fun b o e=>Qb _ e) (Qd _) ?_,rfl,q _ (I.hok.fresh (Qd _))⟩
 exact⟨_,_,_,Qp _ rfl⟩
def Z6(lo:Int)(n:Nat):List Int:=(List.range n).map fun (k:Nat)=>lo+k
theorem ZbQ(lo:Int)(n:Nat):(Z6 lo n).length=n:=by simp[Z6]
theorem Zhk{lo:Int}:∀ (n:Nat) (us:List Value),us.length=n→(∀ (j:Nat) (v:Value),us[j]? = some v→∃t,v=Value.int (lo+j*1) t)→ZE ((Z6 lo n).map V.int) us:=by
 intro n us hl h
 subst hl
 induction us generalizing lo with
 | nil=>exact .nil
 | cons u r ih =>
  have e:Z6 lo (u::r).length=lo::Z6 (lo+1) r.length:=by
   unfold Z6
   rw[QD,List.range_succ_eq_map,QE,Q0]
   refine congr (congrArg _ (by simp)) (Qah fun a _=>?_)
   simp only[Function.comp]
   omega
  rw[e,QE]
  refine .cons ?_ (ih fun j v hv=>?_)
  ·obtain⟨t,e⟩:=h 0 u rfl
   exact⟨t,by rw[e];simp⟩
  ·obtain⟨t,e⟩:=h (j+1) v (by simpa using hv)
   exact⟨t,by rw[e];congr 1;omega⟩
def ZmN:List V→Hp→VK→Prop:=fun xs H Q=>∃ (p:Addr) (lo hi:Int),xs=[.ref p]∧H p=some (.rng lo hi) ∧ -(2 ^ 62)≤lo∧lo<2 ^ 62 ∧ -(2 ^ 62)≤hi∧hi<2 ^ 62∧(hi-lo).toNat≤1000 ∧
 ∀l,H l=none→Q (.ref l) (upd H l (.lst ((Z6 lo (hi-lo).toNat).map V.int)))
theorem ZhS{X:Cx}(hc:X.calm=true:=by rfl):Z8 X (.type "list") ZmN:=by
 intro pins s σ H xs us Q I r h
 obtain⟨p,lo,hi,rfl,hp,h1,h2,h3,h4,h5,q⟩:=h
 obtain⟨u,rfl,rx⟩:=ZbD r
 cases rx
 obtain⟨t,u,v,e⟩:=I.hok _ _ hp
 have sz:Builtin.Range.rangeSize lo hi 1=(((hi-lo).toNat:Nat):Int):=by rw[rangeSize_one];split<;>omega
 refine call_list_range (I.ok.hd hc) e (small_one h1 h2 h3 h4) sz (by omega) fun h' tk acc' c' kp e' it=>?_
 refine⟨.ref s.heap.objs.size,_,I.laid (t':=tk) kp (Qd _) (show Zah X.prog X.w _ h' _ (.lst ((Z6 lo (hi-lo).toNat).map V.int)) from⟨?_,acc'.toList,c',Zhk _ _ (by simpa using it.1) (fun j v hv=>it.2 j v (by simpa using hv)),by simpa using e'⟩),rfl,q _ (I.hok.fresh (Qd _))⟩
 rw[Qa,ZbQ]
 exact Q3 (ZM h5)
theorem Zgi(n:Nat):Builtin.Slice.sliceAdjust none none (-1) (n:Int)=((n:Int)-1,-1):=by
 unfold Builtin.Slice.sliceAdjust
 simp
theorem Zgr(n:Nat):Builtin.Slice.slicePlaces ((n:Int)-1) (-1) (-1)=n:=by
 unfold Builtin.Slice.slicePlaces
 have h1:¬ ((-1:Int)>0):=by omega
 simp only[h1,if_false]
 by_cases h:(n:Int)-1 > -1
 ·simp only[h,if_true];simp
 ·simp only[h,if_false];omega
section
variable {prog:Program} {w:World} {A:Around} {E:Value→Shared→Prop} {s:Shared}
theorem ZdD{sl:Addr}{t:Tok}{n:Nat}{Q:Int×Int×Nat→Shared→Prop}(hs:s.heap.IsSliceOf sl .none .none (.int (-1) t))
  (h:Q ((n:Int)-1,-1,n) s):wpAny (model prog w) A (Builtin.Slice.sliceApplied (.ref sl) (pure (n:Int))) Q E s:=by
 obtain⟨os,hos,hcs,hds⟩:=id hs
 unfold Builtin.Slice.sliceApplied Builtin.Slice.sliceFields
 refine wpAny_bind (wpAny_bind (wpAny_field hos hds (x:=.none) rfl (wpAny_bind (wpAny_field hos hds (x:=.none) rfl (wpAny_bind (wpAny_field hos hds (x:=.int (-1) t) rfl (wpAny_pure ?_)))))))
 refine wpAny_bind (slicePart_int ?_)
 show wpAny _ _ (if ((-1:Int) == 0)=true then _ else _) _ _ s
 rw[if_neg (by decide)]
 refine wpAny_bind (slicePart_none (wpAny_bind (slicePart_none (wpAny_bind (wpAny_pure ?_)))))
 show wpAny _ _ (match Builtin.Slice.sliceAdjust none none (-1) (n:Int) with|(lo,hi)=>pure (lo,(-1:Int),Builtin.Slice.slicePlaces lo hi (-1))) _ _ s
 rw[Zgi n]
 show wpAny _ _ (pure ((n:Int)-1,(-1:Int),Builtin.Slice.slicePlaces ((n:Int)-1) (-1) (-1))) _ _ s
 rw[Zgr]
 exact wpAny_pure h
theorem ZgW{α β:Type}{f g:α→Option β}:∀l:List α,(∀m∈l,f m=g m)→l.filterMap f=l.filterMap g
 | [],_=>rfl
 | a::r,h=>by rw[QN,QN,h a (by simp),ZgW r fun m hm=>h m (Ql _ hm)]
theorem Zjf(xs:Array Value):((List.range xs.size).filterMap fun (m:Nat)=>xs[(((xs.size:Nat):Int)-1+(m:Int)*(-1)).toNat]?).toArray=xs.toList.reverse.toArray:=by
 have h:=Zbs xs.toList
 rw[List.filterMap_map]at h
 have e:∀m∈List.range xs.size,xs[(((xs.size:Nat):Int)-1+(m:Int)*(-1)).toNat]? = ((fun i=>xs.toList[i]?) ∘ fun i=>xs.toList.length-1-i) m:=fun m hm=>by
  have hm':=QJ.mp hm
  have e1:(((xs.size:Nat):Int)-1+(m:Int)*(-1)).toNat=xs.toList.length-1-m:=by rw[QH];omega
  rw[e1]
  simp
 rw[ZgW _ e]
 rw[show List.range xs.size=List.range xs.toList.length by rw[QH],h]
theorem Zdg{t sl:Addr}{items:Array Value}{tk:Tok}{Q:Value→Shared→Prop}(ht:IsTup s.heap t items)(hs:s.heap.IsSliceOf sl .none .none (.int (-1) tk))
  (h:Q (.ref s.heap.objs.size) { s with heap:=s.heap.push { cls:=.type "tuple",data:=.seq items.toList.reverse.toArray } })
  (hsz:items.size≤sizeLine):wpAny (model prog w) A (getItem (.ref t) (.ref sl)) Q E s:=by
 have htake:sizeOk (.seq items.toList.reverse.toArray):=by
  show items.toList.reverse.toArray.size≤sizeLine
  rw[Qq,Qaw,QH]
  exact hsz
 obtain⟨os,hos,hcs,hds⟩:=id hs
 have hTs:s.TypeIs (.ref sl) "slice":=⟨os,hos,hcs⟩
 unfold getItem
 try with_reducible refine wpAny_holding ?_
 first|refine wpAny_bind (wpAny_pure ?_)|skip
 refine wpAny_bind (wpAny_sequenceKey ht.typeIs (by decide) ?_)
 refine wpAny_bind (wpAny_callSpecial?_slot (name:=Str.ofString "__getitem__") ht.typeIs Q8
  (wpAny_call_entry Q8 ht.typeIs entry_tuple_getitem ?_ (args_tuple_getitem _ _)))
 show wpAny _ _ (Builtin.Tuple.tupleItemsOf (.ref t) >>= _) _ _ s
 refine wpAny_bind (tupleItemsOf_ ht ?_)
 refine wpAny_bind (wpAny_typeOf hTs ?_)
 rw[if_pos (by decide)]
 refine wpAny_bind (ZdD hs ?_)
 have hno:¬ ((((items.size:Nat):Int)-1 == 0&&(-1:Int) == 1&&items.size == items.size)=true):=by
  intro q
  rw[Qaj,Qaj]at q
  exact absurd q.1.2 (by decide)
 show wpAny _ _ (if (((items.size:Nat):Int)-1 == 0&&(-1:Int) == 1&&items.size == items.size)=true then _ else _) _ _ s
 rw[if_neg hno,Zjf]
 first
  | exact wpAny_bind (m:=Builtin.Tuple.tupleExact _) (wpAny_newObj_type (wpAny_pure ⟨_,rfl,wpAny_pure h⟩) htake)
  | exact wpAny_bind (m:=Builtin.Tuple.tupleExact _) (wpAny_newObj_type (wpAny_bind (wpAny_pure (wpAny_pure ⟨_,rfl,wpAny_pure h⟩))) htake)
  | exact wpAny_bind (wpAny_bind (m:=Builtin.Tuple.tupleExact _) (wpAny_newObj_type (wpAny_pure (wpAny_pure ⟨_,rfl,wpAny_pure h⟩)) htake))
  | exact wpAny_bind (wpAny_bind (m:=Builtin.Tuple.tupleExact _) (wpAny_newObj_type (wpAny_pure ⟨_,rfl,wpAny_pure h⟩) htake))
end
section
variable {X:Cx}
def Zmb(K:PySem.W.Frag):V→Option Int→Option Int→Int→Hp→VK→Prop:=fun x lo hi st H Q=>∃a xs,x=.ref a∧SqT K H a xs∧lo=none∧hi=none∧st = -1∧∀p,H p=none→Q (.ref p) (upd H p (.tup xs.reverse))
theorem Zlm:ZjS X (Zmb X.K):=by
 intro pins s σ H x v vl vu vs lo hi st sl Q I rx hs pl pu pk h
 obtain⟨a,xs,rfl,hx,rfl,rfl,rfl,q⟩:=h
 cases rx
 cases pl
 cases pu
 cases pk
 obtain⟨its,r,ht,hz⟩:=I.tuple hx
 have hlen:its.toArray.size=xs.length:=by rw[Qq];exact r.length.symm
 refine⟨"tuple",_,PyProof.Rows.slot_tuple_getitem.lookup,ht.typeIs,?_⟩
 refine Zdg ht hs ?_ (by rw[hlen];exact hz)
 refine⟨.ref s.heap.objs.size,_,I.laid (t':=s.toks) (o:=.tup xs.reverse) (fun b ob q=>Qb _ q) (Qd _) ?_,rfl,q _ (I.hok.fresh (Qd _))⟩
 refine⟨by rw[Qaw];exact hz,its.reverse,?_,?_⟩
 ·have hv:=ZdS r ((List.range xs.length).map fun i=>xs.length-1-i)
  rw[Zbs]at hv
  rw[r.length]at hv
  rw[Zbs]at hv
  exact hv
 ·simpa using IsTup.new s.heap its.reverse.toArray
theorem Zn4(K:PySem.W.Frag)(h:X.K=K:=by rfl):ZjS X (Zmb K):=by subst h;exact Zlm
def ZgD(K:PySem.W.Frag):V→List V→Hp→VK→Prop:=fun x vs H Q=>∃l b xs zs,x=.ref l∧vs=[.ref b]∧H l=some (.lst xs)∧H b=some (.tup zs)∧xs.length+zs.length≤sizeLine∧Q .non (upd H l (.lst (xs++zs)))
theorem ZdG{prog:Program}{w:World}{A:Around}{E:Value→Shared→Prop}{s:Shared}{a:Addr}{o:Obj}{xs:Array Value}{n:Nat}{Q:Array Value→Shared→Prop}(ho:s.heap.get? a=some o)(hd:o.data=.seq xs n)(h:Q xs s):wpAny (model prog w) A (Builtin.List.listItems (.ref a)) Q E s:=by
 unfold Builtin.List.listItems
 exact wpAny_bind (wpAny_seqItems ho hd (wpAny_pure h))
theorem ZhG:MtM X "list.extend" (ZgD X.K):=by
 intro pins s σ H x vs v us Q I rx rv h
 obtain⟨l,b,xs,zs,rfl,rfl,hH,hB,hz,q⟩:=h
 cases rx
 obtain⟨u,rfl,ru⟩:=rv.one
 cases ru
 obtain⟨z,its,n,r,hl,e⟩:=I.lstM hH
 obtain⟨its2,r2,ht2,hz2⟩:=I.tuple (SqT.of hB)
 have hl2:=r2.length
 have hsz:its.toArray.size+its2.toArray.size≤sizeLine:=by rw[Qq,Qq];omega
 have hlong:¬ (!its.toArray.isEmpty&&Builtin.List.listTooLong (its.toArray.size+its2.toArray.size))=true:=by
  rw[Zdp hsz,Bool.and_false]
  exact Qj
 refine wpAny_call_entry F.slot_list_extend ⟨_,e,rfl⟩ F.entry_list_extend ?_ (F.args_list_extend_2 _ _)
 show wpAny _ _ (Builtin.List.listExtendWith (.ref l) (.ref b) .none) _ _ s
 unfold Builtin.List.listExtendWith
 refine wpAny_bind (wpAny_typeOf ht2.typeIs ?_)
 rw[if_pos (by simp)]
 obtain⟨o2,ho2,hc2,n2,hd2⟩:=id ht2
 refine wpAny_bind (ZdG ho2 hd2 (wpAny_bind (ZdG e rfl ?_)))
 rw[if_neg hlong]
 refine wpAny_bind (wpAny_updateSeq e rfl ?_ ?_ ?_)
 ·exact wpAny_pure ⟨_,rfl,.non,_,I.lset (its':=its++its2) hH e (by simp) (r.append r2) (by rw[Qe];omega),rfl,q⟩
 ·omega
 ·show (its.toArray++its2.toArray).size≤_
  rw[Array.size_append];omega
theorem ZmV(K:PySem.W.Frag)(h:X.K=K:=by rfl):MtM X "list.extend" (ZgD K):=by subst h;exact ZhG
def Zmx(to:TE)(tl th:TO):TG:=fun v σ H Q=>to σ H fun o H1=>tl σ H1 fun l H2=>th σ H2 fun u H3=>∃ (p b:Addr) (xs ys:List V) (a c:Int),o=.ref p∧v=.ref b∧l=some a∧u=some c∧H3 p=some (.lst xs)∧H3 b=some (.lst ys)∧p≠b∧0≤a∧a≤c∧c≤xs.length∧xs.length+ys.length≤sizeLine ∧
 Q σ (upd H3 p (.lst (xs.take a.toNat++ys++xs.drop c.toNat)))
theorem Zkt{o:Expr}{lo hi:Option Expr}{to:TE}{tl th:TO}{pos p2:Pos}(ho:PE X o to)(hl:PO X lo tl)(hu:PO X hi th)
  (ha:∀v,assign (.Subscript o (.Slice lo hi none p2) pos) X.env v=(do
   let ov ← holding [v] (eval o X.env)
   let iv ← holding [v,ov] (eval (.Slice lo hi none p2) X.env)
   standAt pos
   holding [v,ov,iv] (setItem ov iv v)
   release [iv,v,ov] []):=by intro _;rfl):PG X (.Subscript o (.Slice lo hi none p2) pos) (Zmx to tl th):=by
 intro pins s σ H v u Q I r h
 rw[ha]
 refine wpAny_bind (wpAny_holding (thn (ho pins s σ H _ I h) ?_))
 rintro ov s1 ⟨x,H1,I1,r1,q1⟩
 refine wpAny_bind (wpAny_holding (wpAny_Slice (thn (hl pins s1 σ H1 _ I1 q1) fun vl s2 ⟨l,H2,I2,pl,q2⟩=>thn (hu pins s2 σ H2 _ I2 q2) ?_)))
 rintro vu s3 ⟨k,H3,I3,pu,q3⟩
 refine wpAny_evalPart_none ?_
 obtain⟨p,b,xs,ys,a,c,rfl,rfl,rfl,rfl,hp,hb,hne,h0,hac,hc,hz,q⟩:=q3
 cases r
 cases r1
 have I4:Inv X pins σ H3 { s3 with heap:=s3.heap.push { cls:=.type "slice",data:=.fields #[vl,vu,.none] } }:=I3.kept (t':=s3.toks) fun b ob q=>Qb _ q
 cases pl with
 | int i t =>
  cases pu with
  | int j t' =>
   refine wpAny_bind (wpAny_standAt (wpAny_bind (wpAny_holding (Zjc I4 hp hb hne (Heap.IsSliceOf.new ..) ⟨t,rfl⟩ ⟨t',rfl⟩ h0 hac hc hz fun s' I5=>?_))))
   exact wpAny_release ⟨σ,_,I5,q⟩
theorem ZcE(ns:List Int):∀n,n≤ns.length→preSum (fun j=>ns.getD j 0) n=(ns.take n).sum
 | 0,_=>rfl
 | n+1,h=>by
  have ih:=ZcE ns n (by omega)
  have e:ns.take (n+1)=ns.take n++[ns.getD n 0]:=by
   rw[Qv,Qc (by omega),QL,Qc (by omega)]
   rfl
  rw[e,List.sum_append,← ih]
  simp[preSum]
end
section
variable {prog:Program} {w:World} {A:Around} {E:Value→Shared→Prop} {s:Shared} {κ:PyProof.Rows.KeyKind} {k0:SortKind} {a₀:Array Keyed} {st:SortSt}
structure SB (k0:SortKind) (a₀:Array Keyed) (st:SortSt):Prop where
 perm:(arrOf st).Perm a₀
 kind:kindOf st=k0
 failed:failedOf st=none
 pend:pendingOf st = #[]
end
section
variable {prog:Program} {w:World} {A:Around} {E:Value→Shared→Prop} {s:Shared} {κ:PyProof.Rows.KeyKind}
end
def kLt:Key→Key→Bool
 | .inl i,.inl j=>decide (i<j)
 | .inr x,.inr y=>decide (x.cps.toList<y.cps.toList)
 | .inl _,.inr _=>true
 | .inr _,.inl _=>false
theorem Zhp:∀a:Key,kLt a a=false
 | .inl i=>decide_eq_false (by omega)
 | .inr x=>decide_eq_false (List.lt_irrefl _)
theorem Zjb:∀a b c:Key,kLt a b=true→kLt b c=true→kLt a c=true
 | .inl i,.inl j,.inl k,h1,h2=>by have:=of_decide_eq_true h1;have:=of_decide_eq_true h2;exact decide_eq_true (by omega)
 | .inr x,.inr y,.inr z,h1,h2=>decide_eq_true (List.lt_trans (of_decide_eq_true h1) (of_decide_eq_true h2))
 | .inl _,.inl _,.inr _,_,_=>rfl
 | .inl _,.inr _,.inr _,_,_=>rfl
 | .inl _,.inr _,.inl _,_,h=>by cases h
 | .inr _,.inl _,_,h,_=>by cases h
 | .inr _,.inr _,.inl _,_,h=>by cases h
def ZbW:List Key→List Key→Bool
 | [],[]=>false
 | [],_::_=>true
 | _::_,[]=>false
 | x::xs,y::ys=>if x=y then ZbW xs ys else kLt x y
theorem Zfa(x y:Key)(xs ys:List Key):ZbW (x::xs) (y::ys)=if x=y then ZbW xs ys else kLt x y:=rfl
theorem ZcF:∀a:List Key,ZbW a a=false
 | []=>rfl
 | x::r=>by unfold ZbW;rw[if_pos rfl];exact ZcF r
theorem ZeC:∀a b c:List Key,ZbW a b=true→ZbW b c=true→ZbW a c=true
 | [],[],_,h,_=>by cases h
 | [],_::_,[],_,h=>by cases h
 | [],_::_,_::_,_,_=>rfl
 | _::_,[],_,h,_=>by cases h
 | _::_,_::_,[],_,h=>by cases h
 | x::r,y::s,z::t,h1,h2=>by
  have ih:=ZeC r s t
  unfold ZbW at h1 h2 ⊢
  by_cases e1:x=y
  ·rw[if_pos e1]at h1
   by_cases e2:y=z
   ·rw[if_pos e2]at h2
    rw[if_pos (e1.trans e2)]
    exact ih h1 h2
   ·rw[if_neg e2]at h2
    rw[if_neg (fun e=>e2 (e1.symm.trans e)),e1]
    exact h2
  ·rw[if_neg e1]at h1
   by_cases e2:y=z
   ·rw[if_neg (fun e=>e1 (e.trans e2.symm)),← e2]
    exact h1
   ·rw[if_neg e2]at h2
    have h3:=Zjb _ _ _ h1 h2
    rw[if_neg (fun e=>by rw[e,Zhp]at h3;cases h3)]
    exact h3
def ZbN(ks:List Key):List Bool:=ks.map fun k=>k.isLeft
section
variable {prog:Program} {w:World} {A:Around} {E:Value→Shared→Prop} {s:Shared}
end
section
variable {prog:Program} {w:World} {A:Around} {E:Value→Shared→Prop} {s:Shared}
end
abbrev ZaF:=List (Addr×List Key)
def Zl(ts:ZaF):List V:=ts.map fun t=>V.ref t.1
def AtT(H:Hp)(ts:ZaF):Prop:=∀t∈ts,H t.1=some (.tup (t.2.map kV))
theorem Zfl:∀ {ts:ZaF} {us:List Value},ZE (Zl ts) us→us=ts.map fun t=>Value.ref t.1
 | [],_,h=>by cases h;rfl
 | t::r,_,h=>by
  cases h with
  | cons a b=>rw[Zfl b];cases a;rfl
theorem ZjL(A:Around)(s:Shared){k m:Key}{p q:Value}(hp:ZT (kV k) p)(hq:ZT (kV m) q)(hs:k.isLeft=m.isLeft):∃e,SeqAt.EqAt A s p q e∧(e=true↔k=m):=by
 cases k with
 | inl i =>
  cases m with
  | inl j =>
   obtain⟨t,rfl⟩:=hp
   obtain⟨u,rfl⟩:=hq
   exact⟨_,SeqAt.EqAt.int_int i t j u,by simp⟩
  | inr y=>cases hs
 | inr x =>
  cases m with
  | inl j=>cases hs
  | inr y =>
   obtain⟨t,rfl⟩:=hp
   obtain⟨u,rfl⟩:=hq
   exact⟨_,SeqAt.EqAt.str_str x t y u,by simp⟩
theorem ZkK(A:Around)(s:Shared){k m:Key}{p q:Value}(hp:ZT (kV k) p)(hq:ZT (kV m) q)(hs:k.isLeft=m.isLeft)(prog:Program)(w:World)(E:Value→Shared→Prop)(Q:Value→Shared→Prop)(h:Q (.bool (kLt k m)) s) :
  wpAny (model prog w) A (richCompare .Lt p q) Q E s:=by
 cases k with
 | inl i =>
  cases m with
  | inl j =>
   obtain⟨t,rfl⟩:=hp
   obtain⟨u,rfl⟩:=hq
   exact(PyProof.Rows.lt_int h:wpAny (model prog w) A (compareOp .Lt (.int i t) (.int j u)) Q E s)
  | inr y=>cases hs
 | inr x =>
  cases m with
  | inl j=>cases hs
  | inr y =>
   obtain⟨t,rfl⟩:=hp
   obtain⟨u,rfl⟩:=hq
   exact(PyProof.Rows.lt_str h:wpAny (model prog w) A (compareOp .Lt (.str x t) (.str y u)) Q E s)
section
open PySem.SeqAt
open PySem.AutoSeq1 (wpAny_loadPart')
open PySem.MeetsSeq PySem.MeetsSeq2 PySem.MeetsSeq3
theorem ZeW(l b:Addr)(items items2:Array Value)(n n2:Nat)(dd dd2:Option Addr)(sl sl2:Array (Option Value))(ks ms:List Key)(hi:ZE (ks.map kV) items.toList)(hj:ZE (ms.map kV) items2.toList)(hs:ZbN ks=ZbN ms) :
  Meets (Builtin.«tuple.__lt__» ⟨[.ref l,.ref b],[]⟩)
   (fun _ R s=>s.heap.get? l=some { cls:=.type "tuple",dict:=dd,data:=.seq items n,slots:=sl }∧s.heap.get? b=some { cls:=.type "tuple",dict:=dd2,data:=.seq items2 n2,slots:=sl2 } ∧
    R (.ok (.ret (.bool (ZbW ks ms)))) s) :=
 .of_wp fun prog w A R s h=>by
  obtain⟨hp,g,d,tk,os⟩:=s;obtain⟨hl,hb,h⟩:=h
  have f2:=AutoSeq1.sub_tuple_tuple
  have z1:items.size=ks.length:=by have:=hi.length;simpa using this.symm
  have z2:items2.size=ms.length:=by have:=hj.length;simpa using this.symm
  have z3:ks.length=ms.length:=by have:=congrArg List.length hs;simpa [ZbN] using this
  wp_walk using wpAny_loadPart' hl,wpAny_loadPart' hb,wpAny_forIn_list _ (fun rest b s'=>b.1=none∧s'=⟨hp,g,d,tk,os⟩∧∃ (vs ws:List Value) (ks' ms':List Key),rest=vs.zip ws ∧
   ZE (ks'.map kV) vs∧ZE (ms'.map kV) ws∧ZbN ks'=ZbN ms'∧R (.ok (.ret (.bool (ZbW ks' ms')))) ⟨hp,g,d,tk,os⟩) _
  case turn =>
   rintro⟨y,x⟩ rest b s' ⟨hb',rfl,vs,ws,ks',ms',hz,hvi,hwi,hsh,hR⟩
   cases ks' with
   | nil=>cases hvi;rw[List.zip_nil_left]at hz;cases hz
   | cons k1 kr =>
    cases ms' with
    | nil=>cases hsh
    | cons m1 mr =>
     cases hvi with
     | cons r1 rr =>
      cases hwi with
      | cons r1' rr' =>
       rw[List.zip_cons_cons]at hz
       injection hz with hyx hrest
       injection hyx with hy hx
       subst hy hx
       rw[Zfa]at hR
       unfold ZbN at hsh
       rw[QE,QE]at hsh
       injection hsh with s1 s2
       obtain⟨e,he,hiff⟩:=ZjL A.in1 ⟨hp,g,d,tk,os⟩ r1 r1' s1
       refine wpAny_bind (he prog w _ _ ?_)
       cases e with
       | true =>
        rw[if_pos (hiff.mp rfl)]at hR
        wp_walk
        exact⟨rfl,rfl,_,_,_,_,hrest,rr,rr',s2,hR⟩
       | false =>
        rw[if_neg (fun q=>absurd (hiff.mpr q) Qj)]at hR
        have hri:=ZkK A.in1 ⟨hp,g,d,tk,os⟩ r1 r1' s1 prog w
        wp_walk using hri
        exact⟨_,rfl,by simpa using hR⟩
  case fin =>
   rintro⟨b1,b2⟩ s' ⟨hb',rfl,vs,ws,ks',ms',hz,hvi,hwi,hsh,hR⟩
   simp only at hb'
   subst hb'
   have hv:ZbW ks' ms'=decide (items.size<items2.size):=by
    rw[decide_eq_false (by omega)]
    cases ks' with
    | nil =>
     cases ms' with
     | nil=>rfl
     | cons _ _=>cases hsh
    | cons k1 kr =>
     cases ms' with
     | nil=>cases hsh
     | cons m1 mr =>
      cases hvi with
      | cons r1 rr =>
       cases hwi with
       | cons r1' rr'=>rw[List.zip_cons_cons]at hz;cases hz
   rw[hv]at hR
   wp_walk
   exact⟨_,rfl,by simpa [Builtin.Tuple.tupleCompareSizes] using hR⟩
  case h =>
   exact⟨rfl,rfl,items.toList,items2.toList,ks,ms,rfl,hi,hj,hs,h⟩
end
section
variable {prog:Program} {w:World} {A:Around} {E:Value→Shared→Prop} {s:Shared}
theorem Zhv{l b:Addr}{items items2:Array Value}{ks ms:List Key}{Q:Value→Shared→Prop}(hl:IsTup s.heap l items)(hb:IsTup s.heap b items2)(hi:ZE (ks.map kV) items.toList)(hj:ZE (ms.map kV) items2.toList)(hs:ZbN ks=ZbN ms)
  (hu:A.units<cLine) (h:Q (.bool (ZbW ks ms)) s):wpAny (model prog w) A (richCompare .Lt (.ref l) (.ref b)) Q E s:=by
 obtain⟨⟨cls,dd,data,sl⟩,ho,hc,n,hd⟩:=id hl
 obtain⟨⟨cls2,dd2,data2,sl2⟩,ho2,hc2,n2,hd2⟩:=id hb
 simp only at hc hd hc2 hd2
 subst hc hd hc2 hd2
 exact richCompare_meets_room (op:=.Lt) ⟨_,ho,rfl⟩ ⟨_,ho2,rfl⟩ PySem.F.slot_tuple_lt PySem.F.entry_tuple_lt (PySem.F.args_tuple_lt_2 _ _) (ZeW l b items items2 n n2 dd dd2 sl sl2 ks ms hi hj hs)
  ⟨ho,ho2,show Value.bool (ZbW ks ms)≠Value.notImplemented∧Q (.bool (ZbW ks ms)) s from⟨(fun x=>nomatch x),h⟩⟩ hu
end
section
variable {prog:Program} {w:World}
theorem Zji{A:Around}{a:Args}:(A.under (.builtin "min.loop" a)).units≤A.units+1:=by
 show A.units+(Code.builtin "min.loop" a).cUnits≤A.units+1
 first|exact Qd _|simp[Code.cUnits,Code.frames,Code.isFrame]
theorem ZeG{A:Around}{R:Result→Shared→Prop}{l I S:Addr}{ts:ZaF}{sh:List Bool}{h0:Heap}{kw:List (Str×Value)}(hh:A.handled=none)(hu:A.units+4<cLine)(hlist:h0.IsList l (ts.map fun t=>Value.ref t.1).toArray)
  (hI:h0.get? I=none) (hS:h0.get? S=none) (hSI:S≠I) (htup:∀t∈ts,∃its:List Value,ZE (t.2.map kV) its∧IsTup h0 t.1 its.toArray) (hsh:∀t∈ts,ZbN t.2=sh) (s0:Shared)
  (q:∀ (h':Heap) (t:Addr×List Key),(∀b o,h0.get? b=some o→h'.get? b=some o)→t∈ts→(∀u∈ts,ZbW u.2 t.2=false)→R (.ok (.ret (.ref t.1))) { s0 with heap:=h' }) :
  ∀ (k j:Nat) (h:Heap) (t:Addr×List Key) (c:Nat),ts.length-j=k→j≤ts.length→(∀b o,h0.get? b=some o→h.get? b=some o)→h.IsListIter I l j→h.get? S=some { cls:=.type "list",data:=.seq #[.ref t.1,.ref t.1] c }→t∈ts →
   (∀u∈ts.take j,ZbW u.2 t.2=false)→codeAny (model prog w) A (.builtin "min.loop" { pos:=[.ref I,.none,.ref S],kw:=kw }) R { s0 with heap:=h }
 | k,j,h,t,c,hk,hj,keep,hit,hst,htm,hbest=>by
  refine codeAny_builtin F.entry_min_loop ?_
  show wpAny _ _ (seqItems? (.ref S) >>= _) _ _ _
  refine wpAny_bind (wpAny_seqItems hst rfl ?_)
  have keepL:h.IsList l (ts.map fun t=>Value.ref t.1).toArray:=by
   obtain⟨o,ho,r⟩:=hlist
   exact⟨o,keep _ _ ho,r⟩
  by_cases hlt:j<ts.length
  ·have hx:((ts.map fun t=>Value.ref t.1).toArray)[j]? = some (Value.ref ts[j].1):=by simp[hlt]
   refine wpAny_bind (wpAny_tryCatch (wpAny_pyNext_list_item hit keepL hx fun h1 hit1 sb=>?_))
   have keep1:∀b o,h0.get? b=some o→h1.get? b=some o:=fun b o hb=>by
    have nb:b≠I:=fun e=>by rw[e,hI]at hb;cases hb
    rw[sb.2 b nb];exact keep b o hb
   have hst1:h1.get? S=some { cls:=.type "list",data:=.seq #[.ref t.1,.ref t.1] c }:=by rw[sb.2 S hSI];exact hst
   refine wpAny_bind (wpAny_pure ?_)
   have hjm:ts[j]∈ts:=Q5 hlt
   obtain⟨i1,v1,t1⟩:=htup _ hjm
   obtain⟨i2,v2,t2⟩:=htup _ htm
   have tup1:∀ {a:Addr} {its:List Value},IsTup h0 a its.toArray→IsTup h1 a its.toArray:=fun ⟨o,ho,hc⟩=>⟨o,keep1 _ _ ho,hc⟩
   have hsh1:ZbN ts[j].2=ZbN t.2:=(hsh _ hjm).trans (hsh _ htm).symm
   refine wpAny_bind (wpAny_tryCatch (wpAny_holding (wpAny_bind (Zhv (tup1 t1) (tup1 t2) (by simpa using v1) (by simpa using v2) hsh1 (Nat.lt_of_le_of_lt Zji (by omega)) (wpAny_bind (wpAny_holding (wpAny_truthy_bool (wpAny_bind (wpAny_letGo (wpAny_pure ?_))))))))))
   cases hb:ZbW ts[j].2 t.2 with
   | true =>
    refine wpAny_bind (wpAny_updateSeq hst1 rfl ?_ (by show 2≤_;rw[sizeLine_eq];decide) (by show 2≤_;rw[sizeLine_eq];decide))
    refine wpAny_bind (wpAny_letGo (wpAny_pure ⟨rfl,?_⟩))
    refine ZeG hh hu hlist hI hS hSI htup hsh s0 q (k-1) (j+1) _ ts[j] c (by omega) (by omega) (fun b o hb'=>?_) ?_ ?_ hjm (fun u hu'=>?_)
    ·have nb:S≠b:=fun e=>by rw[← e,hS]at hb';cases hb'
     exact Qac _ nb (keep1 b o hb')
    ·obtain⟨o,ho,r⟩:=hit1
     exact⟨o,Qac _ hSI ho,r⟩
    ·have:=get?_update_seq (c := "list") hst1 (fun _=>#[.ref ts[j].1,.ref ts[j].1])
     simpa using this
    ·rw[Qv,Qc hlt]at hu'
     rcases Qr.mp hu' with hu'|hu'
     ·have:=hbest u hu'
      cases hz:ZbW u.2 ts[j].2 with
      | false=>rfl
      | true=>rw[ZeC _ _ _ hz hb]at this;cases this
     ·have:u=ts[j]:=by simpa using hu'
      rw[this];exact ZcF _
   | false =>
    refine wpAny_bind (wpAny_letGo (wpAny_pure ⟨rfl,?_⟩))
    refine ZeG hh hu hlist hI hS hSI htup hsh s0 q (k-1) (j+1) h1 t c (by omega) (by omega) keep1 hit1 hst1 htm (fun u hu'=>?_)
    rw[Qv,Qc hlt]at hu'
    rcases Qr.mp hu' with hu'|hu'
    ·exact hbest u hu'
    ·have:u=ts[j]:=by simpa using hu'
     rw[this];exact hb
  ·have hx:((ts.map fun t=>Value.ref t.1).toArray)[j]? = none:=by simp;omega
   refine wpAny_bind (wpAny_tryCatch (wpAny_pyNext_list_end hh hit keepL hx fun h1 eb=>?_))
   have hst1:h1.get? S=some { cls:=.type "list",data:=.seq #[.ref t.1,.ref t.1] c }:=eb S _ hSI hst
   refine wpAny_bind (wpAny_updateSeq hst1 rfl ?_ (by show 2≤_;rw[sizeLine_eq];decide) (by show 0≤_;omega))
   refine wpAny_bind (wpAny_letGo (wpAny_pure ?_))
   refine q _ t (fun b o hb=>?_) htm (fun u hu'=>hbest u (by rw[Qn (by omega)];exact hu'))
   have nb:S≠b:=fun e=>by rw[← e,hS]at hb;cases hb
   have nI:b≠I:=fun e=>by rw[e,hI]at hb;cases hb
   exact Qac _ nb (eb b o nI (keep b o hb))
termination_by k=>k
theorem ZiJ{A:Around}{R:Result→Shared→Prop}{l I S:Addr}{ts:ZaF}{sh:List Bool}{h0 h:Heap}{c:Nat}{kw:List (Str×Value)}(hh:A.handled=none)(hu:A.units+4<cLine)(hlist:h0.IsList l (ts.map fun t=>Value.ref t.1).toArray)
  (hI:h0.get? I=none) (hS:h0.get? S=none) (hSI:S≠I) (htup:∀t∈ts,∃its:List Value,ZE (t.2.map kV) its∧IsTup h0 t.1 its.toArray) (hsh:∀t∈ts,ZbN t.2=sh) (s0:Shared) (keep:∀b o,h0.get? b=some o→h.get? b=some o) (hit:h.IsListIter I l 0) (hst:h.get? S=some { cls:=.type "list",data:=.seq #[] c })
  (hne:ts≠[]∨∃n d kr,kw=(n,d)::kr∧∀h':Heap,(∀b o,h0.get? b=some o→h'.get? b=some o)→R (.ok (.ret d)) { s0 with heap:=h' })
  (q:∀ (h':Heap) (t:Addr×List Key),(∀b o,h0.get? b=some o→h'.get? b=some o)→t∈ts→(∀u∈ts,ZbW u.2 t.2=false)→R (.ok (.ret (.ref t.1))) { s0 with heap:=h' }) :
  codeAny (model prog w) A (.builtin "min.loop" { pos:=[.ref I,.none,.ref S],kw:=kw }) R { s0 with heap:=h }:=by
 refine codeAny_builtin F.entry_min_loop ?_
 show wpAny _ _ (seqItems? (.ref S) >>= _) _ _ _
 refine wpAny_bind (wpAny_seqItems hst rfl ?_)
 have keepL:h.IsList l (ts.map fun t=>Value.ref t.1).toArray:=by
  obtain⟨o,ho,r⟩:=hlist
  exact⟨o,keep _ _ ho,r⟩
 cases ts with
 | nil =>
  obtain⟨n,d,kr,rfl,q0⟩:=hne.resolve_left (by simp)
  refine wpAny_bind (wpAny_tryCatch (wpAny_pyNext_list_end hh hit keepL (by simp) fun h1 eb=>?_))
  show wpAny _ _ (rule _ >>= _) _ _ _
  refine wpAny_bind (wpAny_rule (wpAny_pure ?_))
  refine q0 _ fun b o hb=>?_
  have nI:b≠I:=fun e=>by rw[e,hI]at hb;cases hb
  exact eb b o nI (keep b o hb)
 | cons t r =>
  refine wpAny_bind (wpAny_tryCatch (wpAny_pyNext_list_item hit keepL (x:=.ref t.1) (by simp) fun h1 hit1 sb=>?_))
  have keep1:∀b o,h0.get? b=some o→h1.get? b=some o:=fun b o hb=>by
   have nb:b≠I:=fun e=>by rw[e,hI]at hb;cases hb
   rw[sb.2 b nb];exact keep b o hb
  have hst1:h1.get? S=some { cls:=.type "list",data:=.seq #[] c }:=by rw[sb.2 S hSI];exact hst
  refine wpAny_bind (wpAny_pure ?_)
  show wpAny _ _ (updateSeq S _ >>= _) _ _ _
  refine wpAny_bind (wpAny_updateSeq hst1 rfl ?_ (by show 0≤_;omega) (by show 2≤_;rw[sizeLine_eq];decide))
  refine wpAny_pure ⟨rfl,?_⟩
  refine ZeG hh hu hlist hI hS hSI htup hsh s0 q _ 1 _ t (c+1) rfl (by simp) (fun b o hb'=>?_) ?_ ?_ (by simp) (fun u hu'=>?_)
  ·have nb:S≠b:=fun e=>by rw[← e,hS]at hb';cases hb'
   exact Qac _ nb (keep1 b o hb')
  ·obtain⟨o,ho,r⟩:=hit1
   exact⟨o,Qac _ hSI ho,r⟩
  ·have:=get?_update_seq (c := "list") hst1 (fun _=>#[.ref t.1,.ref t.1])
   simpa using this
  ·have:u=t:=by simpa using hu'
   rw[this];exact ZcF _
end
section
variable {X:Cx}
def Zme(K:PySem.W.Frag):List V→Hp→VK→Prop:=fun vs H Q=>∃ (p:Addr) (ts:ZaF) (sh:List Bool),vs=[.ref p]∧SqL K H p (Zl ts)∧AtT H ts∧ts≠[]∧(∀t∈ts,ZbN t.2=sh) ∧
 ∀t:Addr×List Key,t∈ts→(∀u∈ts,ZbW u.2 t.2=false)→Q (.ref t.1) H
theorem Zj5{prog:Program}{w:World}{A:Around}{R:Result→Shared→Prop}{s:Shared}{l:Addr}{ts:ZaF}{sh:List Bool}{kw:List (Str×Value)}{kw2:List (Str×Value)}(hh:A.handled=none)(hu:A.units+4<cLine)(hlist:s.heap.IsList l (ts.map fun t=>Value.ref t.1).toArray)
  (hkw:(kw=[]∧kw2=[])∨∃d,kw=[(Str.ofString "default",d)]∧kw2=[(Str.ofString "default",d)])
  (htup:∀t∈ts,∃its:List Value,ZE (t.2.map kV) its∧IsTup s.heap t.1 its.toArray) (hsh:∀t∈ts,ZbN t.2=sh)
  (hne:ts≠[]∨∃n d kr,kw2=(n,d)::kr∧∀h':Heap,(∀b o,s.heap.get? b=some o→h'.get? b=some o)→R (.ok (.ret d)) { s with heap:=h' })
  (q:∀ (h':Heap) (t:Addr×List Key),(∀b o,s.heap.get? b=some o→h'.get? b=some o)→t∈ts→(∀u∈ts,ZbW u.2 t.2=false)→R (.ok (.ret (.ref t.1))) { s with heap:=h' }) :
  codeAny (model prog w) A (.call (.builtin "min") { pos:=[.ref l],kw:=kw }) R s:=by
 refine codeAny_call_builtin_at rfl F.entry_min ?_
 have hc:checkBuiltinCall "min" { pos:=[.ref l],kw:=kw }=pure ():=by
  rcases hkw with⟨rfl,_⟩|⟨d,rfl,_⟩<;>rfl
 rw[hc]
 refine wpAny_pure ?_
 have go:∀ {A':Around},A'.handled=none→wpAny (model prog w) A' (pyIter (.ref l) >>= fun it=>newList [] >>= fun b=>again (.builtin "min.loop" { pos:=[it,.none,b],kw:=kw2 })) (fun fin s'=>match fin with
   | Fin.done f=>R (Except.ok f) s'
   | Fin.again c'=>c'.quiet=true∧codeAny (model prog w) A c' R s') (fun e s'=>R (Except.error e) s') s:=fun {A'} hA'=>by
  refine wpAny_bind (wpAny_pyIter_list hlist ?_)
  refine wpAny_bind (wpAny_newList ?_ (by show 0≤_;omega))
  refine wpAny_pure ⟨rfl,?_⟩
  have none_at:∀b,s.heap.objs.size≤b→s.heap.get? b=none:=fun b hb=>by
   cases e:s.heap.get? b with
   | none=>rfl
   | some o=>exact absurd (Qo e) (Nat.not_lt.mpr hb)
  have hsz:(s.heap.push { cls:=Value.type "list_iterator",data:=Data.fields #[Value.ref l,Value.int 0 0] }).objs.size=s.heap.objs.size+1:=size_push' _ _
  refine ZiJ (h0:=s.heap) (c:=0) hh hu hlist (none_at _ (Qd _)) (none_at _ (by rw[hsz];exact QaM _)) (by rw[hsz];exact Nat.succ_ne_self _) htup hsh s (fun b o h=>Qb _ (Qb _ h)) ⟨_,Qb _ (Qp _ rfl),rfl,rfl⟩ (Qp _ rfl) hne q
 rcases hkw with⟨rfl,rfl⟩|⟨d,rfl,rfl⟩
 ·exact go hh
 ·exact go hh
theorem Zi5(hc:X.calm=true)(hu:X.A.units+64<cLine):Z8 X (.builtin "min") (Zme X.K):=by
 intro pins s σ H vs us Q I r h
 obtain⟨p,ts,sh,rfl,hq,hat,hne,hsh,q⟩:=h
 obtain⟨u,rfl,rx⟩:=ZbD r
 cases rx
 obtain⟨its,rv,pl,hz⟩:=I.list hq
 have ei:=Zfl rv
 subst ei
 refine wpAny_call (Zj5 (sh:=sh) (I.ok.hd hc) (by omega) pl.isList (.inl ⟨rfl,rfl⟩) (fun t ht=>?_) hsh (.inl hne) fun h' t kp ht hmin=>?_)
 ·obtain⟨i,v,q,_⟩:=I.tuple (SqT.of (K:=X.K) (hat t ht))
  exact⟨i,v,q⟩
 ·exact⟨.ref t.1,H,I.kept (t':=s.toks) kp,rfl,q t ht hmin⟩
theorem Zn6(K:PySem.W.Frag){k:Nat}(hr:Za7 k X.A)(hc:X.calm=true:=by rfl)(h:X.K=K:=by rfl):Z8 X (.builtin "min") (Zme K):=by subst h;exact Zi5 hc hr.units
end
section
variable {X:Cx}
end
section
open PySem.SeqAt
open PySem.AutoSeq1 (wpAny_loadPart')
open PySem.MeetsSeq PySem.MeetsSeq2 PySem.MeetsSeq3
end
section
variable {prog:Program} {w:World} {A:Around} {E:Value→Shared→Prop} {s:Shared}
end
section
variable {X:Cx}
end
section
variable {X:Cx}
end
section
variable {X:Cx} {T name id:String} {r:V→List V→Hp→VK→Prop} {o e:Expr} {es:List Expr} {to:TE} {t:TA} {apos cpos:Pos}
end
section
variable {X:Cx}
def Znq(K:PySem.W.Frag):R2:=fun x y H Q=>∃ (l:Addr) (xs:List V) (ds:List PyData) (d:PyData),y=.ref l∧SqL K H l xs∧DVs K H xs ds∧DV K H x d∧PyData.canLayAll0 ds=true∧SeqAt.shaped d=true∧d.depth≤60∧Q (.bl (ds.any fun e=>PyData.eqv e d)) H
theorem ZmO(hu:X.A.units+64<cLine):OpR X (compareOp .In) (Znq X.K):=by
 intro pins s σ H x y v u Q I rx ry h
 obtain⟨l,xs,ds,d,rfl,hl,hds,hd,hc,hsd,hdep,q⟩:=h
 obtain⟨as,ra⟩:=I.reads (.lst hl hds) ry
 obtain⟨bs,rb⟩:=I.reads hd rx
 exact SeqAt.in_list_reads ra rb hc (SeqAt.canLay_of_shaped hsd) (by have:=Nat.min_le_right (PyData.depthAll ds) d.depth;omega) ⟨.bl _,H,I,rfl,q⟩
def Zmo(K:PySem.W.Frag):List V→Hp→VK→Prop:=fun vs H Q=>∃ (p:Addr) (ns:List Int),vs=[.ref p]∧SqL K H p (ns.map V.int)∧ns.length≤1000∧(∀n∈ns,0≤n∧n≤10000000000000)∧Q (.int ns.sum) H
theorem ZiQ(hc:X.calm=true):Z8 X (.builtin "sum") (Zmo X.K):=by
 intro pins s σ H vs us Q I r h
 obtain⟨p,ns,rfl,hq,hn,hb,q⟩:=h
 obtain⟨u,rfl,rx⟩:=ZbD r
 cases rx
 obtain⟨its,rv,pl,_⟩:=I.list hq
 have hi:=Zcp rv
 obtain⟨xs,e⟩:=hi.allInts.items
 have hns:ns=xs.toList.map (·.1):=by rw[← hi.numsOf,← nums_intItems,← e]
 have hsz:xs.size=ns.length:=by rw[hns,Qa,QH]
 have hnum:numAt xs=fun j=>ns.getD j 0:=by funext j;rw[numAt_eq,hns]
 have hl:=pl.isList
 rw[e]at hl
 have bound:∀n,n≤ns.length→0≤(ns.take n).sum∧(ns.take n).sum≤10000000000000*n:=by
  intro n
  induction n with
  | zero=>intro _;exact⟨by simp,by simp⟩
  | succ n ih =>
   intro h
   have ih:=ih (by omega)
   have hm:=hb ns[n] (Q5 (by omega))
   have e2:ns.take (n+1)=ns.take n++[ns[n]]:=by rw[Qv,Qc (by omega)];rfl
   rw[e2,List.sum_append]
   have e3:([ns[n]]:List Int).sum=ns[n]:=by simp
   rw[e3]
   omega
 refine sum_intList (I.ok.hd hc) hl (fun j hj=>?_) fun h' tk t' hk=>⟨.int _,H,I.kept hk,⟨t',rfl⟩,?_⟩
 ·rw[hnum]
  have hm:=hb ns[j] (Q5 (by omega))
  have hg:ns.getD j 0=ns[j]:=by rw[QL,Qc (by omega)];rfl
  have hp:=bound (j+1) (by omega)
  refine⟨⟨?_,?_⟩,⟨?_,?_⟩⟩
  ·show -(2 ^ 63)≤ns.getD j 0
   rw[hg];omega
  ·show ns.getD j 0<2 ^ 63
   rw[hg];omega
  ·rw[ZcE ns (j+1) (by omega)];omega
  ·rw[ZcE ns (j+1) (by omega)];omega
 ·rw[hnum,hsz,ZcE ns ns.length (Qd _),Qn (Qd _)]
  exact q
theorem ZlT(K:PySem.W.Frag)(hc:X.calm=true:=by rfl)(h:X.K=K:=by rfl):Z8 X (.builtin "sum") (Zmo K):=by subst h;exact ZiQ hc
theorem slT{X:Cx}(K:PySem.W.Frag)(h:X.K=K:=by rfl):SlR X (ZnU K):=by subst h;exact Zm9
theorem inD{X:Cx}(K:PySem.W.Frag){k:Nat}(hr:Za7 k X.A)(h:X.K=K:=by rfl):OpR X (compareOp .In) (Znq K):=by subst h;exact ZmO hr.units
end
theorem ZhH{H:Hp}{k:List Key}{kvs:List (List Key×V)}{xs:List (List Key×Addr×Value)}(r:Zc8 H kvs xs):∀ {v:V},Z3 kvs k=some v→∃p,atKey xs k=some p∧ZT v p.2:=by
 induction r with
 | nil=>intro v h;cases h
 | @cons p q ps qs h t ih =>
  intro v hv
  unfold Z3 at hv
  unfold atKey
  rw[List.find?_cons]at hv ⊢
  rw[← h.1]
  by_cases e:p.1=k
  ·rw[decide_eq_true e]at hv ⊢
   cases hv
   exact⟨q.2,rfl,h.2.2⟩
  ·rw[decide_eq_false e]at hv ⊢
   exact ih hv
theorem Ziy{H:Hp}{k:List Key}{kvs:List (List Key×V)}{xs:List (List Key×Addr×Value)}(r:Zc8 H kvs xs):Z3 kvs k=none→atKey xs k=none:=by
 induction r with
 | nil=>intro _;rfl
 | @cons p q ps qs h t ih =>
  intro hv
  unfold Z3 at hv
  unfold atKey
  rw[List.find?_cons]at hv ⊢
  rw[← h.1]
  by_cases e:p.1=k
  ·rw[decide_eq_true e]at hv
   cases hv
  ·rw[decide_eq_false e]at hv ⊢
   exact ih hv
theorem ZdZ{kvs:List (List Key×V)}{k k':List Key}{v:V}:Z3 (kvs++[(k,v)]) k'=(Z3 kvs k').or (if k=k' then some v else none):=by
 unfold Z3
 rw[List.find?_append]
 cases h:kvs.find? fun kv=>decide (kv.1=k') with
 | some x=>rfl
 | none =>
  by_cases e:k=k'
  ·simp[e]
  ·simp[e]
section
variable {X:Cx}
def ZeL:R2:=fun x y H Q=>∃d kvs b ks v,x=.ref d∧y=.ref b∧H d=some (.dT kvs)∧H b=some (.tup (ks.map kV))∧Z3 kvs ks=some v∧Q v H
theorem Znm(hu:X.A.units+64<cLine):IxR X ZeL:=by
 intro value slice pins s σ H x y v u Q I rx ry h hs
 obtain⟨d,kvs,b,ks,z,rfl,rfl,hH,hb,hk,q⟩:=h
 cases rx
 cases ry
 obtain⟨_,hd,xs,rel,o,es,ep,ho,hex,hdat,hent,hnd⟩:=(show Zah X.prog X.w H s.heap d (.dT kvs) from I.hok d _ hH)
 have hm:s.heap.DictOfH (tupleKind (ZW X.prog X.w)) d xs:=⟨o,es,ep,ho,hex,hdat,hent,ZcS (R:=fun ks b=>(tupleKind (ZW X.prog X.w)).is s.heap ks b) (fun ks b e=>I.tkey e) rel,hnd⟩
 obtain⟨p,hp,rp⟩:=ZhH rel hk
 exact subscriptTail_builtinR (x:=p.2) hm.typeIs PySem.F.slot_dict_getitem.lookup (wpAny_getItem_heap (knd:=tupleKind (ZW X.prog X.w)) (by show X.A.units+1<cLine;omega) (I.tkey hb) hm hp ⟨rfl,z,H,I.tok _,rp,q⟩) hs
theorem ixD{k:Nat}(hr:Za7 k X.A):IxR X ZeL:=Znm hr.units
def Zhd:ZlU:=fun o i v H Q=>∃d kvs b ks,o=.ref d∧i=.ref b∧H d=some (.dT kvs)∧H b=some (.tup (ks.map kV))∧Z3 kvs ks=none∧kvs.length<sizeLine∧Q (upd H d (.dT (kvs++[(ks,v)])))
theorem ZmY(hu:X.A.units+64<cLine):Zll X Zhd:=by
 intro pins s σ H o i v ov iv u Q I ro ri rv h
 obtain⟨d,kvs,b,ks,rfl,rfl,hH,hb,hk,hz,q⟩:=h
 cases ro
 cases ri
 obtain⟨_,hd,xs,rel,o,es,ep,ho,hex,hdat,hent,hnd⟩:=(show Zah X.prog X.w H s.heap d (.dT kvs) from I.hok d _ hH)
 have hm:s.heap.DictOfH (tupleKind (ZW X.prog X.w)) d xs:=⟨o,es,ep,ho,hex,hdat,hent,ZcS (R:=fun ks b=>(tupleKind (ZW X.prog X.w)).is s.heap ks b) (fun ks b e=>I.tkey e) rel,hnd⟩
 have hl:=ZcV rel
 have hno:=Ziy rel hk
 refine wpAny_setItem_heap (knd:=tupleKind (ZW X.prog X.w)) (k:=ks) (by show X.A.units+1<cLine;omega) (I.tkey hb) hm (fun h' hm' hs=>?_) (by omega)
 rw[storedH_new hno]at hm'
 obtain⟨o',es',ep',g1,g2,g3,g4,_,g5⟩:=hm'
 refine⟨_,?_,q⟩
 refine I.write (x:=d) (e:=d) (by rw[hH];exact True.intro) (.inl rfl) (fun c q hc z=>(hs.2 c hc).trans z) ⟨o',g1⟩ ?_
 refine⟨by rw[Qe,Qh];omega,hd,xs++[(ks,b,u)],?_,o',es',ep',g1,g2,g3,g4,g5⟩
 refine ZdN (fun c ys ec=>?_) (Zft rel ⟨rfl,hb,rv⟩)
 rw[Zi (ZjZ ec hH (fun z=>nomatch z))]
 exact ec
theorem Zoy{k:Nat}(hr:Za7 k X.A):Zll X Zhd:=ZmY hr.units
end
abbrev ZaV(h:Heap)(z TI TO:Addr)(f0:Value)(fl:Bool):Prop :=
 h.get? z=some { cls:=.type "zip",dict:=none,data:=.fields #[f0,.bool fl,.bool false,.ref TI,.ref TO],slots:=#[] }
section
variable {prog:Program} {w:World} {A:Around} {E:Value→Shared→Prop} {s:Shared}
theorem Zdq{a:Addr}{Q:Option Obj→Shared→Prop}(h:Q (s.heap.get? a) s):wpAny (model prog w) A (loadIfAlive a) Q E s:=fun _ _ _=>h
theorem ZgS{z TI TO:Addr}{f0:Value}{fl:Bool}{Q:Bool→Shared→Prop}(hf:f0=.none∨∃a:Addr,f0=rawInt a)(hz:ZaV s.heap z TI TO f0 fl)(h1:Q true s)
  (h2:∀h',ZaV h' z TI TO f0 true→Heap.SameBut z s.heap h'→Q false { s with heap:=h' }):wpAny (model prog w) A (Builtin.SmallTypes.ownedTupleIsFree (.ref z)) Q E s:=by
 unfold Builtin.SmallTypes.ownedTupleIsFree
 refine wpAny_bind (wpAny_field hz rfl (x:=f0) rfl ?_)
 rcases hf with rfl|⟨a,rfl⟩
 ·exact wpAny_pure h1
 ·show wpAny _ _ (loadIfAlive _ >>= _) _ _ _
  refine wpAny_bind (Zdq ?_)
  cases hg:s.heap.get? ((a:Int)).toNat with
  | none=>exact wpAny_pure h1
  | some o =>
   show wpAny _ _ (field (.ref z) 1 >>= _) _ _ _
   refine wpAny_bind (wpAny_field hz rfl (x:=.bool fl) rfl ?_)
   cases fl with
   | true=>exact wpAny_pure (h2 s.heap hz ⟨rfl,fun _ _=>rfl⟩)
   | false =>
    show wpAny _ _ (setField (.ref z) 1 (.bool true) >>= _) _ _ _
    exact wpAny_bind (wpAny_setField_rec hz (by simp) fun h' hz' hs'=>wpAny_pure (h2 h' hz' hs'))
theorem ZiX{z TI TO i1 i2:Addr}{S1 S2:Src}{k:Nat}{us1 us2:List Value}{a b:Value}{Q:Option Value→Shared→Prop}(D:ZfN z TI TO i1 i2 S1 S2)
  {f0:Value} {fl:Bool} (hf:f0=.none∨∃a:Addr,f0=rawInt a) (hz:ZaV s.heap z TI TO f0 fl) (hTI:IsPair s.heap TI (.ref i1) (.ref i2)) (hTO:IsPair s.heap TO a b)
  (h1:S1.at s.heap i1 k) (h2:S2.at s.heap i2 k) (r1:S1.raw s.heap us1) (r2:S2.raw s.heap us2) (m1:k<S1.many us1) (m2:k<S2.many us2)
  (hQ:∀h' tk x y,S1.fit us1 k x→S2.fit us2 k y→(∃f' fl',(f'=.none∨∃a:Addr,f'=rawInt a)∧ZaV h' z TI TO f' fl')→(∃a b,IsPair h' TO a b)→S1.at h' i1 (k+1)→S2.at h' i2 (k+1)→IsPair h' s.heap.objs.size x y→h'.objs.size=s.heap.objs.size+1 →
   (∀c o,c≠z→c≠TO→c≠i1→c≠i2→s.heap.get? c=some o→h'.get? c=some o)→Q (some (.ref s.heap.objs.size)) { s with heap:=h',toks:=tk }) :
  wpAny (model prog w) A (pyNext (.ref z)) Q E s:=by
 have hT:s.TypeIs (.ref z) "zip":=⟨_,hz,rfl⟩
 unfold pyNext
 refine wpAny_bind (wpAny_attempt (wpAny_callSpecial?_slot (name:=Str.ofString "__next__") hT F.slot_zip_next (wpAny_call_entry F.slot_zip_next hT F.entry_zip_next ?_ (F.args_zip_next_1 _))))
 show wpAny _ _ (field (.ref z) 2 >>= _) _ _ _
 refine wpAny_bind (wpAny_field hz rfl (x:=.bool false) rfl ?_)
 show wpAny _ _ (field (.ref z) 3 >>= _) _ _ _
 refine wpAny_bind (wpAny_field hz rfl (x:=.ref TI) rfl (wpAny_bind (wpAny_seqItems hTI rfl ?_)))
 show wpAny _ _ (Builtin.SmallTypes.ownedTupleIsFree (.ref z) >>= _) _ _ _
 refine wpAny_bind (ZgS hf hz ?_ fun h₁ hz₁ hs₁=>?_)
 rotate_left
 ·simp only[Bool.false_eq_true,if_false]
  have hTI₁:IsPair h₁ TI (.ref i1) (.ref i2):=hs₁.extBut _ _ D.TIz hTI
  refine wpAny_bind ?_
  rw[← Array.forIn_toList]
  simp only[List.forIn_cons,List.forIn_nil]
  refine wpAny_bind (wpAny_bind (wpAny_holding ?_))
  show wpAny _ _ (Builtin.SmallTypes.nextOf (.ref i1) >>= _) _ _ _
  refine wpAny_bind (Za6 (S:=S1) (us:=us1) (k:=k) (S1.at_keep (fun o e=>hs₁.extBut _ o D.i1z e) h1) (S1.raw_keep (fun c o n e=>hs₁.extBut c o n e) D.s1z r1) m1 fun h₂ tk₂ x fx h1₂ hs₂=>wpAny_pure ?_)
  have hs₂':Heap.SameBut i1 h₁ h₂:=hs₂
  refine wpAny_pure ?_
  refine wpAny_bind (wpAny_bind (wpAny_holding ?_))
  show wpAny _ _ (Builtin.SmallTypes.nextOf (.ref i2) >>= _) _ _ _
  refine wpAny_bind (Za6 (S:=S2) (us:=us2) (k:=k)
   (S2.at_keep (fun o e=>hs₂'.extBut _ o D.i12.symm (hs₁.extBut _ o D.i2z e)) h2)
   (S2.raw_keep (fun c o n e=>hs₂'.extBut c o n e) D.s2i1 (S2.raw_keep (fun c o n e=>hs₁.extBut c o n e) D.s2z r2)) m2 fun h₄ tk₄ y fy h2₄ hs₄=>wpAny_pure ?_)
  have hs₄':Heap.SameBut i2 h₂ h₄:=hs₄
  refine wpAny_pure (wpAny_pure ?_)
  show wpAny _ _ (newTuple [x,y] >>= _) _ _ _
  refine wpAny_bind (wpAny_newTuple ?_)
  refine wpAny_pure ⟨_,rfl,wpAny_pure ?_⟩
  have hsz:h₄.objs.size=s.heap.objs.size:=by rw[hs₄'.1,hs₂'.1,hs₁.1]
  have up:∀c o,c≠z→c≠i1→c≠i2→s.heap.get? c=some o→h₄.get? c=some o:=fun c o c1 c3 c4 e=>hs₄'.extBut _ _ c4 (hs₂'.extBut _ _ c3 (hs₁.extBut _ _ c1 e))
  have hz₄:ZaV h₄ z TI TO f0 true:=hs₄'.extBut _ _ D.i2z.symm (hs₂'.extBut _ _ D.i1z.symm hz₁)
  have hTO₄:IsPair h₄ TO a b:=up _ _ D.TOz D.TOi1 D.TOi2 hTO
  have h1₄:S1.at h₄ i1 (k+1):=S1.at_keep (fun o e=>hs₄'.extBut _ o D.i12 e) h1₂
  show Q (some (.ref h₄.objs.size)) _
  rw[hsz]
  refine hQ _ tk₄ x y fx fy ⟨f0,true,hf,Qb _ hz₄⟩ ⟨a,b,Qb _ hTO₄⟩ (S1.at_keep (fun o e=>Qb _ e) h1₄) (S2.at_keep (fun o e=>Qb _ e) h2₄) ?_ ?_ fun c o c1 c2 c3 c4 e=>Qb _ (up c o c1 c3 c4 e)
  ·rw[← hsz];exact Qp _ rfl
  ·rw[Q1,hsz]
 simp only[if_true]
 refine wpAny_bind (wpAny_rule (wpAny_bind (wpAny_field hz rfl (x:=.ref TO) rfl (wpAny_bind (wpAny_setField_rec hz (by simp) fun h₁ hz₁ hs₁=>?_)))))
 replace hz₁:ZaV h₁ z TI TO .ellipsis fl:=hz₁
 refine wpAny_bind ?_
 simp only[List.zipIdx_cons,List.zipIdx_nil,List.forIn_cons,List.forIn_nil]
 refine wpAny_bind (wpAny_bind (wpAny_onRaise ?_))
 show wpAny _ _ (Builtin.SmallTypes.nextOf (.ref i1) >>= _) _ _ _
 refine wpAny_bind (Za6 (S:=S1) (us:=us1) (k:=k) (S1.at_keep (fun o e=>hs₁.extBut _ o D.i1z e) h1) (S1.raw_keep (fun c o n e=>hs₁.extBut c o n e) D.s1z r1) m1 fun h₂ tk₂ x fx h1₂ hs₂=>wpAny_pure ?_)
 have hs₂':Heap.SameBut i1 h₁ h₂:=hs₂
 have hTO₂:IsPair h₂ TO a b:=hs₂'.extBut _ _ D.TOi1 (hs₁.extBut _ _ D.TOz hTO)
 refine wpAny_bind (wpAny_seqItems hTO₂ rfl (wpAny_bind (wpAny_updateSeq_pair hTO₂ fun h₃ hTO₃ hs₃=>wpAny_bind (wpAny_letGo (wpAny_pure ?_)))))
 replace hTO₃:IsPair h₃ TO x b:=hTO₃
 have hs₃':Heap.SameBut TO h₂ h₃:=hs₃
 refine wpAny_bind (wpAny_bind (wpAny_onRaise ?_))
 show wpAny _ _ (Builtin.SmallTypes.nextOf (.ref i2) >>= _) _ _ _
 refine wpAny_bind (Za6 (S:=S2) (us:=us2) (k:=k)
  (S2.at_keep (fun o e=>hs₃'.extBut _ o D.TOi2.symm (hs₂'.extBut _ o D.i12.symm (hs₁.extBut _ o D.i2z e))) h2)
  (S2.raw_keep (fun c o n e=>hs₃'.extBut c o n e) D.s2TO (S2.raw_keep (fun c o n e=>hs₂'.extBut c o n e) D.s2i1 (S2.raw_keep (fun c o n e=>hs₁.extBut c o n e) D.s2z r2))) m2 fun h₄ tk₄ y fy h2₄ hs₄=>wpAny_pure ?_)
 have hs₄':Heap.SameBut i2 h₃ h₄:=hs₄
 have hTO₄:IsPair h₄ TO x b:=hs₄'.extBut _ _ D.TOi2 hTO₃
 refine wpAny_bind (wpAny_seqItems hTO₄ rfl (wpAny_bind (wpAny_updateSeq_pair hTO₄ fun h₅ hTO₅ hs₅=>wpAny_bind (wpAny_letGo (wpAny_pure (wpAny_pure ?_))))))
 replace hTO₅:IsPair h₅ TO x y:=hTO₅
 have hs₅':Heap.SameBut TO h₄ h₅:=hs₅
 refine wpAny_bind (wpAny_seqItems hTO₅ rfl (wpAny_bind (wpAny_newTuple ?_)))
 have hsz:h₅.objs.size=s.heap.objs.size:=by rw[hs₅'.1,hs₄'.1,hs₃'.1,hs₂'.1,hs₁.1]
 have hz₅:ZaV h₅ z TI TO .ellipsis fl:=hs₅'.extBut _ _ D.TOz.symm (hs₄'.extBut _ _ D.i2z.symm (hs₃'.extBut _ _ D.TOz.symm (hs₂'.extBut _ _ D.i1z.symm hz₁)))
 have hk₅:∀c o,c≠z→c≠TO→c≠i1→c≠i2→s.heap.get? c=some o→h₅.get? c=some o:=fun c o c1 c2 c3 c4 e =>
  hs₅'.extBut _ _ c2 (hs₄'.extBut _ _ c4 (hs₃'.extBut _ _ c2 (hs₂'.extBut _ _ c3 (hs₁.extBut _ _ c1 e))))
 have h1₅:S1.at h₅ i1 (k+1):=S1.at_keep (fun o e=>hs₅'.extBut _ o D.TOi1.symm (hs₄'.extBut _ o D.i12 (hs₃'.extBut _ o D.TOi1.symm e))) h1₂
 have h2₅:S2.at h₅ i2 (k+1):=S2.at_keep (fun o e=>hs₅'.extBut _ o D.TOi2.symm e) h2₄
 have hzlt:z<h₅.objs.size:=Qo hz₅
 show wpAny _ _ (Builtin.SmallTypes.ownedTupleHandOut (.ref z) (.ref h₅.objs.size) >>= _) _ _ _
 refine wpAny_bind ?_
 unfold Builtin.SmallTypes.ownedTupleHandOut
 have hz₆:ZaV (h₅.push { cls:=.type "tuple",data:=.seq #[x,y] }) z TI TO .ellipsis fl:=Qb _ hz₅
 refine wpAny_bind (wpAny_setField_rec hz₆ (by simp) fun h₇ hz₇ hs₇=>?_)
 replace hz₇:ZaV h₇ z TI TO (rawInt h₅.objs.size) fl:=hz₇
 refine wpAny_setField_rec hz₇ (by simp) fun h₈ hz₈ hs₈=>?_
 replace hz₈:ZaV h₈ z TI TO (rawInt h₅.objs.size) false:=hz₈
 have up:∀c o,c≠z→h₅.get? c=some o→h₈.get? c=some o:=fun c o c1 e=>hs₈.extBut _ _ c1 (hs₇.extBut _ _ c1 (Qb _ e))
 have hT₈:IsPair h₈ h₅.objs.size x y:=hs₈.extBut _ _ (QZ hzlt) (hs₇.extBut _ _ (QZ hzlt) (Qp _ rfl))
 have hz8:h₈.objs.size=h₅.objs.size+1:=by rw[hs₈.1,hs₇.1,Q1]
 rw[hsz]at hz₈ hT₈ hz8
 refine wpAny_pure ⟨_,rfl,wpAny_pure ?_⟩
 show Q (some (.ref h₅.objs.size)) _
 rw[hsz]
 exact hQ h₈ tk₄ x y fx fy ⟨_,_,.inr ⟨_,rfl⟩,hz₈⟩ ⟨_,_,up _ _ D.TOz hTO₅⟩ (S1.at_keep (fun o e=>up _ o D.i1z e) h1₅) (S2.at_keep (fun o e=>up _ o D.i2z e) h2₅) hT₈ hz8 fun c o c1 c2 c3 c4 e=>up c o c1 (hk₅ c o c1 c2 c3 c4 e)
theorem ZiS{z TI TO i1 i2:Addr}{S1 S2:Src}{k:Nat}{us1 us2:List Value}{a b:Value}{Q:Option Value→Shared→Prop}(hh:A.handled=none)(D:ZfN z TI TO i1 i2 S1 S2)
  {f0:Value} {fl:Bool} (hf:f0=.none∨∃a:Addr,f0=rawInt a) (hz:ZaV s.heap z TI TO f0 fl) (hTI:IsPair s.heap TI (.ref i1) (.ref i2)) (hTO:IsPair s.heap TO a b)
  (h1:S1.at s.heap i1 k) (h2:S2.at s.heap i2 k) (r1:S1.raw s.heap us1) (r2:S2.raw s.heap us2) (hend:S1.many us1≤k∨S2.many us2≤k)
  (hQ:∀h' tk,(∀c o,c≠z→c≠TO→c≠i1→c≠i2→s.heap.get? c=some o→h'.get? c=some o)→Q none { s with heap:=h',toks:=tk }) :
  wpAny (model prog w) A (pyNext (.ref z)) Q E s:=by
 have hT:s.TypeIs (.ref z) "zip":=⟨_,hz,rfl⟩
 unfold pyNext
 have done:∀ (h':Heap) (tk:Nat) (e:Addr),(∀c o,c≠z→c≠TO→c≠i1→c≠i2→s.heap.get? c=some o→h'.get? c=some o)→(∃o,h'.get? e=some o∧o.cls=.type "StopIteration") →
   wpAny (model prog w) A (do if (← isInstance (.ref e) (.type "StopIteration")) then pure none else throw (.ref e):Sem (Option Value)) Q E { s with heap:=h',toks:=tk }:=fun h' tk e hk ⟨o,ho,hc⟩=>
  wpAny_bind (wpAny_isInstance (T := "StopIteration") (b:=true) ⟨o,ho,hc⟩ isSubtype_stop (wpAny_pure (hQ h' tk hk)))
 refine wpAny_bind (wpAny_attempt (wpAny_callSpecial?_slot (name:=Str.ofString "__next__") hT F.slot_zip_next (wpAny_call_entry F.slot_zip_next hT F.entry_zip_next ?_ (F.args_zip_next_1 _))))
 show wpAny _ _ (field (.ref z) 2 >>= _) _ _ _
 refine wpAny_bind (wpAny_field hz rfl (x:=.bool false) rfl ?_)
 show wpAny _ _ (field (.ref z) 3 >>= _) _ _ _
 refine wpAny_bind (wpAny_field hz rfl (x:=.ref TI) rfl (wpAny_bind (wpAny_seqItems hTI rfl ?_)))
 show wpAny _ _ (Builtin.SmallTypes.ownedTupleIsFree (.ref z) >>= _) _ _ _
 refine wpAny_bind (ZgS hf hz ?_ fun h₁ hz₁ hs₁=>?_)
 rotate_left
 ·simp only[Bool.false_eq_true,if_false]
  refine wpAny_bind ?_
  rw[← Array.forIn_toList]
  simp only[List.forIn_cons,List.forIn_nil]
  refine wpAny_bind (wpAny_bind (wpAny_holding ?_))
  show wpAny _ _ (Builtin.SmallTypes.nextOf (.ref i1) >>= _) _ _ _
  by_cases m1:k<S1.many us1
  ·have m2:S2.many us2≤k:=by rcases hend with z'|z';omega;exact z'
   refine wpAny_bind (Za6 (S:=S1) (us:=us1) (k:=k) (S1.at_keep (fun o e=>hs₁.extBut _ o D.i1z e) h1) (S1.raw_keep (fun c o n e=>hs₁.extBut c o n e) D.s1z r1) m1 fun h₂ tk₂ x fx h1₂ hs₂=>wpAny_pure ?_)
   have hs₂':Heap.SameBut i1 h₁ h₂:=hs₂
   refine wpAny_pure ?_
   refine wpAny_bind (wpAny_bind (wpAny_holding ?_))
   show wpAny _ _ (Builtin.SmallTypes.nextOf (.ref i2) >>= _) _ _ _
   exact wpAny_bind (Zcu (S:=S2) (us:=us2) (k:=k) hh
    (S2.at_keep (fun o e=>hs₂'.extBut _ o D.i12.symm (hs₁.extBut _ o D.i2z e)) h2)
    (S2.raw_keep (fun c o n e=>hs₂'.extBut c o n e) D.s2i1 (S2.raw_keep (fun c o n e=>hs₁.extBut c o n e) D.s2z r2)) m2 fun h₄ e hs₄ he=>done h₄ _ e (fun c o c1 c2 c3 c4 x=>hs₄ _ _ c4 (hs₂'.extBut _ _ c3 (hs₁.extBut _ _ c1 x))) he)
  ·exact wpAny_bind (Zcu (S:=S1) (us:=us1) (k:=k) hh (S1.at_keep (fun o e=>hs₁.extBut _ o D.i1z e) h1) (S1.raw_keep (fun c o n e=>hs₁.extBut c o n e) D.s1z r1) (by omega) fun h₂ e hs₂ he=>done h₂ _ e (fun c o c1 _ c3 _ x=>hs₂ _ _ c3 (hs₁.extBut _ _ c1 x)) he)
 simp only[if_true]
 refine wpAny_bind (wpAny_rule (wpAny_bind (wpAny_field hz rfl (x:=.ref TO) rfl (wpAny_bind (wpAny_setField_rec hz (by simp) fun h₁ hz₁ hs₁=>?_)))))
 replace hz₁:ZaV h₁ z TI TO .ellipsis fl:=hz₁
 refine wpAny_bind ?_
 simp only[List.zipIdx_cons,List.zipIdx_nil,List.forIn_cons,List.forIn_nil]
 refine wpAny_bind (wpAny_bind (wpAny_onRaise ?_))
 show wpAny _ _ (Builtin.SmallTypes.nextOf (.ref i1) >>= _) _ _ _
 by_cases m1:k<S1.many us1
 ·have m2:S2.many us2≤k:=by rcases hend with z'|z';omega;exact z'
  refine wpAny_bind (Za6 (S:=S1) (us:=us1) (k:=k) (S1.at_keep (fun o e=>hs₁.extBut _ o D.i1z e) h1) (S1.raw_keep (fun c o n e=>hs₁.extBut c o n e) D.s1z r1) m1 fun h₂ tk₂ x fx h1₂ hs₂=>wpAny_pure ?_)
  have hs₂':Heap.SameBut i1 h₁ h₂:=hs₂
  have hTO₂:IsPair h₂ TO a b:=hs₂'.extBut _ _ D.TOi1 (hs₁.extBut _ _ D.TOz hTO)
  refine wpAny_bind (wpAny_seqItems hTO₂ rfl (wpAny_bind (wpAny_updateSeq_pair hTO₂ fun h₃ hTO₃ hs₃=>wpAny_bind (wpAny_letGo (wpAny_pure ?_)))))
  have hs₃':Heap.SameBut TO h₂ h₃:=hs₃
  refine wpAny_bind (wpAny_bind (wpAny_onRaise ?_))
  show wpAny _ _ (Builtin.SmallTypes.nextOf (.ref i2) >>= _) _ _ _
  refine wpAny_bind (Zcu (S:=S2) (us:=us2) (k:=k) hh
   (S2.at_keep (fun o e=>hs₃'.extBut _ o D.TOi2.symm (hs₂'.extBut _ o D.i12.symm (hs₁.extBut _ o D.i2z e))) h2)
   (S2.raw_keep (fun c o n e=>hs₃'.extBut c o n e) D.s2TO (S2.raw_keep (fun c o n e=>hs₂'.extBut c o n e) D.s2i1 (S2.raw_keep (fun c o n e=>hs₁.extBut c o n e) D.s2z r2))) m2 fun h₄ e hs₄ he=>?_)
  obtain⟨oe,hoe,hce⟩:=he
  have hz₄:ZaV h₄ z TI TO .ellipsis fl:=hs₄ _ _ D.i2z.symm (hs₃'.extBut _ _ D.TOz.symm (hs₂'.extBut _ _ D.i1z.symm hz₁))
  have hez:e≠z:=fun x=>by subst x;rw[hz₄]at hoe;cases hoe;simp at hce
  exact wpAny_setField_rec hz₄ (by simp) fun h₅ _ hs₅=>done h₅ _ e (fun c o c1 c2 c3 c4 x=>hs₅.extBut _ _ c1 (hs₄ _ _ c4 (hs₃'.extBut _ _ c2 (hs₂'.extBut _ _ c3 (hs₁.extBut _ _ c1 x))))) ⟨oe,hs₅.extBut _ _ hez hoe,hce⟩
 ·refine wpAny_bind (Zcu (S:=S1) (us:=us1) (k:=k) hh (S1.at_keep (fun o e=>hs₁.extBut _ o D.i1z e) h1) (S1.raw_keep (fun c o n e=>hs₁.extBut c o n e) D.s1z r1) (by omega) fun h₂ e hs₂ he=>?_)
  obtain⟨oe,hoe,hce⟩:=he
  have hz₂:ZaV h₂ z TI TO .ellipsis fl:=hs₂ _ _ D.i1z.symm hz₁
  have hez:e≠z:=fun x=>by subst x;rw[hz₂]at hoe;cases hoe;simp at hce
  exact wpAny_setField_rec hz₂ (by simp) fun h₃ _ hs₃=>done h₃ _ e (fun c o c1 _ c3 _ x=>hs₃.extBut _ _ c1 (hs₂ _ _ c3 (hs₁.extBut _ _ c1 x))) ⟨oe,hs₃.extBut _ _ hez hoe,hce⟩
end
theorem ZiE{prog:Program}{w:World}{A:Around}{E:Value→Shared→Prop}{s:Shared}{z TI TO:Addr}{f0:Value}{fl:Bool}{Q:Value→Shared→Prop}(hz:ZaV s.heap z TI TO f0 fl)(h:Q (.ref z) s):wpAny (model prog w) A (pyIter (.ref z)) Q E s:=by
 have hT:s.TypeIs (.ref z) "zip":=⟨_,hz,rfl⟩
 refine wpAny_pyIter_slot hT F.slot_zip_iter (wpAny_call_entry F.slot_zip_iter hT F.entry_zip_iter ?_ (F.args_zip_iter_1 _))
 show wpAny _ _ (ret (.ref z)) _ _ s
 exact wpAny_pure ⟨_,rfl, "zip",_,hT,F.slot_zip_next.lookup,h⟩
theorem Zjj{P:Program}{w:World}{K:PySem.W.Frag}{nm:Str}{tpos:Pos}{S1 S2:Src}{z TI TO i1 i2:Addr}
  (d1:TI≠z) (d2:TO≠z) (d3:i1≠z) (d4:i2≠z) (d5:TI≠TO) (d6:TI≠i1) (d7:TI≠i2) (d8:TO≠i1) (d9:TO≠i2) (d10:i1≠i2) :
  Zhc P w K (.Name nm tpos) (Itz K S1 S2) [z,TI,TO,i1,i2] z
   (fun i h=>(∃f0 fl,(f0=Value.none∨∃a:Addr,f0=rawInt a)∧ZaV h z TI TO f0 fl)∧IsPair h TI (.ref i1) (.ref i2)∧(∃a b,IsPair h TO a b)∧S1.at h i1 i∧S2.at h i2 i) where
 mem:=by simp
 obj:=fun i h st b hb=>by
  obtain⟨⟨f0,fl,hf0,hz⟩,hTI,⟨a,b',hTO⟩,h1,h2⟩:=st
  have nf:∀ {o:Obj} {vs:Array Value},o.data=.fields vs→∀v,o.data≠.cell v:=fun d v e=>by rw[d]at e;cases e
  simp only[List.mem_cons,List.not_mem_nil,or_false]at hb
  rcases hb with rfl|rfl|rfl|rfl|rfl
  ·exact⟨_,hz,nf rfl⟩
  ·exact⟨_,hTI,fun v e=>by cases e⟩
  ·exact⟨_,hTO,fun v e=>by cases e⟩
  ·obtain⟨o,vs,e,d⟩:=Src.at_obj h1;exact⟨o,e,nf d⟩
  ·obtain⟨o,vs,e,d⟩:=Src.at_obj h2;exact⟨o,e,nf d⟩
 keep:=fun i h h' st k=>by
  obtain⟨⟨f0,fl,hf0,hz⟩,hTI,⟨a,b',hTO⟩,h1,h2⟩:=st
  exact⟨⟨f0,fl,hf0,k z (by simp) _ hz⟩,k TI (by simp) _ hTI,⟨a,b',k TO (by simp) _ hTO⟩,Src.at_keep (fun o e=>k i1 (by simp) o e) h1,Src.at_keep (fun o e=>k i2 (by simp) o e) h2⟩
 item:=by
  intro X hP hw hK hc i pins s σ H E I hf st hg
  subst hP hw hK
  obtain⟨⟨f0,fl,hf0,hz⟩,hTI,⟨a,b',hTO⟩,h1,h2⟩:=st
  obtain⟨xs,ys,q1,q2,l1,l2⟩:=hg
  obtain⟨us1,r1,m1,f1⟩:=I.src q1
  obtain⟨us2,r2,m2,f2⟩:=I.src q2
  have hfz:=hf z (by simp)
  have D:ZfN z TI TO i1 i2 S1 S2:=⟨d1,d2,d3,d4,d5,d6,d7,d8,d9,d10,I.src_off hfz q1,I.src_off (hf TO (by simp)) q1,I.src_off (hf i1 (by simp)) q1,I.src_off (hf i2 (by simp)) q1,
   I.src_off hfz q2,I.src_off (hf TO (by simp)) q2,I.src_off (hf i1 (by simp)) q2,I.src_off (hf i2 (by simp)) q2⟩
  refine ZiX D hf0 hz hTI hTO h1 h2 r1 r2 (by omega) (by omega) fun h' tk x y fx fy a1 a2 a3 a4 a5 a6 a7=>?_
  have rx:=f1 i x _ fx (Qc l1)
  have ry:=f2 i y _ fy (Qc l2)
  obtain⟨f1',fl',hf1,hz''⟩:=a1
  obtain⟨ta,tb,a2⟩:=a2
  refine⟨_,rfl,wpAny_pure ?_⟩
  have hs':Heap.SameBut z h' h':=⟨rfl,fun _ _=>rfl⟩
  have hTI':IsPair h' TI (.ref i1) (.ref i2):=a7 _ _ d1 d5 d6 d7 hTI
  have lt:∀ {b:Addr} {o:Obj},s.heap.get? b=some o→s.heap.objs.size≠b:=fun e=>QZ (Qo e)
  have hzs:s.heap.objs.size≠z:=lt hz
  have I2:Inv X pins σ (upd H s.heap.objs.size (.tup [xs[i],ys[i]])) { s with heap:=h',toks:=tk }:=by
   refine I.zipped (fp:=[z,TI,TO,i1,i2]) hf rx ry (hs'.extBut _ _ hzs a5) (fun b hb=>?_) fun c o hc e=>?_
   ·simp only[List.mem_cons,List.not_mem_nil,or_false]at hb
    rcases hb with rfl|rfl|rfl|rfl|rfl
    ·exact⟨_,hz''⟩
    ·exact⟨_,hs'.extBut _ _ d1 hTI'⟩
    ·exact⟨_,hs'.extBut _ _ d2 a2⟩
    ·obtain⟨o,vs,e,_⟩:=Src.at_obj a3;exact⟨o,hs'.extBut _ _ d3 e⟩
    ·obtain⟨o,vs,e,_⟩:=Src.at_obj a4;exact⟨o,hs'.extBut _ _ d4 e⟩
   ·simp only[List.mem_cons,List.not_mem_nil,or_false,not_or]at hc
    exact hs'.extBut _ _ hc.1 (a7 c o hc.1 hc.2.2.1 hc.2.2.2.1 hc.2.2.2.2 e)
  refine⟨.ref s.heap.objs.size,_,I2,rfl,⟨s.heap.objs.size,I.fresh,rfl,fun xs' ys' w1 w2 x' y' e1 e2=>?_⟩,⟨⟨f1',fl',hf1,hz''⟩,hs'.extBut _ _ d1 hTI',⟨_,_,hs'.extBut _ _ d2 a2⟩,Src.at_keep (fun o e=>hs'.extBut _ o d3 e) a3,Src.at_keep (fun o e=>hs'.extBut _ o d4 e) a4⟩,fun b hb=>?_⟩
  ·have same:∀ {S:Src} {us vs:List V},S.its X.K H us→S.its X.K H vs→us=vs:=fun {S us vs} p q=>by
    cases S with
    | l a=>exact I.list_inj p q
    | t a=>exact I.tuple_inj p q
    | s z=>rw[show us=_ from p,show vs=_ from q]
   have e3:=same w1 q1
   have e4:=same w2 q2
   subst e3;subst e4
   rw[Qc l1]at e1
   rw[Qc l2]at e2
   cases e1;cases e2
   rfl
  ·rw[Zi (fun e=>by
    obtain⟨o,e1,_⟩:∃o,s.heap.get? b=some o∧True:=by
     simp only[List.mem_cons,List.not_mem_nil,or_false]at hb
     rcases hb with rfl|rfl|rfl|rfl|rfl
     ·exact⟨_,hz,trivial⟩
     ·exact⟨_,hTI,trivial⟩
     ·exact⟨_,hTO,trivial⟩
     ·obtain⟨o,vs,e,_⟩:=Src.at_obj h1;exact⟨o,e,trivial⟩
     ·obtain⟨o,vs,e,_⟩:=Src.at_obj h2;exact⟨o,e,trivial⟩
    exact lt e1 e.symm)]
   exact(hf b hb).1
 done:=by
  intro X hP hw hK hc i pins s σ H E I hf st hg
  subst hP hw hK
  obtain⟨⟨f0,fl,hf0,hz⟩,hTI,⟨a,b',hTO⟩,h1,h2⟩:=st
  obtain⟨xs,ys,q1,q2,l⟩:=hg
  obtain⟨us1,r1,m1,f1⟩:=I.src q1
  obtain⟨us2,r2,m2,f2⟩:=I.src q2
  have hfz:=hf z (by simp)
  have D:ZfN z TI TO i1 i2 S1 S2:=⟨d1,d2,d3,d4,d5,d6,d7,d8,d9,d10,I.src_off hfz q1,I.src_off (hf TO (by simp)) q1,I.src_off (hf i1 (by simp)) q1,I.src_off (hf i2 (by simp)) q1,
   I.src_off hfz q2,I.src_off (hf TO (by simp)) q2,I.src_off (hf i1 (by simp)) q2,I.src_off (hf i2 (by simp)) q2⟩
  refine ZiS (I.ok.hd hc) D hf0 hz hTI hTO h1 h2 r1 r2 (by omega) fun h' tk hk=>⟨rfl,?_⟩
  have kf:∀c o,c ∉ [z,TI,TO,i1,i2]→s.heap.get? c=some o→h'.get? c=some o:=fun c o hc e=>by
   simp only[List.mem_cons,List.not_mem_nil,or_false,not_or]at hc
   exact hk c o hc.1 hc.2.2.1 hc.2.2.2.1 hc.2.2.2.2 e
  have nfp:∀b u,H b=some u→b ∉ [z,TI,TO,i1,i2]:=fun b u e hb=>by rw[(hf b hb).1]at e;cases e
  refine I.step (g':=s.gens) (d':=s.drawn) (ch:=[z,TI,TO,i1,i2]) (fun b hb=>⟨(hf b hb).2.2.2.1,(hf b hb).2.1,(hf b hb).2.2.2.2.1,(hf b hb).2.2.2.2.2⟩)
   (fun b ob _ _ hc e _=>kf b ob hc e) (fun b ob _ _ hc e _=>⟨ob.slots,kf b ob hc e⟩) (fun b ob _ e n=>n) (fun b ob hc e=>⟨ob,kf b ob hc e⟩)
   (fun b xs e=>e) (fun b ob u e=>e) (fun b ps e=>⟨#[],by rw[e];simp⟩) (fun m hm=>?_) (fun b ub e=>?_) I.bare
  ·obtain⟨ob,es,ep,ho,r⟩:=hm
   exact⟨ob,es,ep,kf _ ob (fun z=>(hf _ z).2.1 rfl) ho,r⟩
  ·refine(I.hok b ub e).stay (fun c w' hc q=>kf c w' ?_ q) (fun c q=>q) fun c xs q=>q
   rcases hc with z'|z'
   ·rw[z'];exact nfp b ub e
   ·exact nfp c _ z'
 self:=fun _ _ _ _ _ st h=>by
  obtain⟨⟨f0,fl,hf0,hz⟩,_⟩:=st
  exact ZiE hz h
theorem Zl1{X:Cx}{a b:Expr}{ta:TA}{p pos:Pos}{nm:Str}{tpos:Pos}(hg:Gl X "zip")(hm:X.mg "zip" = none)(ha:PA X [a,b] ta)
  (hs:starEach [a,b] X.env=[(false,eval a X.env),(false,eval b X.env)]:=by rfl) (hs2:starEach [b] X.env=[(false,eval b X.env)]:=by rfl) :
  PI X (.Name nm tpos) (.Call (.Name "zip" p) [a,b] [] pos) (ZnX X.K ta):=by
 intro pins s σ H R I h
 refine Call_ (ZdY I hg hm boot_zip (Qab (thn (ha pos pins s σ H _ I h) ?_) (by rw[hs,hs2]) (by rw[hs2];rfl)))
 rintro us s1 ⟨vs,H1,I1,r1,q1⟩
 obtain⟨S1,S2,xs,ys,e,y1,y2,q⟩:=q1
 subst e
 obtain⟨u1,u2,rfl,w1,w2⟩:=r1.two
 have vo:∀ {S:Src} {u:Value},ZT S.val u→∃tk,u=S.value tk:=fun {S u} r=>by
  cases S with
  | l a=>exact⟨0,r⟩
  | t a=>exact⟨0,r⟩
  | s z=>obtain⟨tk,e⟩:=r;exact⟨tk,e⟩
 obtain⟨t1,rfl⟩:=vo w1
 obtain⟨t2,rfl⟩:=vo w2
 obtain⟨us1,r1,m1,f1⟩:=I1.src y1
 obtain⟨us2,r2,m2,f2⟩:=I1.src y2
 refine ZjI r1 r2 fun h' hz hTI hTO a1 a2 a3 hk=>wpAny_pyIter_zip hz ?_
 have I2:Inv X pins σ H1 { s1 with heap:=h' }:=I1.kept (t':=s1.toks) hk
 have n:=s1.heap.objs.size
 refine⟨_,_,_,_,H1,rfl,I2,Zjj (S1:=S1) (S2:=S2) (z:=s1.heap.objs.size+4) (TI:=s1.heap.objs.size+2) (TO:=s1.heap.objs.size+3) (i1:=s1.heap.objs.size) (i2:=s1.heap.objs.size+1)
  (Qx (Qaa (by decide) _)) (Qx (Qaa (by decide) _)) (Qx (Qak (by decide))) (Qx (Qaa (by decide) _))
  (Qx (Qaa (by decide) _)) (QZ (Qak (by decide))) (QZ (Qaa (by decide) _)) (QZ (Qak (by decide)))
  (QZ (Qaa (by decide) _)) (Qx (Qak (by decide))),⟨⟨_,_,.inl rfl,hz⟩,hTI,⟨_,_,hTO⟩,a1,a2⟩,fun b hb=>?_,q⟩
 have hb':s1.heap.objs.size≤b:=by
  simp only[List.mem_cons,List.not_mem_nil,or_false]at hb
  rcases hb with rfl|rfl|rfl|rfl|rfl
  ·exact Qad _ 4
  ·exact Qad _ 2
  ·exact Qad _ 3
  ·exact Qd _
  ·exact Qad _ 1
 exact I1.fpOk hb' (I1.hok.fresh hb')
theorem iZN{X:Cx}(K:PySem.W.Frag){a b:Expr}{ta:TA}{p pos:Pos}{nm:Str}{tpos:Pos}(hm:X.mg "zip" = none)(ha:PA X [a,b] ta)(hg:Gl X "zip":=by rfl)(hK:X.K=K:=by rfl)
  (hs:starEach [a,b] X.env=[(false,eval a X.env),(false,eval b X.env)]:=by rfl) (hs2:starEach [b] X.env=[(false,eval b X.env)]:=by rfl) :
  PI X (.Name nm tpos) (.Call (.Name "zip" p) [a,b] [] pos) (ZnX K ta):=by subst hK;exact Zl1 hg hm ha hs hs2
theorem ZeR(elt t1 i1 t2 i2:Expr)(scope:Scope)(pos:Pos)(it acc:Value)(env:Env) :
  compTurn (.ListComp elt [⟨t1,i1,[],0⟩,⟨t2,i2,[],0⟩] scope pos) 0 it acc env=(do
   standAt i1.pos
   match ← pyNext it with
   | none=>pure (.done .next)
   | some v =>
    letOwnedTupleGo t1 it v
    assign t1 env v
    let x ← eval i2 env
    standAt i2.pos
    let x ← foldedSetIterable i2 env x
    let _ ← runOwn (.compStart (.ListComp elt [⟨t1,i1,[],0⟩,⟨t2,i2,[],0⟩] scope pos) 1 (← holding [x] (pyIter x)) acc env) env
    again (.compLoop (.ListComp elt [⟨t1,i1,[],0⟩,⟨t2,i2,[],0⟩] scope pos) 0 it acc env)):=by rfl
theorem ZeS(elt t1 i1 t2 i2:Expr)(scope:Scope)(pos:Pos)(it acc:Value)(env:Env) :
  compTurn (.ListComp elt [⟨t1,i1,[],0⟩,⟨t2,i2,[],0⟩] scope pos) 1 it acc env=(do
   standAt i2.pos
   match ← pyNext it with
   | none=>pure (.done .next)
   | some v =>
    letOwnedTupleGo t2 it v
    assign t2 env v
    (do let _ ← call (.builtin "list.append") [acc,← eval elt env])
    again (.compLoop (.ListComp elt [⟨t1,i1,[],0⟩,⟨t2,i2,[],0⟩] scope pos) 1 it acc env)):=by rfl
section
variable {prog:Program} {w:World} {A:Around} {R:Result→Shared→Prop} {s:Shared}
theorem Zgu{elt t1 i1 t2 i2:Expr}{scope:Scope}{pos:Pos}{it acc:Value}{env:Env}{E:Value→Shared→Prop}(I:Nat→Shared→Prop)
  (hE:∀e s',E e s'→False)
  (turn:∀n s,I n s→wpAny (model prog w) A (pyNext it) (fun r s₁=>match r with
   | none=>R (.ok .next) s₁
   | some v=>wpAny (model prog w) A (letOwnedTupleGo t2 it v) (fun _ s₀=>wpAny (model prog w) A (assign t2 env v) (fun _ s₂ =>
     wpAny (model prog w) A (eval elt env) (fun x s₄ =>
       wpAny (model prog w) A (call (.builtin "list.append") [acc,x]) (fun _ s₅=>∃m,m<n∧I m s₅) E s₄) E s₂) E s₀) E s₁) E s)
  (n:Nat) (h:I n s):codeAny (model prog w) A (.compLoop (.ListComp elt [⟨t1,i1,[],0⟩,⟨t2,i2,[],0⟩] scope pos) 1 it acc env) R s:=by
 have go:∀ {α:Type} {t:Sem α} {Q:α→Shared→Prop} {s:Shared},wpAny (model prog w) A t Q E s→wpAny (model prog w) A t Q (notedBy (model prog w) A env fun e s'=>R (.error e) s') s :=
  fun {α t Q s} q=>wpAny_mono q (fun _ _ z=>z) fun e s' z=>(hE e s' z).elim
 refine codeAny_loop rfl I (fun n s hI=>?_) n h
 show wpAny _ A ((compTurn (.ListComp elt [⟨t1,i1,[],0⟩,⟨t2,i2,[],0⟩] scope pos) 1 it acc env).onRaise (fun x=>do noteFrame x env;theTreesLotGoes x)) _ _ s
 refine wpAny_noted ?_
 rw[ZeS]
 refine wpAny_bind (wpAny_standAt (wpAny_bind (thn (go (turn n s hI)) fun r s₁ h₁=>?_)))
 cases r with
 | none=>exact wpAny_pure h₁
 | some v =>
  refine wpAny_bind (thn (go h₁) fun _ s₀ h₀=>wpAny_bind (thn (go h₀) fun _ s₂ h₂=>?_))
  exact wpAny_bind (wpAny_bind (thn (go h₂) fun x s₄ h₄=>wpAny_bind (thn (go h₄) fun _ s₅ h₅=>wpAny_pure (wpAny_pure ⟨rfl,h₅⟩))))
theorem ZfO{elt t1 i1 t2 i2:Expr}{scope:Scope}{pos:Pos}{it acc:Value}{env:Env}{E:Value→Shared→Prop}(I:Nat→Shared→Prop)
  (hE:∀e s',E e s'→False) (hs:∀x,foldedSetIterable i2 env x=pure x)
  (turn:∀n s,I n s→wpAny (model prog w) A (pyNext it) (fun r s₁=>match r with
   | none=>R (.ok .next) s₁
   | some v=>wpAny (model prog w) A (letOwnedTupleGo t1 it v) (fun _ s₀=>wpAny (model prog w) A (assign t1 env v) (fun _ s₂ =>
     wpAny (model prog w) A (eval i2 env) (fun x s₃=>wpAny (model prog w) A (pyIter x) (fun it2 s₄ =>
       ∀R2:Result→Shared→Prop,(∀s₅,(∃m,m<n∧I m s₅)→R2 (.ok .next) s₅)→codeAny (model prog w) A (.compStart (.ListComp elt [⟨t1,i1,[],0⟩,⟨t2,i2,[],0⟩] scope pos) 1 it2 acc env) R2 s₄) E s₃) E s₂) E s₀) E s₁) E s)
  (n:Nat) (h:I n s):codeAny (model prog w) A (.compLoop (.ListComp elt [⟨t1,i1,[],0⟩,⟨t2,i2,[],0⟩] scope pos) 0 it acc env) R s:=by
 have go:∀ {α:Type} {t:Sem α} {Q:α→Shared→Prop} {s:Shared},wpAny (model prog w) A t Q E s→wpAny (model prog w) A t Q (notedBy (model prog w) A env fun e s'=>R (.error e) s') s :=
  fun {α t Q s} q=>wpAny_mono q (fun _ _ z=>z) fun e s' z=>(hE e s' z).elim
 refine codeAny_loop rfl I (fun n s hI=>?_) n h
 show wpAny _ A ((compTurn (.ListComp elt [⟨t1,i1,[],0⟩,⟨t2,i2,[],0⟩] scope pos) 0 it acc env).onRaise (fun x=>do noteFrame x env;theTreesLotGoes x)) _ _ s
 refine wpAny_noted ?_
 rw[ZeR]
 refine wpAny_bind (wpAny_standAt (wpAny_bind (thn (go (turn n s hI)) fun r s₁ h₁=>?_)))
 cases r with
 | none=>exact wpAny_pure h₁
 | some v =>
  refine wpAny_bind (thn (go h₁) fun _ s₀ h₀=>wpAny_bind (thn (go h₀) fun _ s₂ h₂=>wpAny_bind (thn (go h₂) fun x s₃ h₃=>?_)))
  refine wpAny_bind (wpAny_standAt (wpAny_bind (wpAny_of_eq (hs x) (wpAny_bind (wpAny_holding (thn (go h₃) fun it2 s₄ h₄=>?_))))))
  refine wpAny_bind (wpAny_runOwn (h:=none) ?_)
  exact h₄ _ fun s₅ h₅=>wpAny_pure ⟨rfl,h₅⟩
theorem ZfM{elt t1 i1 t2 i2:Expr}{scope:Scope}{pos:Pos}{it acc:Value}{env:Env}
  (h0:codeAny (model prog w) A (.compLoop (.ListComp elt [⟨t1,i1,[],0⟩,⟨t2,i2,[],0⟩] scope pos) 1 it acc env) R s)
  (h:wpAny (model prog w) A (pyIter it) (fun it' s'=>codeAny (model prog w) A (.compLoop (.ListComp elt [⟨t1,i1,[],0⟩,⟨t2,i2,[],0⟩] scope pos) 1 it' acc env) R s')
   (notedBy (model prog w) A env fun x s'=>R (.error x) s') s) :
  codeAny (model prog w) A (.compStart (.ListComp elt [⟨t1,i1,[],0⟩,⟨t2,i2,[],0⟩] scope pos) 1 it acc env) R s:=by
 refine codeAny_of_tree ?_
 show wpAny _ _ ((compStart (.ListComp elt [⟨t1,i1,[],0⟩,⟨t2,i2,[],0⟩] scope pos) 1 it acc env).onRaise (fun x=>do noteFrame x env;standAt theWindowsPlace)) _ _ s
 refine wpAny_notedAt ?_
 unfold compStart
 show wpAny _ _ (ask >>= _) _ _ s
 refine wpAny_bind (wpAny_askSetting (wpAny_ite ?_))
 split
 ·first
   | exact wpAny_bind (wpAny_pure (wpAny_pure (And.intro rfl h0)))
   | exact wpAny_pure (And.intro rfl h0)
 ·first
   | exact wpAny_bind (wpAny_rule (wpAny_bind (wpAny_standAt (wpAny_bind (wpAny_mono h (fun it' s' h'=>wpAny_pure (And.intro rfl h')) fun _ _ x=>x)))))
   | (refine wpAny_bind (wpAny_rule ?_);show wpAny _ _ (standAt i2.pos >>= _) _ _ s;exact wpAny_bind (wpAny_standAt (wpAny_bind (wpAny_mono h (fun it' s' h'=>wpAny_pure (And.intro rfl h')) fun _ _ x=>x))))
end
def ZfC(J:It)(D:Addr)(ys:List V)(σ:St)(H:Hp)(g:TG)(te:TE)(N:List V→St→Hp→Prop):Prop :=
 ∃W:Nat→Nat→List V→St→Hp→Prop,(∃m,W 0 m ys σ H) ∧
  ∀i m ys σ2 H2,W i m ys σ2 H2→(J.stop i H2∧N ys σ2 H2) ∨
   (J.go i H2∧∃N2:List V→St→Hp→Prop,(∀ys' σ' H',N2 ys' σ' H'→∃m',m'<m∧W (i+1) m' ys' σ' H')∧∀x H3,J.yld i H2 x H3→g x σ2 H3 fun σ4 H4 =>
    te σ4 H4 fun y H6=>H6 D=some (.lst ys)∧ys.length<sizeLine∧N2 (ys++[y]) σ4 (upd H6 D (.lst (ys++[y]))))
def Ziv(J:It)(D:Addr)(k:Nat)(σ:St)(H1:Hp)(g:TG)(wi2:TI)(g2:TG)(te:TE)(Q:VK):Prop :=
 ∃W:Nat→Nat→List V→St→Hp→Prop,(∃m,W 0 m [] (σ++List.replicate k none) (upd H1 D (.lst []))) ∧
  ∀i m ys σ2 H2,W i m ys σ2 H2→(J.stop i H2∧Q (.ref D) H2) ∨
   (J.go i H2∧∃N:List V→St→Hp→Prop,(∀ys' σ' H',N ys' σ' H'→∃m',m'<m∧W (i+1) m' ys' σ' H')∧∀x H3,J.yld i H2 x H3→g x σ2 H3 fun σ4 H4=>wi2 σ4 H4 fun J2 H5=>ZfC J2 D ys σ4 H5 g2 te N)
def Zka(n:Nat)(wi:TI)(g:TG)(wi2:TI)(g2:TG)(te:TE):TE:=fun σ H Q=>wi σ H fun J H1=>∀D,H1 D=none→Ziv J D n σ H1 g wi2 g2 te Q
section
variable {X:Cx} {N N':List Str} {o c:Scope}
theorem ZiU{elt tg iter tg2 iter2:Expr}{pos pos':Pos}{wi wi2:TI}{g g2:TG}{te:TE}{use:Option (Value→Sem Unit)}{QQ:Value→Shared→Prop}(S:ZN N N' o c)(hN:X.N=N)(ho:X.env.scope=o)(hc:X.calm=true)
  (hi:PI X tg iter wi) (hg:∀C s H fp,PG (ZI X c N' C s H fp) tg g) (hi2:∀C s H fp,PI (ZI X c N' C s H fp) tg2 iter2 wi2) (hg2:∀C s H fp,PG (ZI X c N' C s H fp) tg2 g2) (he:∀C s H fp,PE (ZI X c N' C s H fp) elt te)
  (hs:∀x,foldedSetIterable iter X.env x=pure x) (hs2:∀C s H fp x,foldedSetIterable iter2 (ZI X c N' C s H fp).env x=pure x) {pins:List (Addr×Obj)} {s:Shared} {σ:St} {H:Hp} {Q:VK} (I:Inv X pins σ H s) (h:Zka (N'.length-N.length) wi g wi2 g2 te σ H Q)
  (post:∀ (D C:Addr) (s5:Shared) (H5:Hp) (m:Str→Option Value),Inv X pins σ H5 s5→H5 C=none→s5.heap.Ns C m→C≠X.env.locals→X.s₀.heap.objs.size≤C→(∀x a,X.env.cells.lookup x=some a→a≠C)→(∀p∈X.pn++pins,p.1≠C) →
   Q (.ref D) H5→compPost (model X.prog X.w) X.A X.xe use QQ (.ref D) C (.ok .next) s5) :
  wpAny (model X.prog X.w) X.A (comprehension (.ListComp elt [⟨tg,iter,[],0⟩,⟨tg2,iter2,[],0⟩] c pos) c X.env pos' (newList []) false (eval iter X.env) use) QQ X.xe s:=by
 have hclos:closureFor c X.env=pure (Z5 X.env.cells c.names []):=Zb6 fun y hy hf=>by
  refine I.ok.has y.1 ?_
  show X.env.scope.names.lookup y.1=_∨X.env.scope.names.lookup y.1=_
  rw[ho];exact(S.free y hy hf).2
 refine wpAny_comprehension_free (use:=use) rfl hs hclos S.kind S.loc (thn (hi pins s σ H _ I h) fun v s1 h1=>thn h1 fun itv s2 h2=>?_)
 obtain⟨it,fp,tn,J,H2,e,I2,T,st2,f2,hR⟩:=h2
 subst e
 have hD:H2 s2.heap.objs.size=none:=I2.fresh
 have I3:Inv X pins σ (upd H2 s2.heap.objs.size (.lst [])) { s2 with heap:=s2.heap.push { cls:=.type "list",data:=.seq ([]:List Value).toArray } } :=
  I2.lnew (ys:=[]) (its:=[]) (t':=s2.toks) .nil (Qm _)
 have fpl:∀b∈fp,b<s2.heap.objs.size:=fun b hb=>by
  obtain⟨ob,e,_⟩:=T.obj 0 _ st2 b hb
  exact Qo e
 refine wpAny_newObj_type (wpAny_newFunctionEnv S.nocell (by intro y hy;simp at hy) (fun h₁ hns₁ hsb₁=>?_) S.kind)
 have e3:∃s3:Shared,s3={ s2 with heap:=s2.heap.push { cls:=.type "list",data:=.seq ([]:List Value).toArray } }:=⟨_,rfl⟩
 obtain⟨s3,hs3⟩:=e3
 have e3:s3.heap=s2.heap.push { cls:=.type "list",data:=.seq ([]:List Value).toArray }:=by rw[hs3]
 have sz3:s3.heap.objs.size=s2.heap.objs.size+1:=by rw[e3,Q1]
 have fpl3:∀b∈fp,b<s3.heap.objs.size:=fun b hb=>Qy (fpl b hb) (by rw[sz3];exact QaM _)
 have f3:∀b∈fp,ZcR X pins (upd H2 s2.heap.objs.size (.lst [])) b:=fun b hb=>⟨by rw[Zi (Qx (fpl b hb))];exact(f2 b hb).1,(f2 b hb).2⟩
 have st3:tn 0 s3.heap:=T.keep 0 _ _ st2 fun b _ ob e=>by rw[e3];exact Qb _ e
 rw[← hs3]at I3
 show codeAny (model X.prog X.w) X.A (.compStart _ 0 (.ref it) (.ref s2.heap.objs.size) (compEnvC c (Z5 X.env.cells c.names []) (s2.heap.push { cls:=.type "list",data:=.seq ([]:List Value).toArray }).objs.size X.env))
  (compPost (model X.prog X.w) X.A X.xe use QQ (.ref s2.heap.objs.size) (s2.heap.push { cls:=.type "list",data:=.seq ([]:List Value).toArray }).objs.size)
  { s2 with heap:=h₁,toks:=s2.toks+([]:List (Str×Value)).length }
 have hns:h₁.Ns s3.heap.objs.size (fun x=>([]:List (Str×Value)).reverse.lookup x):=by rw[e3];exact hns₁
 have hk1:∀b ob,s3.heap.get? b=some ob→h₁.get? b=some ob:=fun b ob e=>by
  rw[e3]at e
  exact hsb₁.extBut b ob (Qx (Qo e)) (Qb _ e)
 rw[← e3]
 have es4:({ s2 with heap:=h₁,toks:=s2.toks+([]:List (Str×Value)).length }:Shared)={ s3 with heap:=h₁,toks:=s2.toks }:=by rw[hs3];rfl
 rw[es4]
 obtain⟨W,⟨m0,w0⟩,turn⟩:=hR s2.heap.objs.size hD
 have I4:=Zem (tk:=s2.toks) S hN ho I3 f3 fpl3 hns hk1
 have st4:tn 0 h₁:=T.keep 0 _ _ st3 fun b _ ob e=>hk1 b ob e
 generalize hX:ZI X c N' s3.heap.objs.size s3 (upd H2 s2.heap.objs.size (.lst [])) fp=Y at I4
 have Yp:Y.prog=X.prog:=by rw[← hX];rfl
 have Yw:Y.w=X.w:=by rw[← hX];rfl
 have YK:Y.K=X.K:=by rw[← hX];rfl
 have Yc:Y.calm=true:=by rw[← hX];exact hc
 have YA:Y.A=X.A:=by rw[← hX];rfl
 have Yenv:Y.env=compEnvC c (Z5 X.env.cells c.names []) s3.heap.objs.size X.env:=by rw[← hX];rfl
 have Yl:Y.env.locals=s3.heap.objs.size:=by rw[Yenv];rfl
 have Yxe:Y.xe=fun _ _=>False:=by rw[← hX];rfl
 have hg':=hg s3.heap.objs.size s3 (upd H2 s2.heap.objs.size (.lst [])) fp
 have hi2':=hi2 s3.heap.objs.size s3 (upd H2 s2.heap.objs.size (.lst [])) fp
 have hg2':=hg2 s3.heap.objs.size s3 (upd H2 s2.heap.objs.size (.lst [])) fp
 have hs2':=hs2 s3.heap.objs.size s3 (upd H2 s2.heap.objs.size (.lst [])) fp
 have he':=he s3.heap.objs.size s3 (upd H2 s2.heap.objs.size (.lst [])) fp
 rw[hX]at hg' hi2' hg2' hs2' he'
 have stat:∀ {H':Hp},(∀b∈fp,H' b=none)→∀b∈fp,ZcR Y [] H' b:=fun {H'} hn b hb=>by
  obtain⟨_,q1,q2,q3,q4,_⟩:=f3 b hb
  have z1:=I4.ok.exf b (by rw[← hX];exact hb)
  refine⟨hn b hb,z1.1,I4.ok.exfs b (by rw[← hX];exact hb),.inl (by rw[← hX];exact hb),z1.2,fun p hp=>?_⟩
  have hp':p∈([]:List (Addr×Obj)):=by
   have:Y.pn=[]:=by rw[← hX];rfl
   rw[this]at hp;exact hp
  cases hp'
 have fin:∀ (s5:Shared) (σ5:St) (H5:Hp),Inv Y [] σ5 H5 s5→Q (.ref s2.heap.objs.size) H5→compPost (model X.prog X.w) X.A X.xe use QQ (.ref s2.heap.objs.size) s3.heap.objs.size (.ok .next) s5:=fun s5 σ5 H5 I5 q=>by
  obtain⟨m,hn,_⟩:=id I5.loc
  rw[Yl]at hn
  have hCn:H5 s3.heap.objs.size=none:=by have:=I5.free;rw[Yl]at this;exact this
  have un:Un (frs X.stack) fp (upd H2 s2.heap.objs.size (.lst [])) H5 s3.heap s5.heap:=by
   have:=I5.base
   rw[← hX]at this
   exact this
  have os5:s5.os=s3.os:=by have:=I5.os;rw[← hX]at this;exact this
  have hok5:HOk X.prog X.w H5 s5.heap:=by
   have:=I5.hok
   rw[Yp,Yw]at this
   exact this
  refine post _ _ s5 H5 m (I3.call' (s':=s5) (ch:=fp) os5 un hok5 I5.bare fun b hb=>?_) hCn hn (QZ I3.lt) I3.sz (fun x a e=>?_) (fun p hp=>?_) q
  ·obtain⟨_,q1,_,q3,q4,q5⟩:=f3 b hb
   exact⟨q3,q1,q4,q5⟩
  ·obtain⟨v,ob,e',_⟩:=I3.cell x a e
   exact Qx (Qo e')
  ·exact Qx (Qo (I3.pin p hp).1)
 have loop:codeAny (model X.prog X.w) X.A (.compLoop (.ListComp elt [⟨tg,iter,[],0⟩,⟨tg2,iter2,[],0⟩] c pos) 0 (.ref it) (.ref s2.heap.objs.size) (compEnvC c (Z5 X.env.cells c.names []) s3.heap.objs.size X.env))
   (compPost (model X.prog X.w) X.A X.xe use QQ (.ref s2.heap.objs.size) s3.heap.objs.size) { s3 with heap:=h₁,toks:=s2.toks }:=by
  rw[← Yenv,← YA]
  refine ZfO (E:=fun _ _=>False) (fun n s'=>∃i ys σ' H',Inv Y [] σ' H' s'∧tn i s'.heap∧(∀b∈fp,H' b=none)∧W i n ys σ' H') (fun _ _ z=>z) hs2' ?_ m0
   ⟨0,[],_,_,I4,st4,fun b hb=>(f3 b hb).1,?_⟩
  ·rintro n s5 ⟨i,ys,σ5,H5,I5,st5,fr5,w5⟩
   rcases turn i n ys σ5 H5 w5 with⟨stop,qn⟩|⟨go,Nn,hNn,step⟩
   ·refine thn (T.done Y Yp Yw YK Yc i [] s5 σ5 H5 _ I5 (stat fr5) st5 stop) ?_
    rintro r s6 ⟨hr,I6⟩
    subst hr
    have fq:=fin s6 σ5 H5 I6 qn
    rw[← YA]at fq
    exact fq
   ·refine thn (T.item Y Yp Yw YK Yc i [] s5 σ5 H5 _ I5 (stat fr5) st5 go) ?_
    rintro r s6 ⟨u,hr,h6⟩
    subst hr
    refine thn h6 ?_
    rintro _ s7 ⟨x,H7,I7,r7,y7,st7,fr7⟩
    have I7':=I7.pinned (stat fr7) (T.obj _ _ st7)
    have back:∀ {σ9:St} {H9:Hp} {s9:Shared},Inv Y ([]++ZbC fp s7.heap) σ9 H9 s9→Inv Y [] σ9 H9 s9∧tn (i+1) s9.heap∧∀b∈fp,H9 b=none:=fun {σ9 H9 s9} I9=>by
     refine⟨I9.unpinned,T.keep _ _ _ st7 fun b hb ob e=>(I9.pin (b,ob) (Qs _ (Qs _ (Zaj hb e)))).1,fun b hb=>?_⟩
     obtain⟨ob,e,d⟩:=T.obj _ _ st7 b hb
     exact(I9.pin (b,ob) (Qs _ (Qs _ (Zaj hb e)))).2.1
    have P1:=hg' _ s7 σ5 H7 x u _ I7' r7 (step x H7 y7)
    rw[Yp,Yw,Yxe]at P1
    refine thn P1 ?_
    rintro _ s8 ⟨σ8,H8,I8,q8⟩
    have P2:=hi2' _ s8 σ8 H8 _ I8 q8
    rw[Yp,Yw,Yxe]at P2
    refine thn P2 fun v2 s9 h9=>thn h9 fun itv2 s10 h10=>?_
    obtain⟨it2,fp2,tn2,J2,H10,e10,I10,T2,st10,f10,W2,⟨m2,w2⟩,turn2⟩:=h10
    subst e10
    intro R2 hR2
    rw[Yp,Yw,YK]at T2
    have stat2:∀ {H':Hp},(∀b∈fp2,H' b=none)→∀b∈fp2,ZcR Y ([]++ZbC fp s7.heap) H' b:=fun hn b hb=>⟨hn b hb,(f10 b hb).2⟩
    have loop2:codeAny (model X.prog X.w) Y.A (.compLoop (.ListComp elt [⟨tg,iter,[],0⟩,⟨tg2,iter2,[],0⟩] c pos) 1 (.ref it2) (.ref s2.heap.objs.size) Y.env) R2 s10:=by
     refine Zgu (E:=fun _ _=>False) (fun n' s'=>∃i' ys' σ' H',Inv Y ([]++ZbC fp s7.heap) σ' H' s'∧tn2 i' s'.heap∧(∀b∈fp2,H' b=none)∧W2 i' n' ys' σ' H') (fun _ _ z=>z) ?_ m2
      ⟨0,ys,σ8,H10,I10,st10,fun b hb=>(f10 b hb).1,w2⟩
     rintro n' s11 ⟨i',ys',σ11,H11,I11,st11,fr11,w11⟩
     rcases turn2 i' n' ys' σ11 H11 w11 with⟨stop2,qn2⟩|⟨go2,Nn2,hNn2,step2⟩
     ·refine thn (T2.done Y Yp Yw YK Yc i' _ s11 σ11 H11 _ I11 (stat2 fr11) st11 stop2) ?_
      rintro r s12 ⟨hr,I12⟩
      subst hr
      obtain⟨b1,b2,b3⟩:=back I12
      obtain⟨m',hm',w12⟩:=hNn _ _ _ qn2
      exact hR2 s12 ⟨m',hm',i+1,ys',σ11,H11,b1,b2,b3,w12⟩
     ·refine thn (T2.item Y Yp Yw YK Yc i' _ s11 σ11 H11 _ I11 (stat2 fr11) st11 go2) ?_
      rintro r s12 ⟨u2,hr,h12⟩
      subst hr
      refine thn h12 ?_
      rintro _ s13 ⟨x2,H13,I13,r13,y13,st13,fr13⟩
      have I13':=I13.pinned (stat2 fr13) (T2.obj _ _ st13)
      have back2:∀ {σ9:St} {H9:Hp} {s9:Shared},Inv Y (([]++ZbC fp s7.heap)++ZbC fp2 s13.heap) σ9 H9 s9→Inv Y ([]++ZbC fp s7.heap) σ9 H9 s9∧tn2 (i'+1) s9.heap∧∀b∈fp2,H9 b=none:=fun {σ9 H9 s9} I9=>by
       refine⟨I9.unpinned,T2.keep _ _ _ st13 fun b hb ob e=>(I9.pin (b,ob) (Qs _ (Qs _ (Zaj hb e)))).1,fun b hb=>?_⟩
       obtain⟨ob,e,d⟩:=T2.obj _ _ st13 b hb
       exact(I9.pin (b,ob) (Qs _ (Qs _ (Zaj hb e)))).2.1
      have P5:=hg2' _ s13 σ11 H13 x2 u2 _ I13' r13 (step2 x2 H13 y13)
      rw[Yp,Yw,Yxe]at P5
      refine thn P5 ?_
      rintro _ s14 ⟨σ14,H14,I14,q14⟩
      have P3:=he' _ s14 σ14 H14 _ I14 q14
      rw[Yp,Yw,Yxe]at P3
      refine thn P3 ?_
      rintro y s15 ⟨vy,H15,I15,r15,hDl,hsz,q15⟩
      have P4:=ZaS (X:=Y) _ s15 σ14 H15 (.ref s2.heap.objs.size) [vy] (.ref s2.heap.objs.size) [y] (fun _ H'=>Nn2 (ys'++[vy]) σ14 H') I15 rfl (.cons r15 .nil) ⟨_,ys',vy,rfl,rfl,hDl,hsz,q15⟩
      rw[Yp,Yw,Yxe]at P4
      refine thn P4 ?_
      rintro _ s16 ⟨_,H16,I16,_,q16⟩
      obtain⟨b1,b2,b3⟩:=back2 I16
      obtain⟨m',hm',w16⟩:=hNn2 _ _ _ q16
      exact⟨m',hm',i'+1,ys'++[vy],σ14,H16,b1,b2,b3,w16⟩
    have lp2:=T2.self Y.A 0 s10 (fun it' s'=>codeAny (model X.prog X.w) Y.A (.compLoop (.ListComp elt [⟨tg,iter,[],0⟩,⟨tg2,iter2,[],0⟩] c pos) 1 it' (.ref s2.heap.objs.size) Y.env) R2 s') (fun _ _=>False) st10 loop2
    exact ZfM loop2 (wpAny_mono lp2 (fun _ _ z=>z) fun _ _ z=>z.elim)
  ·exact w0
 have lp:=T.self X.A 0 { s3 with heap:=h₁,toks:=s2.toks } (fun it' s'=>codeAny (model X.prog X.w) X.A (.compLoop (.ListComp elt [⟨tg,iter,[],0⟩,⟨tg2,iter2,[],0⟩] c pos) 0 it' (.ref s2.heap.objs.size) (compEnvC c (Z5 X.env.cells c.names []) s3.heap.objs.size X.env))
   (compPost (model X.prog X.w) X.A X.xe use QQ (.ref s2.heap.objs.size) s3.heap.objs.size) s') (fun _ _=>False) st4 loop
 exact codeAny_compStart_list loop (wpAny_mono lp (fun _ _ z=>z) fun _ _ z=>z.elim)
theorem Zgf{elt tg iter tg2 iter2:Expr}{pos:Pos}{wi wi2:TI}{g g2:TG}{te:TE}(S:ZN N N' o c)(hN:X.N=N)(ho:X.env.scope=o)(hc:X.calm=true)
  (hi:PI X tg iter wi) (hg:∀C s H fp,PG (ZI X c N' C s H fp) tg g) (hi2:∀C s H fp,PI (ZI X c N' C s H fp) tg2 iter2 wi2) (hg2:∀C s H fp,PG (ZI X c N' C s H fp) tg2 g2) (he:∀C s H fp,PE (ZI X c N' C s H fp) elt te)
  (hs:∀x,foldedSetIterable iter X.env x=pure x:=by intro _;rfl) (hs2:∀C s H fp x,foldedSetIterable iter2 (ZI X c N' C s H fp).env x=pure x:=by intro _ _ _ _ _;rfl) :
  PE X (.ListComp elt [⟨tg,iter,[],0⟩,⟨tg2,iter2,[],0⟩] c pos) (Zka (N'.length-N.length) wi g wi2 g2 te):=by
 intro pins s σ H Q I h
 rw[eval_ListComp]
 refine ZiU (use:=none) S hN ho hc hi hg hi2 hg2 he hs hs2 I h fun D C s5 H5 m I5 hCn hn n1 n2 n3 n4 q=>⟨m,hn,fun h' hsb=>?_⟩
 exact⟨.ref D,H5,I5.let hCn n1 n2 n3 n4 hsb,rfl,q⟩
end
theorem Zd1{lo:Int}{n k:Nat}{D:Addr}{σ:St}{H1:Hp}{g:TG}{wi2:TI}{g2:TG}{te:TE}{Q:VK}(Pv:Nat→List V→St→Hp→Prop)(h0:Pv 0 [] (σ++List.replicate k none) (upd H1 D (.lst [])))
  (hs:∀i ys σ H,i<n→Pv i ys σ H→g (.int (lo+i)) σ H fun σ4 H4=>wi2 σ4 H4 fun J2 H5=>ZfC J2 D ys σ4 H5 g2 te (Pv (i+1)))
  (hd:∀ys σ H,Pv n ys σ H→Q (.ref D) H):Ziv (Itr lo n) D k σ H1 g wi2 g2 te Q:=by
 refine⟨fun i m ys σ H=>m=n-i∧i≤n∧Pv i ys σ H,⟨n,by simp,Qm _,h0⟩,?_⟩
 rintro i m ys σ H ⟨rfl,hi,p⟩
 by_cases hlt:i<n
 ·refine .inr ⟨hlt,Pv (i+1),fun ys' σ' H' p'=>⟨n-(i+1),by omega,rfl,hlt,p'⟩,fun x H' y=>?_⟩
  obtain⟨rfl,rfl⟩:=y
  exact hs i ys σ _ hlt p
 ·have e:i=n:=by omega
  exact .inl ⟨Nat.le_of_not_lt hlt,hd ys σ H (e ▸ p)⟩
theorem Zd3{lo:Int}{n:Nat}{D:Addr}{ys:List V}{σ:St}{H:Hp}{g2:TG}{te:TE}{N:List V→St→Hp→Prop}(Pv:Nat→List V→St→Hp→Prop)(h0:Pv 0 ys σ H)
  (hs:∀i ys σ H,i<n→Pv i ys σ H→g2 (.int (lo+i)) σ H fun σ4 H4=>te σ4 H4 fun y H6=>H6 D=some (.lst ys)∧ys.length<sizeLine∧Pv (i+1) (ys++[y]) σ4 (upd H6 D (.lst (ys++[y]))))
  (hd:∀ys σ H,Pv n ys σ H→N ys σ H):ZfC (Itr lo n) D ys σ H g2 te N:=by
 refine⟨fun i m ys σ H=>m=n-i∧i≤n∧Pv i ys σ H,⟨n,by simp,Qm _,h0⟩,?_⟩
 rintro i m ys σ H ⟨rfl,hi,p⟩
 by_cases hlt:i<n
 ·refine .inr ⟨hlt,Pv (i+1),fun ys' σ' H' p'=>⟨n-(i+1),by omega,rfl,hlt,p'⟩,fun x H' y=>?_⟩
  obtain⟨rfl,rfl⟩:=y
  exact hs i ys σ _ hlt p
 ·have e:i=n:=by omega
  exact .inl ⟨Nat.le_of_not_lt hlt,hd ys σ H (e ▸ p)⟩
end L2
namespace Hf
open L2
abbrev PW:=List (Int×Nat)
def val(P:PW):Int:=(P.map fun p=>p.1*(p.2:Int)).sum
def ws(P:PW):List Int:=P.map (·.1)
def ds(P:PW):List Nat:=P.map (·.2)
def zs(z:Nat):List Int:=List.replicate z 0
def kr(w E:Nat)(D:List Nat):Nat:=(D.map fun d=>w ^ (E-d)).sum
inductive Hu (w:Nat):List Int→Nat→Int→Prop
 | stop {e:Int} {m:Nat}:Hu w [e] m 0
 | step {E L:List Int} {m:Nat} {C:Int}:1<L.length→E.Perm L→L.Pairwise (·≤·)→Hu w (L.drop m++[(L.take m).sum]) w C→Hu w E m (C+(L.take m).sum)
def Fit(w n m:Nat):Prop:=n=1∨∃t,n=m+t*(w-1)
structure Fits (w n m:Nat):Prop where
 w2:2≤w
 m2:2≤m
 mw:m≤w
 ok:Fit w n m
end Hf
namespace L2
open PySem PySem.Spec PyProof.Rows
section
variable {prog:Program} {w:World} {A:Around} {R:Result→Shared→Prop} {s:Shared}
theorem ZeM{kx vx target iter:Expr}{ifs:List Expr}{scope:Scope}{pos:Pos}{it:Value}{D:Addr}{env:Env}{E:Value→Shared→Prop}(I:Nat→Shared→Prop)
  (hE:∀e s',E e s'→False)
  (turn:∀n s,I n s→wpAny (model prog w) A (pyNext it) (fun r s₁=>match r with
   | none=>R (.ok .next) s₁
   | some v=>wpAny (model prog w) A (letOwnedTupleGo target it v) (fun _ s₀=>wpAny (model prog w) A (assign target env v) (fun _ s₂ =>
     wpAny (model prog w) A (ZfH ifs env) (fun ok s₃ =>
      if ok=true then wpAny (model prog w) A (eval kx env) (fun kv s₄=>wpAny (model prog w) A (eval vx env) (fun vv s₅ =>
       wpAny (model prog w) A (dictSet D kv vv) (fun _ s₆=>∃m,m<n∧I m s₆) E s₅) E s₄) E s₃
      else ∃m,m<n∧I m s₃) E s₂) E s₀) E s₁) E s)
  (n:Nat) (h:I n s):codeAny (model prog w) A (.compLoop (.DictComp kx vx [⟨target,iter,ifs,0⟩] scope pos) 0 it (.ref D) env) R s:=by
 have go:∀ {α:Type} {t:Sem α} {Q:α→Shared→Prop} {s:Shared},wpAny (model prog w) A t Q E s→wpAny (model prog w) A t Q (notedBy (model prog w) A env fun e s'=>R (.error e) s') s :=
  fun {α t Q s} q=>wpAny_mono q (fun _ _ z=>z) fun e s' z=>(hE e s' z).elim
 refine codeAny_loop rfl I (fun n s hI=>?_) n h
 show wpAny _ A ((compTurn (.DictComp kx vx [⟨target,iter,ifs,0⟩] scope pos) 0 it (.ref D) env).onRaise (fun x=>do noteFrame x env;theTreesLotGoes x)) _ _ s
 refine wpAny_noted ?_
 rw[compTurn_dict]
 refine wpAny_bind (wpAny_standAt (wpAny_bind (thn (go (turn n s hI)) fun r s₁ h₁=>?_)))
 cases r with
 | none=>exact wpAny_pure h₁
 | some v =>
  refine wpAny_bind (thn (go h₁) fun _ s₀ h₀=>wpAny_bind (thn (go h₀) fun _ s₂ h₂=>wpAny_bind (thn (go h₂) fun ok s₃ h₃=>?_)))
  cases ok with
  | false=>exact wpAny_pure ⟨rfl,h₃⟩
  | true =>
   exact wpAny_bind (wpAny_bind (thn (go h₃) fun kv s₄ h₄=>wpAny_bind (wpAny_holding (thn (go h₄) fun vv s₅ h₅=>wpAny_bind (wpAny_standAt (wpAny_holding (thn (go h₅) fun _ s₆ h₆=>wpAny_pure ⟨rfl,h₆⟩)))))))
end
theorem Zk0{X:Cx}(hu:X.A.units+64<cLine){pins:List (Addr×Obj)}{s:Shared}{σ:St}{H:Hp}{d b:Addr}{kvs:List (List Key×V)}{ks:List Key}{v:V}{u:Value}{Q:Hp→Prop}(I:Inv X pins σ H s)(hH:H d=some (.dT kvs))(hb:H b=some (.tup (ks.map kV)))(hk:Z3 kvs ks=none)(hz:kvs.length<sizeLine)(rv:ZT v u)
  (q:Q (upd H d (.dT (kvs++[(ks,v)])))):wpAny (model X.prog X.w) X.A (dictSet d (.ref b) u) (fun _ s'=>∃H',Inv X pins σ H' s'∧Q H') X.xe s:=by
 obtain⟨_,hd,xs,rel,o,es,ep,ho,hex,hdat,hent,hnd⟩:=(show Zah X.prog X.w H s.heap d (.dT kvs) from I.hok d _ hH)
 have hm:s.heap.DictOfH (tupleKind (ZW X.prog X.w)) d xs:=⟨o,es,ep,ho,hex,hdat,hent,ZcS (R:=fun ks b=>(tupleKind (ZW X.prog X.w)).is s.heap ks b) (fun ks b e=>I.tkey e) rel,hnd⟩
 have hl:=ZcV rel
 have hno:=Ziy rel hk
 refine wpAny_dictSet_heap (knd:=tupleKind (ZW X.prog X.w)) (k:=ks) (by show X.A.units<cLine;omega) (I.tkey hb) hm (fun h' hm' hs=>?_) (by omega)
 rw[storedH_new hno]at hm'
 obtain⟨o',es',ep',g1,g2,g3,g4,_,g5⟩:=hm'
 refine⟨_,?_,q⟩
 refine I.write (x:=d) (e:=d) (by rw[hH];exact True.intro) (.inl rfl) (fun c q hc z=>(hs.2 c hc).trans z) ⟨o',g1⟩ ?_
 refine⟨by rw[Qe,Qh];omega,hd,xs++[(ks,b,u)],?_,o',es',ep',g1,g2,g3,g4,g5⟩
 refine ZdN (fun c ys ec=>?_) (Zft rel ⟨rfl,hb,rv⟩)
 rw[Zi (ZjZ ec hH (fun z=>nomatch z))]
 exact ec
def Zhz(J:It)(D:Addr)(k:Nat)(σ:St)(H1:Hp)(g:TG)(tc:TT)(tk te:TE)(Q:VK):Prop :=
 ∃W:Nat→Nat→List (List Key×V)→St→Hp→Prop,(∃m,W 0 m [] (σ++List.replicate k none) (upd H1 D (.dT []))) ∧
  ∀i m ys σ2 H2,W i m ys σ2 H2→(J.stop i H2∧Q (.ref D) H2) ∨
   (J.go i H2∧∃N:List (List Key×V)→St→Hp→Prop,(∀ys' σ' H',N ys' σ' H'→∃m',m'<m∧W (i+1) m' ys' σ' H')∧∀x H3,J.yld i H2 x H3→g x σ2 H3 fun σ4 H4=>tc σ4 H4 fun b H5 =>
    if b=true then tk σ4 H5 fun kv H6=>te σ4 H6 fun y H7=>∃ (b:Addr) (ks:List Key),kv=.ref b∧H7 D=some (.dT ys)∧H7 b=some (.tup (ks.map kV))∧Z3 ys ks=none∧ys.length<sizeLine∧N (ys++[(ks,y)]) σ4 (upd H7 D (.dT (ys++[(ks,y)]))) else N ys σ4 H5)
def ZhB(n:Nat)(wi:TI)(g:TG)(tc:TT)(tk te:TE):TE:=fun σ H Q=>wi σ H fun J H1=>∀D,H1 D=none→Zhz J D n σ H1 g tc tk te Q
section
variable {X:Cx} {N N':List Str} {o c:Scope}
theorem Zfh{kx vx tg iter:Expr}{ifs:List Expr}{pos pos':Pos}{wi:TI}{g:TG}{tc:TT}{tk te:TE}{use:Option (Value→Sem Unit)}{QQ:Value→Shared→Prop}(S:ZN N N' o c)(hN:X.N=N)(ho:X.env.scope=o)(hc:X.calm=true)
  (hi:PI X tg iter wi) (hg:∀C s H fp,PG (ZI X c N' C s H fp) tg g) (ht:∀C s H fp,PTs (ZI X c N' C s H fp) ifs tc) (hk:∀C s H fp,PE (ZI X c N' C s H fp) kx tk) (he:∀C s H fp,PE (ZI X c N' C s H fp) vx te) (hu:X.A.units+64<cLine)
  (hs:∀x,foldedSetIterable iter X.env x=pure x) {pins:List (Addr×Obj)} {s:Shared} {σ:St} {H:Hp} {Q:VK} (I:Inv X pins σ H s) (h:ZhB (N'.length-N.length) wi g tc tk te σ H Q)
  (post:∀ (D C:Addr) (s5:Shared) (H5:Hp) (m:Str→Option Value),Inv X pins σ H5 s5→H5 C=none→s5.heap.Ns C m→C≠X.env.locals→X.s₀.heap.objs.size≤C→(∀x a,X.env.cells.lookup x=some a→a≠C)→(∀p∈X.pn++pins,p.1≠C) →
   Q (.ref D) H5→compPost (model X.prog X.w) X.A X.xe use QQ (.ref D) C (.ok .next) s5) :
  wpAny (model X.prog X.w) X.A (comprehension (.DictComp kx vx [⟨tg,iter,ifs,0⟩] c pos) c X.env pos' newDict false (eval iter X.env) use) QQ X.xe s:=by
 have hclos:closureFor c X.env=pure (Z5 X.env.cells c.names []):=Zb6 fun y hy hf=>by
  refine I.ok.has y.1 ?_
  show X.env.scope.names.lookup y.1=_∨X.env.scope.names.lookup y.1=_
  rw[ho];exact(S.free y hy hf).2
 refine wpAny_comprehension_free (use:=use) rfl hs hclos S.kind S.loc (thn (hi pins s σ H _ I h) fun v s1 h1=>thn h1 fun itv s2 h2=>?_)
 obtain⟨it,fp,tn,J,H2,e,I2,T,st2,f2,hR⟩:=h2
 subst e
 have hD:H2 s2.heap.objs.size=none:=I2.fresh
 have I3:Inv X pins σ (upd H2 s2.heap.objs.size (.dT [])) { s2 with heap:=s2.heap.push { cls:=.type "dict",data:=.dict #[] } } :=
  I2.laid (t':=s2.toks) (fun _ _ q=>Qb _ q) (Qd _) ⟨Qm _,beq_eq_false_iff_ne.mpr fun z=>QX _ (z ▸ QaG (by decide) (show mainGlobals<s2.heap.objs.size from(I2.mod.glob.keeps I2.bk).lt)),[],.nil,_,#[],0,Qp _ rfl,⟨rfl,rfl,rfl⟩,rfl,rfl,List.nodup_nil⟩
 have fpl:∀b∈fp,b<s2.heap.objs.size:=fun b hb=>by
  obtain⟨ob,e,_⟩:=T.obj 0 _ st2 b hb
  exact Qo e
 refine wpAny_newObj_type (wpAny_newFunctionEnv S.nocell (by intro y hy;simp at hy) (fun h₁ hns₁ hsb₁=>?_) S.kind)
 have e3:∃s3:Shared,s3={ s2 with heap:=s2.heap.push { cls:=.type "dict",data:=.dict #[] } }:=⟨_,rfl⟩
 obtain⟨s3,hs3⟩:=e3
 have e3:s3.heap=s2.heap.push { cls:=.type "dict",data:=.dict #[] }:=by rw[hs3]
 have sz3:s3.heap.objs.size=s2.heap.objs.size+1:=by rw[e3,Q1]
 have fpl3:∀b∈fp,b<s3.heap.objs.size:=fun b hb=>Qy (fpl b hb) (by rw[sz3];exact QaM _)
 have f3:∀b∈fp,ZcR X pins (upd H2 s2.heap.objs.size (.dT [])) b:=fun b hb=>⟨by rw[Zi (Qx (fpl b hb))];exact(f2 b hb).1,(f2 b hb).2⟩
 have st3:tn 0 s3.heap:=T.keep 0 _ _ st2 fun b _ ob e=>by rw[e3];exact Qb _ e
 rw[← hs3]at I3
 show codeAny (model X.prog X.w) X.A (.compStart _ 0 (.ref it) (.ref s2.heap.objs.size) (compEnvC c (Z5 X.env.cells c.names []) (s2.heap.push { cls:=.type "dict",data:=.dict #[] }).objs.size X.env))
  (compPost (model X.prog X.w) X.A X.xe use QQ (.ref s2.heap.objs.size) (s2.heap.push { cls:=.type "dict",data:=.dict #[] }).objs.size)
  { s2 with heap:=h₁,toks:=s2.toks+([]:List (Str×Value)).length }
 have hns:h₁.Ns s3.heap.objs.size (fun x=>([]:List (Str×Value)).reverse.lookup x):=by rw[e3];exact hns₁
 have hk1:∀b ob,s3.heap.get? b=some ob→h₁.get? b=some ob:=fun b ob e=>by
  rw[e3]at e
  exact hsb₁.extBut b ob (Qx (Qo e)) (Qb _ e)
 rw[← e3]
 have es4:({ s2 with heap:=h₁,toks:=s2.toks+([]:List (Str×Value)).length }:Shared)={ s3 with heap:=h₁,toks:=s2.toks }:=by rw[hs3];rfl
 rw[es4]
 obtain⟨W,⟨m0,w0⟩,turn⟩:=hR s2.heap.objs.size hD
 have I4:=Zem (tk:=s2.toks) S hN ho I3 f3 fpl3 hns hk1
 have st4:tn 0 h₁:=T.keep 0 _ _ st3 fun b _ ob e=>hk1 b ob e
 generalize hX:ZI X c N' s3.heap.objs.size s3 (upd H2 s2.heap.objs.size (.dT [])) fp=Y at I4
 have Yp:Y.prog=X.prog:=by rw[← hX];rfl
 have Yw:Y.w=X.w:=by rw[← hX];rfl
 have YK:Y.K=X.K:=by rw[← hX];rfl
 have Yc:Y.calm=true:=by rw[← hX];exact hc
 have YA:Y.A=X.A:=by rw[← hX];rfl
 have Yenv:Y.env=compEnvC c (Z5 X.env.cells c.names []) s3.heap.objs.size X.env:=by rw[← hX];rfl
 have Yl:Y.env.locals=s3.heap.objs.size:=by rw[Yenv];rfl
 have Yxe:Y.xe=fun _ _=>False:=by rw[← hX];rfl
 have hg':=hg s3.heap.objs.size s3 (upd H2 s2.heap.objs.size (.dT [])) fp
 have ht':=ht s3.heap.objs.size s3 (upd H2 s2.heap.objs.size (.dT [])) fp
 have hk':=hk s3.heap.objs.size s3 (upd H2 s2.heap.objs.size (.dT [])) fp
 have he':=he s3.heap.objs.size s3 (upd H2 s2.heap.objs.size (.dT [])) fp
 rw[hX]at hg' ht' hk' he'
 have stat:∀ {H':Hp},(∀b∈fp,H' b=none)→∀b∈fp,ZcR Y [] H' b:=fun {H'} hn b hb=>by
  obtain⟨_,q1,q2,q3,q4,_⟩:=f3 b hb
  have z1:=I4.ok.exf b (by rw[← hX];exact hb)
  refine⟨hn b hb,z1.1,I4.ok.exfs b (by rw[← hX];exact hb),.inl (by rw[← hX];exact hb),z1.2,fun p hp=>?_⟩
  have hp':p∈([]:List (Addr×Obj)):=by
   have:Y.pn=[]:=by rw[← hX];rfl
   rw[this]at hp;exact hp
  cases hp'
 have fin:∀ (s5:Shared) (σ5:St) (H5:Hp),Inv Y [] σ5 H5 s5→Q (.ref s2.heap.objs.size) H5→compPost (model X.prog X.w) X.A X.xe use QQ (.ref s2.heap.objs.size) s3.heap.objs.size (.ok .next) s5:=fun s5 σ5 H5 I5 q=>by
  obtain⟨m,hn,_⟩:=id I5.loc
  rw[Yl]at hn
  have hCn:H5 s3.heap.objs.size=none:=by have:=I5.free;rw[Yl]at this;exact this
  have un:Un (frs X.stack) fp (upd H2 s2.heap.objs.size (.dT [])) H5 s3.heap s5.heap:=by
   have:=I5.base
   rw[← hX]at this
   exact this
  have os5:s5.os=s3.os:=by have:=I5.os;rw[← hX]at this;exact this
  have hok5:HOk X.prog X.w H5 s5.heap:=by
   have:=I5.hok
   rw[Yp,Yw]at this
   exact this
  refine post _ _ s5 H5 m (I3.call' (s':=s5) (ch:=fp) os5 un hok5 I5.bare fun b hb=>?_) hCn hn (QZ I3.lt) I3.sz (fun x a e=>?_) (fun p hp=>?_) q
  ·obtain⟨_,q1,_,q3,q4,q5⟩:=f3 b hb
   exact⟨q3,q1,q4,q5⟩
  ·obtain⟨v,ob,e',_⟩:=I3.cell x a e
   exact Qx (Qo e')
  ·exact Qx (Qo (I3.pin p hp).1)
 have loop:codeAny (model X.prog X.w) X.A (.compLoop (.DictComp kx vx [⟨tg,iter,ifs,0⟩] c pos) 0 (.ref it) (.ref s2.heap.objs.size) (compEnvC c (Z5 X.env.cells c.names []) s3.heap.objs.size X.env))
   (compPost (model X.prog X.w) X.A X.xe use QQ (.ref s2.heap.objs.size) s3.heap.objs.size) { s3 with heap:=h₁,toks:=s2.toks }:=by
  rw[← Yenv,← YA]
  refine ZeM (E:=fun _ _=>False) (fun n s'=>∃i ys σ' H',Inv Y [] σ' H' s'∧tn i s'.heap∧(∀b∈fp,H' b=none)∧W i n ys σ' H') (fun _ _ z=>z) ?_ m0
   ⟨0,[],_,_,I4,st4,fun b hb=>(f3 b hb).1,?_⟩
  ·rintro n s5 ⟨i,ys,σ5,H5,I5,st5,fr5,w5⟩
   rcases turn i n ys σ5 H5 w5 with⟨stop,qn⟩|⟨go,Nn,hNn,step⟩
   ·refine thn (T.done Y Yp Yw YK Yc i [] s5 σ5 H5 _ I5 (stat fr5) st5 stop) ?_
    rintro r s6 ⟨hr,I6⟩
    subst hr
    have fq:=fin s6 σ5 H5 I6 qn
    rw[← YA]at fq
    exact fq
   ·refine thn (T.item Y Yp Yw YK Yc i [] s5 σ5 H5 _ I5 (stat fr5) st5 go) ?_
    rintro r s6 ⟨u,hr,h6⟩
    subst hr
    refine thn h6 ?_
    rintro _ s7 ⟨x,H7,I7,r7,y7,st7,fr7⟩
    have I7':=I7.pinned (stat fr7) (T.obj _ _ st7)
    have back:∀ {σ9:St} {H9:Hp} {s9:Shared},Inv Y ([]++ZbC fp s7.heap) σ9 H9 s9→Inv Y [] σ9 H9 s9∧tn (i+1) s9.heap∧∀b∈fp,H9 b=none:=fun {σ9 H9 s9} I9=>by
     refine⟨I9.unpinned,T.keep _ _ _ st7 fun b hb ob e=>(I9.pin (b,ob) (Qs _ (Qs _ (Zaj hb e)))).1,fun b hb=>?_⟩
     obtain⟨ob,e,d⟩:=T.obj _ _ st7 b hb
     exact(I9.pin (b,ob) (Qs _ (Qs _ (Zaj hb e)))).2.1
    have P1:=hg' _ s7 σ5 H7 x u _ I7' r7 (step x H7 y7)
    rw[Yp,Yw,Yxe]at P1
    refine thn P1 ?_
    rintro _ s8 ⟨σ8,H8,I8,q8⟩
    have P2:=ht' _ s8 σ8 H8 _ I8 q8
    rw[Yp,Yw,Yxe]at P2
    refine thn P2 ?_
    rintro ok s9 ⟨H9,I9,q9⟩
    cases ok with
    | false =>
     rw[if_neg Qj]at q9
     rw[if_neg Qj]
     obtain⟨b1,b2,b3⟩:=back I9
     obtain⟨m',hm',w9⟩:=hNn _ _ _ q9
     exact⟨m',hm',i+1,ys,σ8,H9,b1,b2,b3,w9⟩
    | true =>
     rw[if_pos rfl]at q9
     rw[if_pos rfl]
     have P3:=hk' _ s9 σ8 H9 _ I9 q9
     rw[Yp,Yw,Yxe]at P3
     refine thn P3 ?_
     rintro kv s10 ⟨vk,H10,I10,r10,q10⟩
     have P4:=he' _ s10 σ8 H10 _ I10 q10
     rw[Yp,Yw,Yxe]at P4
     refine thn P4 ?_
     rintro y s11 ⟨vy,H11,I11,r11,b,ks,eb,hDl,hb,hno,hsz,q11⟩
     subst eb
     cases r10
     have P5:=Zk0 (X:=Y) (by rw[YA];exact hu) I11 hDl hb hno hsz r11 q11
     rw[Yp,Yw,Yxe]at P5
     refine thn P5 ?_
     rintro _ s12 ⟨H12,I12,q12⟩
     obtain⟨b1,b2,b3⟩:=back I12
     obtain⟨m',hm',w12⟩:=hNn _ _ _ q12
     exact⟨m',hm',i+1,ys++[(ks,vy)],σ8,H12,b1,b2,b3,w12⟩
  ·exact w0
 have lp:=T.self X.A 0 { s3 with heap:=h₁,toks:=s2.toks } (fun it' s'=>codeAny (model X.prog X.w) X.A (.compLoop (.DictComp kx vx [⟨tg,iter,ifs,0⟩] c pos) 0 it' (.ref s2.heap.objs.size) (compEnvC c (Z5 X.env.cells c.names []) s3.heap.objs.size X.env))
   (compPost (model X.prog X.w) X.A X.xe use QQ (.ref s2.heap.objs.size) s3.heap.objs.size) s') (fun _ _=>False) st4 loop
 exact codeAny_compStart_dict loop (wpAny_mono lp (fun _ _ z=>z) fun _ _ z=>z.elim)
theorem Zj2{kx vx tg iter:Expr}{ifs:List Expr}{pos:Pos}{wi:TI}{g:TG}{tc:TT}{tk te:TE}(S:ZN N N' o c)(hN:X.N=N)(ho:X.env.scope=o)(hc:X.calm=true)
  (hi:PI X tg iter wi) (hg:∀C s H fp,PG (ZI X c N' C s H fp) tg g) (ht:∀C s H fp,PTs (ZI X c N' C s H fp) ifs tc) (hk:∀C s H fp,PE (ZI X c N' C s H fp) kx tk) (he:∀C s H fp,PE (ZI X c N' C s H fp) vx te) (hu:X.A.units+64<cLine)
  (hs:∀x,foldedSetIterable iter X.env x=pure x:=by intro _;rfl) :
  PE X (.DictComp kx vx [⟨tg,iter,ifs,0⟩] c pos) (ZhB (N'.length-N.length) wi g tc tk te):=by
 intro pins s σ H Q I h
 show wpAny _ _ (comprehension (.DictComp kx vx [⟨tg,iter,ifs,0⟩] c pos) c X.env _ newDict false (eval iter X.env)) _ _ _
 refine Zfh (use:=none) S hN ho hc hi hg ht hk he hu hs I h fun D C s5 H5 m I5 hCn hn n1 n2 n3 n4 q=>⟨m,hn,fun h' hsb=>?_⟩
 exact⟨.ref D,H5,I5.let hCn n1 n2 n3 n4 hsb,rfl,q⟩
theorem ZgB{i:Nat}{x:Str}{kx vx tg iter:Expr}{ifs:List Expr}{pos pos' spos:Pos}{wi:TI}{g:TG}{tc:TT}{tk te:TE}(hnd:X.N.Nodup)(hx:X.N[i]? = some x)(hl:Loc X.env.scope x)(S:ZN N N' o c)(hN:X.N=N)(ho:X.env.scope=o)(hc:X.calm=true)
  (hi:PI X tg iter wi) (hg:∀C s H fp,PG (ZI X c N' C s H fp) tg g) (ht:∀C s H fp,PTs (ZI X c N' C s H fp) ifs tc) (hk:∀C s H fp,PE (ZI X c N' C s H fp) kx tk) (he:∀C s H fp,PE (ZI X c N' C s H fp) vx te) (hu:X.A.units+64<cLine)
  (hsw:swapsWith (.DictComp kx vx [⟨tg,iter,ifs,0⟩] c pos) (some (.Name x pos')) spos.line X.env=pure true)
  (hs:∀x,foldedSetIterable iter X.env x=pure x:=by intro _;rfl) (hf:X.fn x=true∨X.env.scope.names.lookup x=some .local:=by first|exact .inl rfl|exact .inr rfl|assumption) :
  PS X (.Assign [.Name x pos'] (.DictComp kx vx [⟨tg,iter,ifs,0⟩] c pos) spos) (ZmQ (ZhB (N'.length-N.length) wi g tc tk te) (Zij i)):=by
 intro pins s σ H D I h
 rw[exec_Assign_Name_used _ _ _ _ hsw]
 refine wpAny_bind (wpAny_standAt (wpAny_bind ?_))
 show wpAny _ X.A (do let _ ← comprehension (.DictComp kx vx [⟨tg,iter,ifs,0⟩] c pos) c X.env _ newDict false (eval iter X.env) (some (assign (.Name x pos') X.env))) _ _ s
 refine wpAny_bind (thn (Zfh (QQ:=fun _ s'=>SP X pins D .next s') (use:=some (assign (.Name x pos') X.env)) S hN ho hc hi hg ht hk he hu hs I h ?_) fun _ s' hq=>wpAny_pure (wpAny_pure hq))
 intro L C s5 H5 m I5 hCn hn n1 n2 n3 n4 q
 show wpAny _ X.A (assign (.Name x pos') X.env (.ref L)) _ _ _
 refine wpAny_assign_Name (Zfg (v:=.ref L) I5 hnd hx hl rfl (?_) hf)
 rintro s6 I6 ⟨a,hsb,ha⟩
 have nCa:C≠a:=by
  rcases ha with z|z
  ·rw[z];exact n1
  ·exact(n3 x a z).symm
 exact⟨m,hn.sameBut hsb nCa,fun h' hsb'=>⟨_,H5,I6.let hCn n1 n2 n3 n4 hsb',q⟩⟩
end
section
variable {κ:Type} [DecidableEq κ]
end
section
variable {P:Program} {w:World} {H:Hp} {h:Heap} {a:Addr}
end
section
variable {X:Cx} {pins:List (Addr×Obj)} {σ:St} {H:Hp} {s:Shared} {a:Addr} {y v:V} {u r:Value} {o:Option V} {A:Around} {E:Value→Shared→Prop}
theorem Inv.big(I:Inv X pins σ H s):sysModules<s.heap.objs.size:=by
 have h:mainGlobals<s.heap.objs.size:=(I.mod.glob.keeps I.bk).lt
 exact QaG (by decide) h
end
section
variable {X:Cx} {pins:List (Addr×Obj)} {σ:St} {H:Hp} {s:Shared} {a:Addr} {kvs:List (Key×V)} {k:Key} {u:Value} {A:Around} {E:Value→Shared→Prop}
end
section
variable {X:Cx} {o i e value:Expr} {pos pos' tpos:Pos} {td ty tv:TE}
end
section
variable {X:Cx} {pos:Pos}
end
structure M1 (X:Cx) (o:Expr) (m:Str) (apos:Pos) (e:Expr) (cpos:Pos):Prop where
 base:attributeBase o m X.env (eval o X.env)=eval o X.env
 few:((backTo cpos (starEach [e] X.env)).all (fun x=>!x.1)&&(backToKw cpos (keywordEach [] X.env)).all (fun x=>x.1.isSome)
  && decide (([e]:List Expr).length+([]:List Keyword).length+(if ([]:List Keyword).isEmpty then 0 else 1)<30))=true
 line:(apos.endLine == cpos.line)=true
 trees:backTo cpos (starEach [e] X.env)=[(false,eval e X.env)]
structure M2 (X:Cx) (o:Expr) (m:Str) (apos:Pos) (e f:Expr) (cpos:Pos):Prop where
 base:attributeBase o m X.env (eval o X.env)=eval o X.env
 few:((backTo cpos (starEach [e,f] X.env)).all (fun x=>!x.1)&&(backToKw cpos (keywordEach [] X.env)).all (fun x=>x.1.isSome)
  && decide (([e,f]:List Expr).length+([]:List Keyword).length+(if ([]:List Keyword).isEmpty then 0 else 1)<30))=true
 line:(apos.endLine == cpos.line)=true
 trees:backTo cpos (starEach [e,f] X.env)=[(false,eval e X.env),(false,eval f X.env)]
def IsD(H:Hp)(a:Addr):Prop:=(∃kvs,Rd H a (.dK kvs))∨∃kvs,Rd H a (.dT kvs)
section
variable {X:Cx} {pins:List (Addr×Obj)} {σ:St} {H:Hp} {s:Shared} {a:Addr} {y d:V} {u r:Value} {o:Option V} {A:Around} {E:Value→Shared→Prop}
end
section
variable {X:Cx} {o e f:Expr} {apos cpos:Pos} {td ty tx:TE}
end
section
variable {X:Cx} {pins:List (Addr×Obj)} {σ:St} {H:Hp} {s:Shared} {a:Addr} {kvs:List (Key×V)} {A:Around} {E:Value→Shared→Prop}
end
section
variable {X:Cx} {pins:List (Addr×Obj)} {σ:St} {H:Hp} {s:Shared} {a:Addr} {y:V} {u:Value} {A:Around} {E:Value→Shared→Prop}
end
section
variable {X:Cx}
end
section
variable {κ:Type} [DecidableEq κ]
end
structure Mf (P:Program) (w:World) (K:PySem.W.Frag) (mg:Str→Option Value) (base:Heap) (k:Nat) (C:Addr) (m:Str) (ps:List Str) (sp:Sp):Prop where
 ex:∃f fd,Zd6 P w K mg base CX0 k f fd ps sp∧ZnF K C m f∧ZcZ K fd ps []
structure Cf (P:Program) (w:World) (K:PySem.W.Frag) (mg:Str→Option Value) (base:Heap) (k:Nat) (C:Addr) (x:Str) (ps:List Str) (sp:Sp):Prop where
 ex:∃f fd,Zd6 P w K mg base CX0 k f fd ps sp∧Mk K C f∧ZcZ K fd ps []∧mg x=some (.ref C)
structure TopM (K:PySem.W.Frag) (C:Addr) (m qual:Str) (st:Stmt) (ps:List Str):Prop where
 ex:∃f fd,Fun K m qual st f fd∧ZnF K C m f∧ZcZ K fd ps []
structure TopI (K:PySem.W.Frag) (mg:Str→Option Value) (C:Addr) (x qual:Str) (st:Stmt) (ps:List Str):Prop where
 ex:∃f fd,Fun K "__init__" qual st f fd∧Mk K C f∧ZcZ K fd ps []∧mg x=some (.ref C)
section
variable {P:Program} {w:World} {K:PySem.W.Frag} {mg:Str→Option Value} {base:Heap}
end
section
variable {X:Cx} {k j:Nat} {C:Addr} {m x:Str} {ps:List Str} {sp:Sp} {o e:Expr} {es:List Expr} {ta:TE} {t:TA} {p apos pos:Pos} {pl:Sem Bool}
end
section
variable {X:Cx} {pins:List (Addr×Obj)} {σ:St} {H:Hp} {s:Shared} {d:Addr} {o:Obj} {u:HO}
theorem Inv.freeze(I:Inv X pins σ H s)(e:H d=some u)(mu:Mut (some u))(ho:s.heap.get? d=some o):Inv X pins σ (upd H d (.frz o u)) s:=by
 have h:=I.write (x:=d) (e:=d) (o:=.frz o u) (t':=s.toks) (h':=s.heap) (by rw[e];exact mu) (.inl rfl) (fun b v _ q=>q) ⟨o,ho⟩ ?_
 ·exact h
 ·refine⟨ho,(I.hok d u e).stay (fun b v _ q=>q) (fun b q=>?_) (fun b xs q=>?_)⟩
  ·rw[Zi (fun z=>by rw[z,e]at q;cases q;exact mu)];exact q
  ·rw[Zi (fun z=>by rw[z,e]at q;cases q;exact mu)];exact q
theorem Inv.nofrz(I:Inv X pins σ H s)(e:H d=some u)(mu:Mut (some u)):∀o' u',X.H₀ d≠some (.frz o' u'):=fun o' u' z=>by
 have:=I.base.frzs d o' u' z
 rw[e]at this
 cases this
 exact mu
theorem Inv.thaw(I:Inv X pins σ H s)(e:H d=some (.frz o u))(mu:Mut (some u))(n:∀o' u',X.H₀ d≠some (.frz o' u')):Inv X pins σ (upd H d u) s:=by
 have hne:∀b,H b=none→b≠d:=fun b z=>Zg (H:=H) e z |>.symm
 refine⟨I.ok,I.os,I.bare,⟨I.base.keep,I.base.slot,fun b v a1 a2 a3=>?_,I.base.there,fun b xs q=>?_,fun b o' u' q=>?_,fun b ps q=>?_⟩,I.loc,I.cell,?_,fun x c q=>?_,fun p hp=>?_,?_,I.len⟩
 ·have:=I.base.free b v a1 a2 a3
  rw[Zi (hne b this)];exact this
 ·have:=I.base.tups b xs q
  rw[Zi (fun z=>by rw[z,e]at this;cases this)];exact this
 ·have:=I.base.frzs b o' u' q
  rw[Zi (fun z=>by rw[z]at q;exact n o' u' q)];exact this
 ·obtain⟨more,this⟩:=I.base.tbls b ps q
  refine⟨more,?_⟩
  rw[Zi (fun z=>by rw[z,e]at this;cases this)];exact this
 ·rw[Zi (hne _ I.free)];exact I.free
 ·rw[Zi (hne _ (I.freeC x c q))];exact I.freeC x c q
 ·obtain⟨a1,a2,a3⟩:=I.pin p hp
  exact⟨a1,by rw[Zi (hne _ a2)];exact a2,a3⟩
 ·intro b v q
  have own:∀c a,H c=some (.own a)→(upd H d u) c=some (.own a):=fun c a q=>by rw[Zi (fun z=>by rw[z,e]at q;cases q)];exact q
  have tup:∀c xs,H c=some (.tup xs)→(upd H d u) c=some (.tup xs):=fun c xs q=>by rw[Zi (fun z=>by rw[z,e]at q;cases q)];exact q
  by_cases hb:b=d
  ·subst hb
   rw[Zb]at q
   cases q
   obtain⟨_,h2⟩:=(show Zah X.prog X.w H s.heap b (.frz o u) from I.hok b _ e)
   exact h2.stay (fun c v _ q=>q) (fun c q=>own c b q) tup
  ·rw[Zi hb]at q
   exact(I.hok b v q).stay (fun c v _ q=>q) (fun c q=>own c b q) tup
end
def ZnT(t:TE):TE:=fun σ H Q=>∃d u,H d=some u∧Mut (some u)∧t σ H fun v H'=>∃o,H' d=some (.frz o u)∧Q v (upd H' d u)
theorem ZlC{X:Cx}{e:Expr}{t:TE}(h:PE X e t):PE X e (ZnT t):=by
 intro pins s σ H Q I q
 obtain⟨d,u,e1,mu,q⟩:=q
 have n:=I.nofrz e1 mu
 refine thn (h pins s σ H _ I q) ?_
 rintro v s1 ⟨x,H1,I1,r1,o,e2,q1⟩
 exact⟨x,_,I1.thaw e2 mu n,r1,q1⟩
end L2
namespace L2
open PySem PySem.Spec PyProof.Rows
end L2
namespace L2
open PySem PySem.Spec PyProof.Rows
section
variable {X:Cx} {N N':List Str} {o c:Scope}
end
section
variable {X:Cx}
end
theorem ZdX:typeLookup (.type "list") "keys" = pure none:=by rw[typeLookup_type,builtinLookup_eq_fast];kernel_rfl
theorem getAttr?_keys_list{prog:Program}{w:World}{A:Around}{E:Value→Shared→Prop}{s:Shared}{a:Addr}{o:Obj}{xs:Array Value}{k:Nat}{Q:Option Value→Shared→Prop}
  (hx:s.heap.get? a=some o) (hc:o.cls=.type "list") (hdat:o.data=.seq xs k) (hd:o.dict=none) (hA:A.handled=none)
  (h:∀h' tk e,Heap.NewExcOf s.heap h' e "AttributeError"→Q none { s with heap:=h',toks:=tk }) :
  wpAny (model prog w) A (getAttr? (.ref a) "keys") Q E s:=by
 obtain⟨c,dct,dat,sl⟩:=o
 simp only at hc hdat hd
 subst hc hdat hd
 obtain⟨hp,g,d,tk,os⟩:=s
 have hT:∀tk',(⟨hp,g,d,tk',os⟩:Shared).TypeIs (.ref a) "list":=fun _=>⟨_,hx,rfl⟩
 have f1:=sub_AttributeError
 have f3:=F.slot_list_getattribute.lookup
 have f4:=F.slot_list_getattribute.bind (.ref a)
 have f5:=am_list_getattr_none
 unfold getAttr? getAttrBy? getAttrBy
 repeat (any_goals (first|assumption|exact hT _|((with_reducible show wpAny _ _ (call (Value.builtin "list.__getattribute__") _ _) _ _ _);refine call_meets F.slot_list_getattribute (hT _) am_entry_list_getattribute (F.args_list_getattribute_2 _ _) (meets_getattribute_miss_list a xs k sl "keys" _ ZdX (by decide) (by size_fits)) ⟨hx,hA,fun h' tk' e hx'=>?_⟩)|wp_step))
 obtain⟨t',u',he⟩:=hx'.there
 show wpAny _ _ (getattributeRaised _ _ _ _ _ _ _) _ _ _
 unfold getattributeRaised
 repeat (any_goals (first|assumption|wp_step))
 exact h _ _ _ hx'.of
theorem Zbh:entryFor table "dict.update.loop" = some Builtin.«dict.update.loop»:=entryFor_of_tree (by kernel_rfl)
theorem Z7:plainId "dict.update.loop" = true:=by ac_rfl
section
variable {prog:Program} {w:World} {A:Around} {R:Result→Shared→Prop} {I:Addr} {fp wr:List Addr} {G:Array GenState→Array GenState→Prop} {n:Nat} {P:Nat→Value→Prop} {St:Nat→Shared→Prop} {K:Type} [DecidableEq K] {knd:KeyKind prog w K}
end
section
variable {prog:Program} {w:World} {A:Around} {E:Value→Shared→Prop} {s:Shared} {K:Type} [DecidableEq K] {knd:KeyKind prog w K}
end
section
variable {X:Cx} {k:Nat}
end
mutual
inductive DH (H:Hp):V→PyData→Prop where
 | non:DH H .non .none
 | bl (b:Bool):DH H (.bl b) (.bool b)
 | int (i:Int):DH H (.int i) (.int i)
 | str (s:Str):DH H (.str s) (.str s)
 | lst {a:Addr} {xs:List V} {ds:List PyData}:H a=some (.lst xs)→DHs H xs ds→DH H (.ref a) (.list ds)
 | tup {a:Addr} {xs:List V} {ds:List PyData}:H a=some (.tup xs)→DHs H xs ds→DH H (.ref a) (.tuple ds)
inductive DHs (H:Hp):List V→List PyData→Prop where
 | nil:DHs H [] []
 | cons {x:V} {d:PyData} {xs:List V} {ds:List PyData}:DH H x d→DHs H xs ds→DHs H (x::xs) (d::ds)
end
mutual
theorem DH.mono{H H':Hp}(s:Zn H H'):∀ {x:V} {d:PyData},DH H x d→DH H' x d
 | _,_,.non=>.non
 | _,_,.bl b=>.bl b
 | _,_,.int i=>.int i
 | _,_,.str z=>.str z
 | _,_,.lst h hs=>.lst (s _ _ h) (DHs.mono s hs)
 | _,_,.tup h hs=>.tup (s _ _ h) (DHs.mono s hs)
theorem DHs.mono{H H':Hp}(s:Zn H H'):∀ {xs:List V} {ds:List PyData},DHs H xs ds→DHs H' xs ds
 | _,_,.nil=>.nil
 | _,_,.cons h hs=>.cons (DH.mono s h) (DHs.mono s hs)
end
mutual
theorem DH.dv{K:PySem.W.Frag}{H:Hp}:∀ {x:V} {d:PyData},DH H x d→DV K H x d
 | _,_,.non=>.non
 | _,_,.bl b=>.bl b
 | _,_,.int i=>.int i
 | _,_,.str z=>.str z
 | _,_,.lst h hs=>.lst (SqL.of h) (DHs.dv hs)
 | _,_,.tup h hs=>.tup (SqT.of h) (DHs.dv hs)
theorem DHs.dv{K:PySem.W.Frag}{H:Hp}:∀ {xs:List V} {ds:List PyData},DHs H xs ds→DVs K H xs ds
 | _,_,.nil=>.nil
 | _,_,.cons h hs=>.cons (DH.dv h) (DHs.dv hs)
end
theorem DHs.length{H:Hp}:∀ {xs:List V} {ds:List PyData},DHs H xs ds→xs.length=ds.length
 | _,_,.nil=>rfl
 | _,_,.cons _ hs=>by rw[QD,QD,hs.length]
theorem DHs.get{H:Hp}:∀ {xs:List V} {ds:List PyData},DHs H xs ds→∀ {i:Nat} {x:V},xs[i]? = some x→∃d,ds[i]? = some d∧DH H x d
 | _,_,.nil,i,x,h=>by simp at h
 | _,_,.cons hd _,0,x,h=>by
  simp only[List.getElem?_cons_zero,Option.some.injEq]at h
  subst h
  exact⟨_,rfl,hd⟩
 | _,_,.cons _ hs,i+1,x,h=>by
  obtain⟨d,e,hd⟩:=hs.get (i:=i) (by simpa using h)
  exact⟨d,by simpa using e,hd⟩
theorem DHs.app{H:Hp}:∀ {xs ys:List V} {ds es:List PyData},DHs H xs ds→DHs H ys es→DHs H (xs++ys) (ds++es)
 | _,_,_,_,.nil,h=>h
 | _,_,_,_,.cons a b,h=>.cons a (b.app h)
theorem DHs.take{H:Hp}:∀ {xs:List V} {ds:List PyData},DHs H xs ds→∀i,DHs H (xs.take i) (ds.take i)
 | _,_,.nil,i=>by rw[List.take_nil,List.take_nil];exact .nil
 | _,_,.cons a b,0=>.nil
 | _,_,.cons a b,i+1=>.cons a (b.take i)
theorem DHs.drop{H:Hp}:∀ {xs:List V} {ds:List PyData},DHs H xs ds→∀i,DHs H (xs.drop i) (ds.drop i)
 | _,_,.nil,i=>by rw[List.drop_nil,List.drop_nil];exact .nil
 | _,_,.cons a b,0=>.cons a b
 | _,_,.cons a b,i+1=>b.drop i
def tyD:PyData→String
 | .none => "NoneType"
 | .bool _ => "bool"
 | .int _ => "int"
 | .str _ => "str"
 | .tuple _ => "tuple"
 | _ => "list"
def ZS:PyData→Bool
 | .int _=>true
 | _=>false
def Zct:PyData→Bool
 | .bool _=>true
 | _=>false
def ZfJ:PyData→Bool
 | .list _=>true
 | _=>false
def Zcn:PyData→Bool
 | .tuple _=>true
 | _=>false
theorem DH.ty{K:PySem.W.Frag}{H:Hp}{x:V}{d:PyData}(h:DH H x d):Zdu K H x (.type (tyD d)):=by
 cases h with
 | non=>exact .non
 | bl b=>exact .bl b
 | int i=>exact .int i
 | str z=>exact .str z
 | lst h _=>exact .lst h
 | tup h _=>exact .tup h
section
open PySem.W
theorem DH.kL{H:Hp}{x:V}{d:PyData}(h:DH H x d)(K:Frag):kitOne K (.type (tyD d)) (.type "list")=some (ZfJ d):=by cases h<;>(unfold kitOne kitCls;rfl)
theorem DH.kT{H:Hp}{x:V}{d:PyData}(h:DH H x d)(K:Frag):kitOne K (.type (tyD d)) (.type "tuple")=some (Zcn d):=by cases h<;>(unfold kitOne kitCls;rfl)
theorem DH.kI{H:Hp}{x:V}{d:PyData}(h:DH H x d)(K:Frag):kitOne K (.type (tyD d)) (.type "int")=some (ZS d||Zct d):=by cases h<;>(unfold kitOne kitCls;rfl)
theorem DH.kB{H:Hp}{x:V}{d:PyData}(h:DH H x d)(K:Frag):kitOne K (.type (tyD d)) (.type "bool")=some (Zct d):=by cases h<;>(unfold kitOne kitCls;rfl)
end
theorem DH.lst_inv{H:Hp}{x:V}{d:PyData}(h:DH H x d)(e:ZfJ d=true):∃a xs ds,x=.ref a∧d=.list ds∧H a=some (.lst xs)∧DHs H xs ds:=by
 cases h with
 | lst h hs=>exact⟨_,_,_,rfl,rfl,h,hs⟩
 | non=>cases e
 | bl b=>cases e
 | int i=>cases e
 | str z=>cases e
 | tup h hs=>cases e
theorem DH.tup_inv{H:Hp}{x:V}{d:PyData}(h:DH H x d)(e:Zcn d=true):∃a xs ds,x=.ref a∧d=.tuple ds∧H a=some (.tup xs)∧DHs H xs ds:=by
 cases h with
 | tup h hs=>exact⟨_,_,_,rfl,rfl,h,hs⟩
 | non=>cases e
 | bl b=>cases e
 | int i=>cases e
 | str z=>cases e
 | lst h hs=>cases e
theorem DH.int_inv{H:Hp}{x:V}{d:PyData}(h:DH H x d)(e:ZS d=true):∃i,x=.int i∧d=.int i:=by
 cases h with
 | int i=>exact⟨_,rfl,rfl⟩
 | non=>cases e
 | bl b=>cases e
 | tup h hs=>cases e
 | str z=>cases e
 | lst h hs=>cases e
theorem DHs.ints{H:Hp}:∀ns:List Int,DHs H (ns.map V.int) (ns.map PyData.int)
 | []=>.nil
 | n::r=>.cons (.int n) (DHs.ints r)
end L2
namespace L2
open PySem PySem.Spec PyProof.Rows
def off(p:Addr)(H:Hp):Hp:=fun b=>if b=p then none else H b
theorem Zal{p b:Addr}{H:Hp}{o:HO}(h:H b=some o)(n:b≠p):off p H b=some o:=by unfold off;rw[if_neg n];exact h
theorem Zb4{p:Addr}{H:Hp}:Zn (off p H) H:=fun b o h=>by
 unfold off at h
 split at h
 ·cases h
 ·exact h
theorem Zan{p:Addr}{H H':Hp}(B:∀b o,H b=some o→b≠p→H' b=some o):Zn (off p H) (off p H'):=fun b o h=>by
 unfold off at h ⊢
 split at h
 ·cases h
 ·rw[if_neg (by assumption)];exact B b o h (by assumption)
theorem Zp{p:Addr}{H H':Hp}(s:Zn H H'):Zn (off p H) (off p H'):=Zan fun b o h _=>s b o h
theorem DH.on{p:Addr}{H:Hp}{x:V}{d:PyData}(h:DH (off p H) x d):DH H x d:=h.mono Zb4
section
variable {prog:Program} {w:World} {A:Around} {R:Result→Shared→Prop} {I:Addr} {fp wr:List Addr} {G:Array GenState→Array GenState→Prop} {n:Nat} {P:Nat→Value→Prop} {St:Nat→Shared→Prop} {K:Type} [DecidableEq K] {knd:KeyKind prog w K}
end
end L2
namespace L2
open PySem PySem.Spec PyProof.Rows
section
variable {prog:Program} {w:World} {A:Around} {E:Value→Shared→Prop} {s:Shared} {l:Addr} {xs:Array (Int×Tok)}
end
section
variable {X:Cx}
end
section
variable {X:Cx}
end
def Zn8(t u:TS):TS:=fun D σ H=>∃M:St→Hp→Prop,t { D with nx:=M } σ H∧∀σ' H',M σ' H'→u D σ' H'
theorem Zci{X:Cx}{st:Stmt}{rest:List Stmt}{t u:TS}(h1:PS X st t)(h2:PSs X rest u):PSs X (st::rest) (Zn8 t u):=by
 intro pins s σ H D I h
 obtain⟨M,h,hm⟩:=h
 refine wpAny_execs_cons (thn (h1 pins s σ H { D with nx:=M } I h) fun f s1 q=>?_)
 cases f with
 | next =>
  obtain⟨σ',H',I',q⟩:=q
  exact h2 pins s1 σ' H' D I' (hm σ' H' q)
 | ret v=>exact q
 | brk=>exact q
 | cont=>exact q
section
variable {prog:Program} {w:World} {A:Around} {E:Value→Shared→Prop} {s:Shared} {K:Type} [DecidableEq K] {knd:KeyKind prog w K}
end
section
variable {prog:Program} {w:World} {A:Around} {E:Value→Shared→Prop} {s:Shared} {K:Type} [DecidableEq K] {knd:HeapKind prog w K}
end
def apart:List Int→Bool
 | []=>true
 | x::r=>r.all (fun y=>x != y)&&apart r
structure CompScC (N N':List Str) (o c:Scope):Prop where
 kind:c.kind=.function
 okind:o.kind=.function
 cel:∀y∈c.names,y.2=.cell→c.names.lookup y.1=some .cell
 loc:∀y∈c.names,y.2=.local→c.names.lookup y.1=some .local
 free:∀y∈c.names,y.2=.free→c.names.lookup y.1=some .free∧(o.names.lookup y.1=some .cell∨o.names.lookup y.1=some .free)
 len:N.length≤N'.length
 same:∀i∈List.range N.length,∀x∈N'[i]?,c.names.lookup x=some .local∨c.names.lookup x=some .free∨c.names.lookup x=some .cell→c.names.lookup x=some .free∧N[i]? = some x
 nd:N'.Nodup
section
variable {X:Cx} {N N':List Str} {o c:Scope}
variable {x:Str} {pos:Pos} {C:Addr} {s:Shared} {H:Hp} {fp:List Addr}
end
section
variable {prog:Program} {w:World} {A:Around} {E:Value→Shared→Prop} {s:Shared}
end
section
variable {prog:Program} {w:World} {A:Around} {R:Result→Shared→Prop} {I:Addr} {fp wr:List Addr} {G:Array GenState→Array GenState→Prop} {n:Nat} {P:Nat→Value→Prop} {St:Nat→Shared→Prop}
variable {K:Type} [DecidableEq K] {knd:KeyKind prog w K}
theorem Zeg{h h':Heap}{ks:List K}{a:Addr}(x:(tupleKind knd).is h ks a)(k:∀o,h.get? a=some o→h'.get? a=some o):(tupleKind knd).is h' ks a:=by
 obtain⟨o,it,m,e,r⟩:=x
 exact⟨o,it,m,k _ e,r⟩
theorem Zha{xs:List (List K×Addr×Value)}(nd:(xs.map (·.1)).Nodup){i:Nat}{x:List K×Addr×Value}(h:xs[i]? = some x):atKey (xs.take i) x.1=none:=by
 unfold atKey
 have:(xs.take i).find? (fun y=>decide (y.1=x.1))=none:=List.find?_eq_none.mpr fun y hy=>by
  obtain⟨j,hj,e⟩:=List.mem_iff_getElem.mp hy
  have hj':j<i∧j<xs.length:=by rw[Qk]at hj;omega
  rw[List.getElem_take]at e
  obtain⟨hi,e2⟩:=Qi.mp h
  have:=List.pairwise_iff_getElem.mp nd j i (by rw[Qa];omega) (by rw[Qa];omega) hj'.1
  rw[List.getElem_map,List.getElem_map,e,e2]at this
  simpa using this
 rw[this];rfl
theorem Zg6(W:WalksS prog w A.in1 I fp wr G n P St)(hu:A.in1.units<cLine)(D:Addr)(hDf:D ∉ fp)(xs:List (List K×Addr×Value))(hn:xs.length=n)(nd:(xs.map (·.1)).Nodup)(As:Nat→Addr)(hAs:∀j,j<n→As j≠D∧As j ∉ wr)(hKs:∀x∈xs,x.2.1≠D∧x.2.1 ∉ wr)
  (hval:∀i v,P i v→v=.ref (As i)) (hsz:n≤sizeLine) :
  ∀ (k i:Nat) (z:Int) (s:Shared),n-i=k→i≤n→St i s→s.heap.DictOfH (tupleKind knd) D (xs.take i) →
   (∀j (hj:j<n),IsTup s.heap (As j) #[.ref (xs[j]'(hn ▸ hj)).2.1,(xs[j]'(hn ▸ hj)).2.2])→(∀x∈xs,(tupleKind knd).is s.heap x.1 x.2.1) →
   (∀s',Moved (D::wr) G s s'→s'.heap.DictOfH (tupleKind knd) D xs→R (.ok (.ret .none)) s') →
   codeAny (model prog w) A (.builtin "dict.update.loop" ⟨[.ref D,.ref I,rawInt z,.none],[]⟩) R s:=by
 have hDw:D ∉ wr:=fun h=>hDf (W.sub _ h)
 have hsub:∀b∈wr,b∈D::wr:=fun b hb=>Ql _ hb
 intro k
 induction k with
 | zero =>
  intro i z s hk hi hst hS hT hK hR
  have hin:i=n:=by omega
  subst hin
  refine codeAny_builtin Zbh ?_
  rw[Around.under_plainId Z7 _]
  show wpAny _ A.in1 (pyNext (.ref I) >>= _) _ _ s
  refine wpAny_bind (W.done s _ _ hst fun s' hm=>?_)
  show wpAny _ A.in1 (Builtin.Dict.addKeywords D [] >>= fun _=>ret Value.none) _ _ s'
  refine wpAny_bind (wpAny_pure (wpAny_pure (hR s' (hm.mono hsub) ?_)))
  rw[Qn (by omega)]at hS
  obtain⟨o,es,ep,ho,r1,r2,r3,r4,r5⟩:=hS
  exact⟨o,es,ep,hm.heap D _ hDw ho,r1,r2,r3,fun x hx=>Zeg (r4 x hx) fun o e=>hm.heap _ _ (hKs x hx).2 e,r5⟩
 | succ k ih =>
  intro i z s hk hi hst hS hT hK hR
  have hlt:i<n:=by omega
  refine codeAny_builtin Zbh ?_
  rw[Around.under_plainId Z7 _]
  show wpAny _ A.in1 (pyNext (.ref I) >>= _) _ _ s
  refine wpAny_bind (W.item i s _ _ hlt hst fun v s' hP hst' hm=>?_)
  have ev:=hval i v hP
  subst ev
  have hix:xs[i]? = some (xs[i]'(hn ▸ hlt)):=Qc _
  have ht:=hT i hlt
  generalize xs[i]'(hn ▸ hlt)=x at hix ht
  have hxm:x∈xs:=QB hix
  have ht':IsTup s'.heap (As i) #[.ref x.2.1,x.2.2]:=by
   obtain⟨o,ho,r⟩:=ht
   exact⟨o,hm.heap _ _ (hAs i hlt).2 ho,r⟩
  have hK':∀x∈xs,(tupleKind knd).is s'.heap x.1 x.2.1:=fun x hx=>Zeg (hK x hx) fun o e=>hm.heap _ _ (hKs x hx).2 e
  have hS':s'.heap.DictOfH (tupleKind knd) D (xs.take i):=by
   obtain⟨o,es,ep,ho,r1,r2,r3,r4,r5⟩:=hS
   exact⟨o,es,ep,hm.heap D _ hDw ho,r1,r2,r3,fun x hx=>hK' x (QO hx),r5⟩
  show wpAny _ A.in1 (holding [Value.ref (As i)] _ >>= _) _ _ s'
  refine wpAny_bind (wpAny_holding ?_)
  obtain⟨ot,hot,hct,nt,hdt⟩:=id ht'
  refine wpAny_bind ?_
  have hpair:wpAny (model prog w) A.in1 (Builtin.Dict.pairItems (Value.ref (As i))) (fun p s2=>p=[.ref x.2.1,x.2.2]∧s2=s') (fun e s'=>False) s':=by
   unfold Builtin.Dict.pairItems
   refine wpAny_bind (wpAny_typeOf (T := "tuple") ⟨ot,hot,hct⟩ ?_)
   rw[if_pos (by decide)]
   exact wpAny_bind (wpAny_seqItems hot hdt (wpAny_pure ⟨rfl,rfl⟩))
  refine wpAny_tryCatch (wpAny_mono hpair (fun p s2 h2=>?_) fun _ _ z=>z.elim)
  obtain⟨rfl,rfl⟩:=h2
  refine wpAny_holding (wpAny_dictSet_heap (knd:=tupleKind knd) (k:=x.1) hu (hK' x hxm) hS' (fun h' hd' hs=>?_) (by rw[Qk];omega))
  rw[storedH_new (Zha nd hix)]at hd'
  have hd2:h'.DictOfH (tupleKind knd) D (xs.take (i+1)):=by
   rw[Qv,hix]
   exact hd'
  have kp:∀b o,b≠D→s2.heap.get? b=some o→h'.get? b=some o:=fun b o hb e=>by rw[hs.2 b hb];exact e
  refine wpAny_pure ⟨plainId_quiet Z7 _,ih (i+1) (z+1) _ (by omega) hlt (W.frame _ s2 _ _ hst' (Qad _ _) fun b hb o e=>kp b o (fun h:b=D=>hDf (by rw[← h];exact hb)) e) hd2 (fun j hj=>?_) (fun y hy=>Zeg (hK' y hy) fun o e=>kp _ _ (hKs y hy).1 e) fun s'' hm'' hS''=>?_⟩
  ·obtain⟨o,ho,r⟩:=hT j hj
   exact⟨o,kp _ _ (hAs j hj).1 (hm.heap _ _ (hAs j hj).2 ho),r⟩
  ·refine hR s'' (Moved.trans W.gtrans ((hm.mono hsub).then_heap (Qad _ _) fun b o hb e=>?_) hm'') hS''
   exact kp b o (fun h:b=D=>hb (by rw[h];exact Qu)) e
end
section
variable {prog:Program} {w:World} {A:Around} {E:Value→Shared→Prop} {s:Shared} {K:Type} [DecidableEq K] {knd:KeyKind prog w K}
theorem Zd9{l:Addr}{items:Array Value}{xs:List (List K×Addr×Value)}{As:Nat→Addr}{Q:Value→Shared→Prop}(hh:A.handled=none)(hu:A.in1.in1.units<cLine)(hl:PlainL s.heap l items)(hn:xs.length=items.size)(hsz:items.size≤sizeLine)(nd:(xs.map (·.1)).Nodup)
  (hval:∀ (i:Nat) (v:Value),items[i]? = some v→v=.ref (As i)) (ht:∀j (hj:j<items.size),IsTup s.heap (As j) #[.ref (xs[j]'(hn ▸ hj)).2.1,(xs[j]'(hn ▸ hj)).2.2]) (hK:∀x∈xs,(tupleKind knd).is s.heap x.1 x.2.1)
  (h:∀h' tk,h'.DictOfH (tupleKind knd) s.heap.objs.size xs→(∀b o,s.heap.get? b=some o→h'.get? b=some o)→Q (.ref s.heap.objs.size) { s with heap:=h',toks:=tk }) :
  wpAny (model prog w) A (call (.type "dict") [.ref l]) Q E s:=by
 refine callType_codes (Q₁:=fun obj s₁=>obj=.ref s.heap.objs.size∧s₁={ s with heap:=s.heap.push { cls:=.type "dict",data:=.dict #[] } }) F.kt_called_dict (F.kt_typeCall_dict_1 _) F.entry_dict_init (kt_code_dict_new _ ⟨rfl,rfl⟩) ?_
 rintro obj s₁ ⟨rfl,rfl⟩
 have hnew:(s.heap.push { cls:=.type "dict",data:=.dict #[] }).DictOfH (tupleKind knd) s.heap.objs.size []:=Heap.DictOfH.new s.heap
 obtain⟨ol,nl,hol,hcl,hdl,hdat⟩:=hl
 have hll:l<s.heap.objs.size:=Qo hol
 have hol':(s.heap.push { cls:=.type "dict",data:=.dict #[] }).get? l=some ol:=Qb _ hol
 refine⟨hnew.typeIs,F.args_dict_init_2 _ _,?_⟩
 unfold Builtin.«dict.__init__»
 refine wpAny_bind ?_
 unfold Builtin.Dict.selfAndRest
 refine wpAny_bind (wpAny_notOrdered_dict hnew.typeIs ?_)
 show wpAny _ _ (pure (s.heap.objs.size,[Value.ref l])) _ _ _
 refine wpAny_pure ?_
 show wpAny _ _ (Builtin.Dict.updateFrom "dict.__init__" s.heap.objs.size (.ref l) [] .none) _ _ _
 unfold Builtin.Dict.updateFrom
 refine wpAny_bind (wpAny_typeOf (T := "list") ⟨ol,hol',hcl⟩ ?_)
 rw[if_pos (by decide)]
 refine wpAny_bind (getAttr?_keys_list hol' hcl hdat hdl (by simp[hh]) fun h1 tk e hx=>?_)
 rw[if_pos (by decide)]
 have kp:∀b o,(s.heap.push { cls:=.type "dict",data:=.dict #[] }).get? b=some o→h1.get? b=some o:=fun b o z=>hx.keeps b o z
 have hl1:h1.IsList l items:=⟨ol,kp _ _ hol',hcl,nl,hdat⟩
 refine wpAny_bind (wpAny_rule (wpAny_bind (wpAny_pyIter_list hl1 ?_)))
 have hDD:s.heap.objs.size<h1.objs.size:=by
  obtain⟨o,es,ep,ho,_⟩:=hnew
  exact Qo (kp _ _ ho)
 have hl1s:l<h1.objs.size:=QaG hll hDD
 have hneI:l≠h1.objs.size:=Qx hl1s
 have hDf:s.heap.objs.size ∉ [h1.objs.size,l]:=by
  simp only[List.mem_cons,List.not_mem_nil,or_false,not_or]
  exact⟨Qx hDD,QZ hll⟩
 refine wpAny_pure ⟨plainId_quiet Z7 _,?_⟩
 have hh3:A.in1.in1.handled=none:=by simp[hh]
 have k2:∀b o,s.heap.get? b=some o→(h1.push { cls:=.type "list_iterator",data:=.fields #[.ref l,.int 0 0] }).get? b=some o:=fun b o z=>Qb _ (kp b o (Qb _ z))
 have low:∀b,b<s.heap.objs.size→b≠s.heap.objs.size∧b ∉ [h1.objs.size]:=fun b hb=>⟨Qx hb,by
  simp only[List.mem_cons,List.not_mem_nil,or_false]
  exact Qx (QaG hb hDD)⟩
 refine Zg6 (A:=A.in1) (knd:=knd) ((Walks.list hh3 _ l hneI items).toS) hu s.heap.objs.size hDf xs hn nd As (fun j hj=>?_) (fun x hx=>?_) hval hsz (items.size-0) 0 0 _ (by omega) (Qm _)
  ⟨⟨_,Qp _ rfl,rfl,rfl⟩,(hl1.push _)⟩ ?hS0 (fun j hj=>?_) (fun x hx=>?_) ?hR
 ·obtain⟨o,ho,_⟩:=ht j hj
  exact low _ (Qo ho)
 ·obtain⟨o,_,_,ho,_⟩:=hK x hx
  exact low _ (Qo ho)
 case hS0 =>
  obtain⟨o,es,ep,ho,r1,r2,r3,r4,r5⟩:=hnew
  exact⟨o,es,ep,Qb _ (kp _ _ ho),r1,r2,r3,(fun x hx=>nomatch hx),r5⟩
 ·obtain⟨o,ho,r⟩:=ht j hj
  exact⟨o,k2 _ _ ho,r⟩
 ·exact Zeg (hK x hx) fun o e=>k2 _ _ e
 case hR =>
  intro s' hm hS'
  obtain⟨h',g',d',tk',os'⟩:=s'
  have eg:g'=s.gens:=hm.gens
  have ed:d'=s.drawn:=hm.drawn
  have eo:os'=s.os:=hm.os
  subst eg;subst ed;subst eo
  refine⟨rfl,h h' tk' hS' fun b o e=>?_⟩
  have hb:=Qo e
  exact hm.heap b o (by simp only[List.mem_cons,List.not_mem_nil,or_false,not_or];exact⟨Qx hb,Qx (QaG hb hDD)⟩) (k2 b o e)
end
def ZjR(K:PySem.W.Frag):List V→Hp→VK→Prop:=fun xs H Q=>∃ (a:Addr) (ts:List (Addr×Addr×List Key×V)),xs=[.ref a]∧SqL K H a (ts.map fun t=>V.ref t.1)∧(∀t∈ts,H t.1=some (.tup [.ref t.2.1,t.2.2.2])∧H t.2.1=some (.tup (t.2.2.1.map kV)))∧ts.length≤1000∧(ts.map (·.2.2.1)).Nodup ∧
 ∀D,H D=none→Q (.ref D) (upd H D (.dT (ts.map (·.2.2))))
theorem Zer{X:Cx}{pins:List (Addr×Obj)}{σ:St}{H:Hp}{s:Shared}(I:Inv X pins σ H s):∀ (ts:List (Addr×Addr×List Key×V)),(∀t∈ts,H t.1=some (.tup [.ref t.2.1,t.2.2.2])∧H t.2.1=some (.tup (t.2.2.1.map kV))) →
  ∃xs:List (List Key×Addr×Value),Zc8 H (ts.map (·.2.2)) xs∧xs.map (·.1)=ts.map (·.2.2.1)∧∀ (j:Nat) (t:Addr×Addr×List Key×V) (x:List Key×Addr×Value),ts[j]? = some t→xs[j]? = some x→IsTup s.heap t.1 #[.ref x.2.1,x.2.2]
 | [],_=>⟨[],.nil,rfl,fun j t kv h _=>by simp at h⟩
 | t::ts,h=>by
  obtain⟨xs,r,em,hk⟩:=Zer I ts fun x hx=>h x (Ql _ hx)
  obtain⟨h1,h2⟩:=h t (by simp)
  obtain⟨its,rv,ht,_⟩:=I.tuple (SqT.of (K:=X.K) h1)
  obtain⟨u,rfl,ru⟩:∃u,its=[.ref t.2.1,u]∧ZT t.2.2.2 u:=by
   cases rv with
   | cons r1 r2 =>
    cases r2 with
    | cons r3 r4 =>
     cases r4
     cases r1
     exact⟨_,rfl,r3⟩
  refine⟨(t.2.2.1,t.2.1,u)::xs,.cons ⟨rfl,h2,ru⟩ r,by rw[QE,QE,em],fun j x kv e1 e2=>?_⟩
  cases j with
  | zero =>
   simp only[List.getElem?_cons_zero,Option.some.injEq]at e1 e2
   subst e1;subst e2
   exact ht
  | succ j=>exact hk j x kv (by simpa using e1) (by simpa using e2)
theorem ZhF{X:Cx}(hc:X.calm=true)(hu:X.A.units+64<cLine):Z8 X (.type "dict") (ZjR X.K):=by
 intro pins s σ H xs us Q I r h
 obtain⟨a,ts,rfl,hS,hT,hn,nd,q⟩:=h
 obtain⟨u,rfl,ru⟩:=ZbD r
 cases ru
 obtain⟨its,rv,pl,_⟩:=I.list hS
 obtain⟨ks,rk,em,hks⟩:=Zer I ts hT
 have h1:ks.length=ts.length:=by have:=congrArg List.length em;simpa using this
 have h2:its.length=ts.length:=by have:=rv.length;simpa using this.symm
 have hat:∀ (i:Nat) (v:Value),its.toArray[i]? = some v→v=.ref ((ts[i]?.map (·.1)).getD 0):=fun i v hv=>by
  have hv':its[i]? = some v:=by simpa using hv
  have hi:i<ts.length:=by rw[← h2];exact(Qi.mp hv').1
  have:=rv.get (i:=i) (x:=.ref ts[i].1) (by rw[Qt,Qc hi];rfl)
  obtain⟨u,hu,ru⟩:=this
  rw[hv']at hu
  cases hu
  cases ru
  rw[Qc hi];rfl
 refine Zd9 (knd:=ZW X.prog X.w) (xs:=ks) (As:=fun i=>(ts[i]?.map (·.1)).getD 0) (I.ok.hd hc) (by show X.A.units+1+1<cLine;omega) pl (by rw[Qq];omega) (by rw[Qq,h2];exact Q3 (ZM hn)) (by rw[em];exact nd) hat (fun j hj=>?_) (ZcS (R:=fun ks b=>(tupleKind (ZW X.prog X.w)).is s.heap ks b) (fun ks b e=>I.tkey e) rk) fun h' tk hd hk=>?_
 ·have hj':j<ts.length:=by rw[Qq]at hj;omega
  have:=hks j ts[j] (ks[j]'(by omega)) (Qc hj') (Qc _)
  rw[Qc hj']
  exact this
 ·obtain⟨o',es',ep',g1,g2,g3,g4,_,g5⟩:=hd
  have hf:=I.hok.fresh (Qd s.heap.objs.size)
  refine⟨.ref s.heap.objs.size,_,I.laid (a:=s.heap.objs.size) (o:=.dT (ts.map (·.2.2))) (t':=tk) hk (Qd _) ?_,rfl,q _ hf⟩
  refine⟨by rw[Qa];exact Q3 (ZM hn),beq_eq_false_iff_ne.mpr fun z=>QX _ (z ▸ I.big),ks,?_,o',es',ep',g1,g2,g3,g4,g5⟩
  refine ZdN (fun c ys ec=>?_) rk
  rw[Zi (Zg ec hf)]
  exact ec
theorem Zni{X:Cx}(K:PySem.W.Frag){k:Nat}(hr:Za7 k X.A)(hc:X.calm=true:=by rfl)(h:X.K=K:=by rfl):Z8 X (.type "dict") (ZjR K):=by subst h;exact ZhF hc hr.units
def Has(κ:PyProof.Rows.KeyKind)(p:Keyed):Prop:=∃a,κ.keyOf p.1=some a
def kyd(κ:PyProof.Rows.KeyKind)(p:Keyed):κ.α:=(κ.keyOf p.1).getD κ.dflt
section
variable {prog:Program} {w:World} {A:Around} {E:Value→Shared→Prop} {s:Shared} {κ:PyProof.Rows.KeyKind} {k0:SortKind} {a₀:Array Keyed} {st:SortSt}
end
section
variable {κ:PyProof.Rows.KeyKind}
def kS(κ:PyProof.Rows.KeyKind)(l:List Keyed):Prop:=l.Pairwise fun p q=>κ.kle (kyd κ p) (kyd κ q)
def kLe(κ:PyProof.Rows.KeyKind)(l m:List Keyed):Prop:=∀x∈l,∀y∈m,κ.kle (kyd κ x) (kyd κ y)
structure Mg (κ:PyProof.Rows.KeyKind) (all out l m:List Keyed):Prop where
 perm:(out++(l++m)).Perm all
 so:kS κ out
 sl:kS κ l
 sm:kS κ m
 ol:kLe κ out l
 om:kLe κ out m
structure Mh (κ:PyProof.Rows.KeyKind) (all l m out:List Keyed):Prop where
 perm:((l++m)++out).Perm all
 so:kS κ out
 sl:kS κ l
 sm:kS κ m
 lo:kLe κ l out
 mo:kLe κ m out
structure LoPre (κ:PyProof.Rows.KeyKind) (a b:Array Keyed):Prop where
 ha:∀p∈a.toList,Has κ p
 hb:∀p∈b.toList,Has κ p
 sa:kS κ a.toList
 sb:kS κ b.toList
 a0:0<a.size
 b0:0<b.size
 fst:∀i,i<a.size→κ.kle (KK κ b 0) (KK κ a i)
 lst:∀i,i<b.size→κ.kle (KK κ b i) (KK κ a (a.size-1))
variable {a b out:Array Keyed} {ia ib:Nat}
variable {na nb:Nat}
end
section
variable {prog:Program} {w:World} {A:Around} {E:Value→Shared→Prop} {s:Shared} {κ:PyProof.Rows.KeyKind} {k0:SortKind} {st:SortSt} {α β γ:Type}
end
section
variable {prog:Program} {w:World} {A:Around} {E:Value→Shared→Prop} {s:Shared} {κ:PyProof.Rows.KeyKind} {k0:SortKind} {st:SortSt} {α β γ:Type} {a b out:Array Keyed} {na nb:Nat}
end
def Zn3:Nat→List (List Keyed)→List (Nat×Nat)
 | _,[]=>[]
 | o,r::rs=>(o,r.length)::Zn3 (o+r.length) rs
def Zof(p:Nat×Nat×Nat):Nat×Nat:=(p.1,p.2.1)
section
variable {prog:Program} {w:World} {A:Around} {E:Value→Shared→Prop} {s:Shared} {κ:PyProof.Rows.KeyKind} {k0:SortKind} {st:SortSt} {a₀:Array Keyed}
structure Rn (κ:PyProof.Rows.KeyKind) (k0:SortKind) (a₀:Array Keyed) (st:SortSt) (rs:List (List Keyed)) (rest:List Keyed):Prop where
 kind:kindOf st=k0
 failed:failedOf st=none
 arr:(arrOf st).toList=rs.flatten++rest
 perm:(arrOf st).Perm a₀
 srt:∀r∈rs,kS κ r
 ne:∀r∈rs,r≠[]
 pend:(pendingOf st).toList.map Zof=Zn3 0 rs
end
section
variable {prog:Program} {w:World} {A:Around} {E:Value→Shared→Prop} {s:Shared} {κ:PyProof.Rows.KeyKind} {k0:SortKind} {st st0:SortSt} {a₀:Array Keyed} {α:Type} {lo:Nat}
structure Ph (k0:SortKind) (a₀:Array Keyed) (lo:Nat) (st0 st:SortSt):Prop where
 kind:kindOf st=k0
 failed:failedOf st=none
 pend:pendingOf st=pendingOf st0
 perm:(arrOf st).Perm a₀
 pre:∀k,k<lo→(arrOf st)[k]? = (arrOf st0)[k]?
end
section
variable {prog:Program} {w:World} {A:Around} {E:Value→Shared→Prop} {s:Shared} {κ:PyProof.Rows.KeyKind} {k0:SortKind} {st st0:SortSt} {a₀:Array Keyed} {lo:Nat} {rs:List (List Keyed)} {rest:List Keyed}
end
section
variable {prog:Program} {w:World} {A:Around} {E:Value→Shared→Prop} {s:Shared} {κ:PyProof.Rows.KeyKind}
end
end L2
set_option maxHeartbeats 4000000
namespace L2
open PySem PySem.Spec PyProof.Rows
section
variable {X:Cx}
def Zir(K:PySem.W.Frag):R2:=fun x y H Q=>∃a b xs ys,x=.ref a∧y=.ref b∧SqT K H a xs∧SqT K H b ys∧xs.length+ys.length≤sizeLine ∧
 (xs=[]→Q (.ref b) H)∧(xs≠[]→ys=[]→Q (.ref a) H)∧(xs≠[]→ys≠[]→∀p,H p=none→Q (.ref p) (upd H p (.tup (xs++ys))))
theorem Zl0:OpR X (binaryOp .Add) (Zir X.K):=by
 intro pins s σ H x y v u Q I rx ry h
 obtain⟨a,b,xs,ys,rfl,rfl,ha,hb,hz,q0,q1,q2⟩:=h
 by_cases hx:xs=[]
 ·cases rx
  cases ry
  obtain⟨its,r1,p1,_⟩:=I.tuple ha
  obtain⟨its2,r2,p2,_⟩:=I.tuple hb
  obtain⟨⟨cls,dd,data,sl⟩,ho,hc,n,hd⟩:=id p1
  obtain⟨⟨cls2,dd2,data2,sl2⟩,ho2,hc2,n2,hd2⟩:=id p2
  simp only at hc hd hc2 hd2
  subst hc hd hc2 hd2
  have e0:its=[]:=r1.nil_iff.mpr hx
  exact concat_meets ⟨_,ho,rfl⟩ ⟨_,ho2,rfl⟩ noFill_tuple_add seq_tuple_add QaF QaE (Qay _ _)
   (tuple_addW0 a b its.toArray its2.toArray n n2 dd dd2 sl sl2 (by simp[e0])) ⟨ho,ho2,⟨.ref b,H,I,rfl,q0 hx⟩⟩
 ·exact ZhN pins s σ H _ _ v u Q I rx ry ⟨a,b,xs,ys,rfl,rfl,ha,hb,hx,hz,q1 hx,q2 hx⟩
theorem ZkM(K:PySem.W.Frag)(h:X.K=K:=by rfl):OpR X (binaryOp .Add) (Zir K):=by subst h;exact Zl0
theorem Zdm{K:PySem.W.Frag}{H:Hp}{Q:VK}{a b:Addr}{xs ys:List V}(ha:H a=some (.tup xs))(hb:H b=some (.tup ys))(hz:xs.length+ys.length≤sizeLine)
  (q:∀r H',(∀b o,H b=some o→H' b=some o)→H' r=some (.tup (xs++ys))→Q (.ref r) H'):Zir K (.ref a) (.ref b) H Q:=by
 refine⟨a,b,xs,ys,rfl,rfl,SqT.of ha,SqT.of hb,hz,fun e=>q b H (fun _ _ h=>h) (by rw[e];exact hb),fun _ e=>q a H (fun _ _ h=>h) (by rw[e,QG];exact ha),fun _ _ p hp=>q p _ (fun b o h=>by rw[Zi (fun e=>by rw[e,hp]at h;cases h)];exact h) Zb⟩
end
section
variable {prog:Program} {w:World} {A:Around} {E:Value→Shared→Prop} {s:Shared} {a kS:Addr} {vs:List Value} {kz:List Int} {keys:Array Value} {e e1:Nat} {P:PySem.Fin→Shared→Prop}
end
variable {X:Cx}
end L2
set_option maxHeartbeats 4000000
namespace L2
open PySem PySem.Spec PyProof.Rows
section
variable {X:Cx}
def Ze5:R2:=fun x y H Q=>∃d kvs b ks v,x=.ref d∧y=.ref b∧Rd H d (.dT kvs)∧H b=some (.tup (ks.map kV))∧Z3 kvs ks=some v∧Q v H
theorem ZmU(hu:X.A.units+64<cLine):IxR X Ze5:=by
 intro value slice pins s σ H x y v u Q I rx ry h hs
 obtain⟨d,kvs,b,ks,z,rfl,rfl,hH,hb,hk,q⟩:=h
 cases rx
 cases ry
 obtain⟨_,hd,xs,rel,o,es,ep,ho,hex,hdat,hent,hnd⟩:=(show Zah X.prog X.w H s.heap d (.dT kvs) from hH.ok I.hok)
 have hm:s.heap.DictOfH (tupleKind (ZW X.prog X.w)) d xs:=⟨o,es,ep,ho,hex,hdat,hent,ZcS (R:=fun ks b=>(tupleKind (ZW X.prog X.w)).is s.heap ks b) (fun ks b e=>I.tkey e) rel,hnd⟩
 obtain⟨p,hp,rp⟩:=ZhH rel hk
 exact subscriptTail_builtinR (x:=p.2) hm.typeIs PySem.F.slot_dict_getitem.lookup (wpAny_getItem_heap (knd:=tupleKind (ZW X.prog X.w)) (by show X.A.units+1<cLine;omega) (I.tkey hb) hm hp ⟨rfl,z,H,I.tok _,rp,q⟩) hs
theorem ZiN{k:Nat}(hr:Za7 k X.A):IxR X Ze5:=ZmU hr.units
end
section
variable {prog:Program} {w:World} {A:Around} {E:Value→Shared→Prop} {s:Shared} {it d:Addr} {i ep:Nat} {es:Array DictEntry} {od:Obj} {ok ov:Value}
theorem Zi8{Q:Option Value→Shared→Prop}(hit:IsItemIter s.heap it d i es.size ep ok ov)(hod:s.heap.get? d=some od)(hdd:od.data=.dict es ep)(hlt:i<es.size)
  (hQ:∀h',IsItemIterOut h' it d (i+1) es.size ep es[i].key es[i].val s.heap.objs.size→h'.get? s.heap.objs.size=some { cls:=.type "tuple",data:=.seq #[es[i].key,es[i].val] }→h'.objs.size=s.heap.objs.size+1 →
   (∀b o,b≠it→s.heap.get? b=some o→h'.get? b=some o)→Q (some (.ref s.heap.objs.size)) { s with heap:=h' }):wpAny (model prog w) A (pyNext (.ref it)) Q E s:=by
 obtain⟨hp,g,dr,tk,os⟩:=s
 have ty:∀ {h:Heap} {j:Nat} {a b:Value},IsItemIter h it d j es.size ep a b→Shared.TypeIs ⟨h,g,dr,tk,os⟩ (.ref it) "dict_itemiterator":=fun e=>⟨_,e,rfl⟩
 have hil:it<hp.objs.size:=Qo hit
 have hown:Builtin.Dict_items.ownsTuple "dict_itemiterator" = true:=by decide
 unfold pyNext
 refine wpAny_bind (wpAny_attempt (wpAny_callSpecial?_slot (name:=Str.ofString "__next__") (ty hit) Q2 (wpAny_call_entry Q2 (ty hit) PySem.F.entry_dict_itemiterator_next ?_ (PySem.F.args_dict_itemiterator_next_1 _))))
 refine wpAny_bind (wpAny_pure (wpAny_bind (wpAny_bind ?_)))
 first|refine wpAny_bind (wpAny_typeNameOfWhole_itemiter (ty hit) (wpAny_pure ?_))|refine wpAny_bind (wpAny_typeNameOf_itemiter (ty hit) (wpAny_pure ?_))
 refine wpAny_bind (wpAny_fieldsOf hit rfl ?_)
 simp only[hown,if_true]
 show wpAny _ _ (if (Value.ref d == Value.none)=true then _ else _) _ _ _
 rw[if_neg (show ¬ ((Value.ref d == Value.none)=true) from Qj)]
 refine wpAny_bind (wpAny_pure (wpAny_bind (wpAny_dictEntries hod hdd ?_)))
 rw[if_neg (by simp)]
 refine wpAny_bind (wpAny_pure (wpAny_bind (wpAny_dictEpoch hod hdd ?_)))
 rw[if_neg (by simp)]
 refine wpAny_pure ?_
 simp only[show ¬ ((i:Int)<0) from by omega,if_false,Int.toNat_natCast,Array.getElem?_eq_getElem hlt]
 refine wpAny_bind ?_
 first|refine wpAny_bind (wpAny_typeNameOfWhole_itemiter (ty hit) (wpAny_pure ?_))|refine wpAny_bind (wpAny_typeNameOf_itemiter (ty hit) (wpAny_pure ?_))
 refine wpAny_bind (wpAny_isOneOf_itemiter (ty hit) ?_)
 show wpAny _ _ (setField (.ref it) 3 (rawInt ((i:Int)+1)) >>= _) _ _ ⟨hp,g,dr,tk,os⟩
 refine wpAny_bind (wpAny_setField_rec hit (by simp) fun h₁ he₁ hs₁=>?_)
 replace hs₁:Heap.SameBut it hp h₁:=hs₁
 replace he₁:IsItemIter h₁ it d (i+1) es.size ep ok ov:=by
  unfold IsItemIter;rw[show ((i+1:Nat):Int)=(i:Int)+1 by omega];simpa [rawInt] using he₁
 refine wpAny_bind (wpAny_holding (wpAny_bind (wpAny_isOneOf_itemiter (ty he₁) (wpAny_bind (wpAny_isOneOf_itemiter (ty he₁) ?_)))))
 show wpAny _ _ (Builtin.Dict_items.pairFromOwner (.ref it) 6 es[i].key es[i].val) _ _ ⟨h₁,g,dr,tk,os⟩
 unfold Builtin.Dict_items.pairFromOwner
 refine wpAny_bind (wpAny_newTuple ?_)
 have he₂:IsItemIter (h₁.push { cls:=.type "tuple",data:=.seq #[es[i].key,es[i].val] }) it d (i+1) es.size ep ok ov:=Qb _ he₁
 have ht₂:(h₁.push { cls:=.type "tuple",data:=.seq #[es[i].key,es[i].val] }).get? hp.objs.size=some { cls:=.type "tuple",data:=.seq #[es[i].key,es[i].val] }:=by rw[← hs₁.1];exact Qp _ rfl
 have hz₂:(h₁.push { cls:=.type "tuple",data:=.seq #[es[i].key,es[i].val] }).objs.size=hp.objs.size+1:=by rw[Q1,hs₁.1]
 have hk₂:∀b o,b≠it→hp.get? b=some o→(h₁.push { cls:=.type "tuple",data:=.seq #[es[i].key,es[i].val] }).get? b=some o:=fun b o hb e=>Qb _ (hs₁.extBut b o hb e)
 have hz₁:h₁.objs.size=hp.objs.size:=hs₁.1
 show wpAny _ _ (Builtin.Dict_items.ownedTupleIsFree (.ref it) >>= _) _ _ ⟨h₁.push { cls:=.type "tuple",data:=.seq #[es[i].key,es[i].val] },g,dr,tk,os⟩
 rw[hz₁]
 generalize h₁.push { cls:=.type "tuple",data:=.seq #[es[i].key,es[i].val] }=h₂ at he₂ ht₂ hz₂ hk₂ ⊢
 clear hz₁ he₁ hs₁ h₁
 refine wpAny_bind ?_
 unfold Builtin.Dict_items.ownedTupleIsFree
 refine wpAny_bind (wpAny_field he₂ rfl (x:=.none) rfl (wpAny_pure ?_))
 simp only[if_true]
 refine wpAny_bind (wpAny_field he₂ rfl (x:=ok) rfl (wpAny_bind (wpAny_field he₂ rfl (x:=ov) rfl ?_)))
 refine wpAny_bind (wpAny_setField_rec he₂ (by simp) fun h₃ he₃ hs₃=>?_)
 replace hs₃:Heap.SameBut it h₂ h₃:=hs₃
 replace he₃:IsItemIter h₃ it d (i+1) es.size ep es[i].key ov:=he₃
 refine wpAny_bind (wpAny_setField_rec he₃ (by simp) fun h₄ he₄ hs₄=>?_)
 replace hs₄:Heap.SameBut it h₃ h₄:=hs₄
 replace he₄:IsItemIter h₄ it d (i+1) es.size ep es[i].key es[i].val:=he₄
 refine wpAny_bind (wpAny_setField_rec he₄ (by simp) fun h₅ he₅ hs₅=>?_)
 replace hs₅:Heap.SameBut it h₄ h₅:=hs₅
 replace he₅:IsItemIterOut h₅ it d (i+1) es.size ep es[i].key es[i].val hp.objs.size:=he₅
 refine wpAny_bind (wpAny_setField_rec he₅ (by simp) fun h₆ he₆ hs₆=>?_)
 replace hs₆:Heap.SameBut it h₅ h₆:=hs₆
 replace he₆:IsItemIterOut h₆ it d (i+1) es.size ep es[i].key es[i].val hp.objs.size:=he₆
 have up:∀b o,b≠it→h₂.get? b=some o→h₆.get? b=some o:=fun b o hb e=>hs₆.extBut b o hb (hs₅.extBut b o hb (hs₄.extBut b o hb (hs₃.extBut b o hb e)))
 refine wpAny_bind (wpAny_letGo (wpAny_pure (wpAny_pure ⟨_,rfl,wpAny_pure (hQ h₆ he₆ (up _ _ (QZ hil) ht₂) ?_ fun b o hb e=>up b o hb (hk₂ b o hb e))⟩)))
 show h₆.objs.size=hp.objs.size+1
 rw[hs₆.1,hs₅.1,hs₄.1,hs₃.1,hz₂]
theorem ZiC{Q:Option Value→Shared→Prop}(hh:A.handled=none)(hit:IsItemIter s.heap it d i es.size ep ok ov)(hod:s.heap.get? d=some od)(hdd:od.data=.dict es ep)(hge:es.size≤i)
  (hQ:∀h',Heap.ExtBut it s.heap h'→Q none { s with heap:=h' }):wpAny (model prog w) A (pyNext (.ref it)) Q E s:=by
 have ty:s.TypeIs (.ref it) "dict_itemiterator":=⟨_,hit,rfl⟩
 have hown:Builtin.Dict_items.ownsTuple "dict_itemiterator" = true:=by decide
 unfold pyNext
 refine wpAny_bind (wpAny_attempt (wpAny_callSpecial?_slot (name:=Str.ofString "__next__") ty Q2 (wpAny_call_entry Q2 ty PySem.F.entry_dict_itemiterator_next ?_ (PySem.F.args_dict_itemiterator_next_1 _))))
 refine wpAny_bind (wpAny_pure (wpAny_bind (wpAny_bind ?_)))
 first|refine wpAny_bind (wpAny_typeNameOfWhole_itemiter ty (wpAny_pure ?_))|refine wpAny_bind (wpAny_typeNameOf_itemiter ty (wpAny_pure ?_))
 refine wpAny_bind (wpAny_fieldsOf hit rfl ?_)
 simp only[hown,if_true]
 show wpAny _ _ (if (Value.ref d == Value.none)=true then _ else _) _ _ s
 rw[if_neg (show ¬ ((Value.ref d == Value.none)=true) from Qj)]
 refine wpAny_bind (wpAny_pure (wpAny_bind (wpAny_dictEntries hod hdd ?_)))
 rw[if_neg (by simp)]
 refine wpAny_bind (wpAny_pure (wpAny_bind (wpAny_dictEpoch hod hdd ?_)))
 rw[if_neg (by simp)]
 refine wpAny_pure ?_
 simp only[show ¬ ((i:Int)<0) from by omega,if_false,Int.toNat_natCast,Array.getElem?_eq_none hge]
 refine wpAny_bind ?_
 first|refine wpAny_bind (wpAny_typeNameOfWhole_itemiter ty (wpAny_pure ?_))|refine wpAny_bind (wpAny_typeNameOf_itemiter ty (wpAny_pure ?_))
 show wpAny _ _ (setField (.ref it) 2 .none >>= _) _ _ s
 refine wpAny_bind (wpAny_setField hit rfl (by simp) ?_)
 show wpAny _ _ (newExc (.type "StopIteration") [] >>= _) _ _ _
 refine wpAny_bind ?_
 simp only[newExc,newTuple]
 refine wpAny_bind (wpAny_newObj_type ?_ (by size_fits))
 refine wpAny_bind (m:=firstArgMember _ _) (wpAny_of_eq (a:=Value.none) (by first|rfl|(simp only[firstArgMember];rfl)) ?_)
 refine wpAny_newObj_type ?_ (by size_fits)
 simp only[raiseNew]
 refine wpAny_bind (wpAny_handled ?_)
 rw[show A.in1.handled=none from hh]
 refine wpAny_bind (wpAny_pure (wpAny_throw ?_))
 refine wpAny_bind (wpAny_isInstance (T := "StopIteration") (b:=true) ⟨_,Qp _ rfl,rfl⟩ isSubtype_stop ?_)
 exact wpAny_pure (hQ _ (((Qag ..).extBut.push _).push _))
end
def ZkX(d:Addr)(o:Obj)(kvs:List (List Key×V)):It :=
 ⟨fun i H=>H d=some (.frz o (.dT kvs))∧i<kvs.length,
  fun i H v H'=>∃p b ks x,H p=none∧v=.ref p∧kvs[i]? = some (ks,x)∧H b=some (.tup (ks.map kV))∧H'=upd H p (.tup [.ref b,x]),
  fun i H=>H d=some (.frz o (.dT kvs))∧kvs.length≤i⟩
theorem ZkY{H:Hp}{kvs:List (List Key×V)}{xs:List (List Key×Addr×Value)}(r:Zc8 H kvs xs):∀ (i:Nat) (ks:List Key) (x:V),kvs[i]? = some (ks,x)→∃b u,xs[i]? = some (ks,b,u)∧H b=some (.tup (ks.map kV))∧ZT x u:=by
 induction r with
 | nil=>intro i k x h;simp at h
 | @cons p q ps qs h t ih =>
  intro i k x hx
  cases i with
  | zero =>
   have e:p=(k,x):=by simpa using hx
   subst e
   obtain⟨k',b,u⟩:=q
   obtain⟨e1,e2,e3⟩:=h
   have e1:k=k':=e1
   subst e1
   exact⟨b,u,rfl,e2,e3⟩
  | succ i=>simpa using ih i k x (by simpa using hx)
theorem Inv.dictFT{X:Cx}{pins:List (Addr×Obj)}{σ:St}{H:Hp}{s:Shared}{d:Addr}{o:Obj}{kvs:List (List Key×V)}{es:Array DictEntry}{ep:Nat}(I:Inv X pins σ H s)(e:H d=some (.frz o (.dT kvs)))(hd:o.data=.dict es ep) :
  s.heap.get? d=some o∧es.size=kvs.length∧∀ (i:Nat) (ks:List Key) (x:V) (hi:i<es.size),kvs[i]? = some (ks,x)→∃b,H b=some (.tup (ks.map kV))∧es[i].key=.ref b∧ZT x es[i].val:=by
 obtain⟨ho,_,_,xs,rel,o',es',ep',h1,h2,h3,h4,h5⟩:=(show Zah X.prog X.w H s.heap d (.frz o (.dT kvs)) from I.hok d _ e)
 rw[ho]at h1
 cases h1
 rw[hd]at h3
 cases h3
 have hsz:es.size=kvs.length:=by rw[← QH,h4,Qa,ZcV rel]
 refine⟨ho,hsz,fun i ks x hi hx=>?_⟩
 obtain⟨b,u,hb,hH,hr⟩:=ZkY rel i ks x hx
 have he:es.toList[i]? = some (entryOfKey (tupleKind (ZW X.prog X.w)) (ks,b,u)):=by rw[h4,Qt,hb];rfl
 rw[Array.getElem?_toList,Array.getElem?_eq_getElem hi]at he
 have he:=QM he
 rw[he]
 exact⟨b,hH,rfl,hr⟩
theorem Zge{P:Program}{w:World}{K:PySem.W.Frag}{elts:List Expr}{x1:Nat}{tpos:Pos}{d it:Addr}{o:Obj}{kvs:List (List Key×V)}{es:Array DictEntry}{ep:Nat}(hd:o.data=.dict es ep) :
  Zhc P w K (.Tuple elts x1 tpos) (ZkX d o kvs) [it] it (fun i h=>∃ok ov,IsItemIter h it d i kvs.length ep ok ov) where
 mem:=by simp
 obj:=fun i h st b hb=>by
  obtain⟨ok,ov,he⟩:=st
  rw[Qg.mp hb]
  exact⟨_,he,fun v z=>by cases z⟩
 keep:=fun i h h' st k=>by
  obtain⟨ok,ov,he⟩:=st
  exact⟨ok,ov,k it (by simp) _ he⟩
 item:=by
  intro X hP hw hK hc i pins s σ H E I hf st hg
  subst hP hw hK
  obtain⟨ok,ov,he⟩:=st
  obtain⟨hfz,hi⟩:=hg
  obtain⟨ho,hsz,hat⟩:=I.dictFT hfz hd
  obtain⟨b,hb,ek,ru⟩:=hat i kvs[i].1 kvs[i].2 (by omega) (Qc hi)
  rw[← hsz]at he
  refine Zi8 he ho hd (by omega) fun h' a1 a2 a3 a4=>?_
  have hes:s.heap.objs.size≠it:=QZ (Qo he)
  refine⟨_,rfl,wpAny_letOwnedTupleGo_items a1 fun h'' he'' hs''=>?_⟩
  have hs':Heap.SameBut it h' h'':=hs''
  have I2:Inv X pins σ (upd H s.heap.objs.size (.tup [.ref b,kvs[i].2])) { s with heap:=h'',toks:=s.toks }:=by
   refine I.zipped (fp:=[it]) (u:=es[i].key) (v:=es[i].val) hf (by rw[ek];rfl) ru (hs'.extBut _ _ hes a2) (fun c hc=>?_) fun c o hc q=>?_
   ·have e:=Qg.mp hc
    subst e
    exact⟨_,he''⟩
   ·have hc':c≠it:=fun z=>hc (by rw[z];simp)
    exact hs'.extBut _ _ hc' (a4 c o hc' q)
  have he3:∃a b,IsItemIter h'' it d (i+1) kvs.length ep a b:=by
   generalize es[i].key=kk at he''
   generalize es[i].val=vv at he''
   rw[hsz]at he''
   exact⟨_,_,he''⟩
  refine⟨.ref s.heap.objs.size,_,I2,rfl,⟨s.heap.objs.size,b,kvs[i].1,kvs[i].2,I.fresh,rfl,Qc hi,hb,rfl⟩,he3,fun c hc=>?_⟩
  have e:=Qg.mp hc
  subst e
  rw[Zi hes.symm]
  exact(hf _ hc).1
 done:=by
  intro X hP hw hK hc i pins s σ H E I hf st hg
  subst hP hw hK
  obtain⟨ok,ov,he⟩:=st
  obtain⟨f0,f1,f2,f3,f4,f5⟩:=hf it (by simp)
  obtain⟨hfz,hi⟩:=hg
  obtain⟨ho,hsz,_⟩:=I.dictFT hfz hd
  rw[← hsz]at he
  exact ZiC (I.ok.hd hc) he ho hd (by omega) fun h' eb=>⟨rfl,I.turned (t':=s.toks) (fun b o hb e=>eb b o hb e) f0 f1 f3 f4 f5⟩
 self:=fun _ _ _ _ _ st h=>by obtain⟨ok,ov,he⟩:=st;exact PySem.W.kcp_self he h
def Zlf(tl:TE):TI:=fun σ H R=>tl σ H fun x H1=>∃d kvs,x=.ref d∧H1 d=some (.dT kvs)∧∀o,R (ZkX d o kvs) (upd H1 d (.frz o (.dT kvs)))
theorem ZiV{X:Cx}{elts:List Expr}{x1:Nat}{tpos:Pos}{o:Expr}{to:TE}{apos cpos:Pos}(ho:PE X o to)(hbase:attributeBase o "items" X.env (eval o X.env)=eval o X.env:=by rfl)(hline:(apos.endLine == cpos.line)=true:=by rfl) :
  PI X (.Tuple elts x1 tpos) (.Call (.Attribute o "items" apos) [] [] cpos) (Zlf to):=by
 intro pins s σ H R I h
 refine wpAny_Call_method0_late hbase hline (thn (ho pins s σ H _ I h) ?_)
 rintro v s1 ⟨x,H1,I1,r1,q1⟩
 obtain⟨d,kvs,e,hd,q⟩:=q1
 subst e
 cases r1
 obtain⟨z,lo,xs,rel,ob,es,ep,h1,h2,h3,h4,h5⟩:=(show Zah X.prog X.w H1 s1.heap d (.dT kvs) from I1.hok d _ hd)
 have hlen:es.size=kvs.length:=by rw[← QH,h4,Qa,ZcV rel]
 have I2:=I1.freeze hd True.intro h1
 have ty:s1.TypeIs (.ref d) "dict":=⟨ob,h1,h2.1⟩
 refine⟨"dict", "dict.items",PySem.F.plainAttrs_dict,PySem.F.slot_dict_items,PySem.F.type_dict_items,ty,fun a e=>?_,?_⟩
 ·cases e;exact⟨ob,h1,h2.2.1⟩
 refine Calls.callWith_builtin rfl (PySem.evalArgs_none ?_)
 refine wpAny_call_entry PySem.F.slot_dict_items ty PySem.F.entry_dict_items ?_ (PySem.F.args_dict_items_1 _)
 unfold Builtin.«dict.items»
 refine wpAny_bind ?_
 unfold Builtin.Dict.noArgs
 refine wpAny_bind (wpAny_notOrdered_dict ty ?_)
 show wpAny _ _ (pure d) _ _ s1
 refine wpAny_pure ?_
 show wpAny _ _ (Builtin.Dict.showsAll d >>= _) _ _ s1
 unfold Builtin.Dict.showsAll
 rw[if_neg (by rw[lo];exact Qj)]
 refine wpAny_bind (wpAny_pure (wpAny_bind (wpAny_newObj_type (wpAny_pure ⟨_,rfl,?_⟩))))
 have hov:(s1.heap.push { cls:=.type "dict_items",data:=.fields #[.ref d] }).get? s1.heap.objs.size=some { cls:=.type "dict_items",data:=.fields #[.ref d] }:=Qp _ rfl
 have hv:(s1.heap.push { cls:=.type "dict_items",data:=.fields #[.ref d] }).IsItemsView s1.heap.objs.size d:=⟨_,hov,rfl,rfl⟩
 have h1':(s1.heap.push { cls:=.type "dict_items",data:=.fields #[.ref d] }).get? d=some ob:=Qb _ h1
 have hown:Builtin.Dict_items.ownsTuple "dict_itemiterator" = true:=by decide
 have I3:Inv X pins σ (upd H1 d (.frz ob (.dT kvs))) { s1 with heap:=s1.heap.push { cls:=.type "dict_items",data:=.fields #[.ref d] } }:=I2.kept (t':=s1.toks) fun b o e=>Qb _ e
 refine wpAny_pyIter_slot (s:={ s1 with heap:=s1.heap.push { cls:=.type "dict_items",data:=.fields #[.ref d] } }) hv.typeIs PySem.F.slot_dict_items_iter (wpAny_call_entry PySem.F.slot_dict_items_iter hv.typeIs PySem.F.entry_dict_items_iter ?_ (PySem.F.args_dict_items_iter_1 _))
 unfold Builtin.«dict_items.__iter__»
 refine wpAny_bind (wpAny_pure (wpAny_bind ?_))
 unfold Builtin.Dict_items.dictOf
 refine wpAny_bind (wpAny_field hov rfl (x:=.ref d) rfl (wpAny_pure (wpAny_bind ?_)))
 unfold Builtin.Dict_items.newIterator
 refine wpAny_bind (wpAny_dictEntries h1' h3 (wpAny_bind (wpAny_dictEpoch h1' h3 ?_)))
 simp only[hown,if_true]
 refine wpAny_newObj_type (wpAny_pure ⟨_,rfl, "dict_itemiterator",_,⟨_,Qp _ rfl,rfl⟩,PySem.F.slot_dict_itemiterator_next.lookup,?_⟩)
  (by simp only[sizeOk,Builtin.Dict_items.ownedTupleFields,List.size_toArray,List.length_append,List.length_cons,List.length_nil,sizeLine_eq];omega)
 refine⟨_,[_],_,ZkX d ob kvs,upd H1 d (.frz ob (.dT kvs)),rfl,I3.kept (t':=s1.toks) fun b o e=>Qb _ e,Zge h3,⟨.none,.none,?_⟩,fun b hb=>?_,q ob⟩
 ·rw[← hlen];exact Qp _ rfl
 ·rw[Qg.mp hb]
  exact I3.fpOk (Qd _) (I3.hok.fresh (Qd _))
theorem ZhC{K:PySem.W.Frag}{a:Addr}{xs:List V}{k:Nat}{D:Addr}{σ:St}{H1:Hp}{g:TG}{tk te:TE}{Q:VK}(Pv:Nat→List (List Key×V)→St→Hp→Prop)(h0:Pv 0 [] (σ++List.replicate k none) (upd H1 D (.dT [])))
  (hl:∀i ys σ H,Pv i ys σ H→SqL K H a xs)
  (hs:∀i x ys σ H,xs[i]? = some x→Pv i ys σ H→g x σ H fun σ4 H4=>tk σ4 H4 fun kv H6=>te σ4 H6 fun y H7=>∃ (b:Addr) (ks:List Key),kv=.ref b∧H7 D=some (.dT ys)∧H7 b=some (.tup (ks.map kV))∧Z3 ys ks=none∧ys.length<sizeLine∧Pv (i+1) (ys++[(ks,y)]) σ4 (upd H7 D (.dT (ys++[(ks,y)]))))
  (hd:∀ys σ H,Pv xs.length ys σ H→Q (.ref D) H):Zhz (Itl K a) D k σ H1 g ZdV tk te Q:=by
 refine⟨fun i m ys σ H=>m=xs.length-i∧i≤xs.length∧Pv i ys σ H,⟨xs.length,by simp,Qm _,h0⟩,?_⟩
 rintro i m ys σ H ⟨rfl,hi,p⟩
 have q1:=hl i ys σ H p
 by_cases hlt:i<xs.length
 ·refine .inr ⟨⟨xs,xs[i],q1,Qc hlt⟩,Pv (i+1),fun ys' σ' H' p'=>⟨xs.length-(i+1),by omega,rfl,hlt,p'⟩,fun x H' y=>?_⟩
  obtain⟨rfl,e⟩:=y
  simp only[ZdV,↓reduceIte]
  exact hs i x ys σ _ (e xs q1) p
 ·have e:i=xs.length:=by omega
  exact .inl ⟨⟨xs,q1,by omega⟩,hd ys σ H (e ▸ p)⟩
theorem Zgt{d:Addr}{o:Obj}{kvs:List (List Key×V)}{k:Nat}{D:Addr}{σ:St}{H1:Hp}{g:TG}{tk te:TE}{Q:VK}(Pv:Nat→List (List Key×V)→St→Hp→Prop)(h0:Pv 0 [] (σ++List.replicate k none) (upd H1 D (.dT [])))
  (hl:∀i ys σ H,Pv i ys σ H→H d=some (.frz o (.dT kvs)))
  (hs:∀i ks x ys σ H p b,kvs[i]? = some (ks,x)→Pv i ys σ H→H p=none→H b=some (.tup (ks.map kV))→g (.ref p) σ (upd H p (.tup [.ref b,x])) fun σ4 H4=>tk σ4 H4 fun kv H6=>te σ4 H6 fun y H7=>∃ (b:Addr) (ks:List Key),kv=.ref b∧H7 D=some (.dT ys)∧H7 b=some (.tup (ks.map kV))∧Z3 ys ks=none∧ys.length<sizeLine∧Pv (i+1) (ys++[(ks,y)]) σ4 (upd H7 D (.dT (ys++[(ks,y)]))))
  (hd:∀ys σ H,Pv kvs.length ys σ H→Q (.ref D) H):Zhz (ZkX d o kvs) D k σ H1 g ZdV tk te Q:=by
 refine⟨fun i m ys σ H=>m=kvs.length-i∧i≤kvs.length∧Pv i ys σ H,⟨kvs.length,by simp,Qm _,h0⟩,?_⟩
 rintro i m ys σ H ⟨rfl,hi,p⟩
 have q1:=hl i ys σ H p
 by_cases hlt:i<kvs.length
 ·refine .inr ⟨⟨q1,hlt⟩,Pv (i+1),fun ys' σ' H' p'=>⟨kvs.length-(i+1),by omega,rfl,hlt,p'⟩,fun x H' y=>?_⟩
  obtain⟨r,b,ks,x',hr,rfl,e,hb,rfl⟩:=y
  simp only[ZdV,↓reduceIte]
  exact hs i ks x' ys σ H r b e p hr hb
 ·have e:i=kvs.length:=by omega
  exact .inl ⟨⟨q1,by omega⟩,hd ys σ H (e ▸ p)⟩
end L2
set_option maxHeartbeats 4000000
namespace L2
open PySem PySem.Spec PyProof.Rows
section
variable {prog:Program} {w:World} {A:Around} {E:Value→Shared→Prop} {s:Shared}
end
section
variable {X:Cx}
def Zmh(K:PySem.W.Frag):List V→Hp→VK→Prop:=fun xs H Q=>∃x d,xs=[x]∧DV K H x d∧d.canLay0=true∧d.depth≤64∧d.shown.length≤sizeLine∧d.showable=true∧Q (.str (ZnK d)) H
theorem Zjp(hg:X.A.guards=some [])(hu:X.A.units+64+30<cLine):Z8 X (.type "str") (Zmh X.K):=by
 intro pins s σ H xs us Q I r h
 obtain⟨x,d,rfl,hd,hcl,hdp,hsh,hs,q⟩:=h
 obtain⟨u,rfl,rx⟩:=ZbD r
 have ref:∀a,u=.ref a→ZnK d=d.shown→wpAny (model X.prog X.w) X.A (call (.type "str") [u]) (EP X pins σ Q) X.xe s:=fun a e1 e2=>by
  subst e1
  obtain⟨as,rd⟩:=I.reads hd rx
  rw[e2]at q
  exact callType_new F.called_str (by decide) (F.typeCall_str_1 _) (F.newCall_str_1 _) (fun obj=>F.args_object_init_2 obj _) F.entry_str_new
   (meets_str_new (v:=.ref a) (S:=fun A R s'=>s'=s∧A=X.A.in1∧∀h' u tk,(∀b o,s.heap.get? b=some o→h'.get? b=some o)→R (.ok (.ret (.str d.shown u))) { s with heap:=h',toks:=tk }) fun prog w A R s' hq=>by
    obtain⟨rfl,rfl,hq⟩:=hq
    exact strOf_of_reads rd hs (PyData.noDict_hsm (PyData.hasDict_of_canLay d hcl)) hg (by show X.A.units+1+1+(d.depth+1)<cLine;omega) (fun _ _ e=>e) (fun h' u tk hk=>hq h' u tk hk) hsh)
   ⟨rfl,rfl,fun h' u tk hk=>⟨typeIs_str _ _ _,.str _,H,I.kept hk,⟨_,rfl⟩,q⟩⟩
 cases hd with
 | non=>cases rx;exact PySem.P.str_of_none ⟨.str _,H,I.tok _,⟨_,rfl⟩,q⟩
 | bl b=>cases rx;exact PySem.P.str_of_bool ⟨.str _,H,I.tok _,⟨_,rfl⟩,q⟩
 | int i =>
  obtain⟨t,rfl⟩:=rx
  exact PySem.P.str_of_int (of_decide_eq_true hs) ⟨.str _,H,I.tok _,⟨_,rfl⟩,q⟩
 | str z =>
  obtain⟨t,rfl⟩:=rx
  exact PySem.P.str_of_str ⟨.str _,H,I,⟨_,rfl⟩,q⟩
 | lst h1 h2=>cases rx;exact ref _ rfl rfl
 | tup h1 h2=>cases rx;exact ref _ rfl rfl
theorem Znr(K:PySem.W.Frag){k:Nat}(hr:Za7 k X.A)(h:X.K=K:=by rfl):Z8 X (.type "str") (Zmh K):=by
 subst h
 exact Zjp hr.gd (by have:=hr.un;omega)
end
end L2
set_option maxHeartbeats 4000000
namespace L2
open PySem PySem.Spec PyProof.Rows
section
variable {prog:Program} {w:World} {A:Around} {E:Value→Shared→Prop} {s:Shared} {it d:Addr} {i ep:Nat} {es:Array DictEntry} {od:Obj}
theorem Zjt{Q:Option Value→Shared→Prop}(hit:s.heap.IsKeyIter it d i es.size ep)(hod:s.heap.get? d=some od)(hdd:od.data=.dict es ep)(hlt:i<es.size)
  (hQ:∀h',h'.IsKeyIter it d (i+1) es.size ep→Heap.SameBut it s.heap h'→Q (some es[i].key) { s with heap:=h' }):wpAny (model prog w) A (pyNext (.ref it)) Q E s:=by
 obtain⟨o,ho,hc,hd⟩:=id hit
 have ty:=hit.typeIs
 have hown:Builtin.Dict_items.ownsTuple "dict_keyiterator" = false:=by decide
 unfold pyNext
 refine wpAny_bind (wpAny_attempt (wpAny_callSpecial?_slot (name:=Str.ofString "__next__") ty Q4 (wpAny_call_entry Q4 ty PySem.F.entry_dict_keyiterator_next ?_ (PySem.F.args_dict_keyiterator_next_1 _))))
 refine wpAny_bind (wpAny_pure (wpAny_bind (wpAny_bind ?_)))
 first|refine wpAny_bind (wpAny_typeNameOfWhole_keyiter ty (wpAny_pure ?_))|refine wpAny_bind (wpAny_typeNameOf_keyiter ty (wpAny_pure ?_))
 refine wpAny_bind (wpAny_fieldsOf ho hd ?_)
 simp only[hown,if_false,Bool.false_eq_true]
 show wpAny _ _ (if (Value.ref d == Value.none)=true then _ else _) _ _ _
 rw[if_neg (show ¬ ((Value.ref d == Value.none)=true) from Qj)]
 refine wpAny_bind (wpAny_pure (wpAny_bind (wpAny_dictEntries hod hdd ?_)))
 rw[if_neg (by simp)]
 refine wpAny_bind (wpAny_pure (wpAny_bind (wpAny_dictEpoch hod hdd ?_)))
 rw[if_neg (by simp)]
 refine wpAny_pure ?_
 simp only[show ¬ ((i:Int)<0) from by omega,if_false,Int.toNat_natCast,Array.getElem?_eq_getElem hlt]
 refine wpAny_bind ?_
 first|refine wpAny_bind (wpAny_typeNameOfWhole_keyiter ty (wpAny_pure ?_))|refine wpAny_bind (wpAny_typeNameOf_keyiter ty (wpAny_pure ?_))
 refine wpAny_bind (wpAny_isOneOf_keyiter ty ?_)
 show wpAny _ _ (setField (.ref it) 1 (rawInt ((i:Int)+1)) >>= _) _ _ s
 refine wpAny_bind (wpAny_setField ho hd (by simp) ?_)
 have hi':(s.heap.update it (Obj.mapFields (·.setIfInBounds 1 (rawInt ((i:Int)+1))))).IsKeyIter it d (i+1) es.size ep:=⟨_,Heap.get?_update_self _ ho (Obj.isFreed_of_fields (Obj.data_mapFields hd _)),(Obj.cls_mapFields ..).trans hc,by rw[Obj.data_mapFields hd];simp[rawInt]⟩
 refine wpAny_bind (wpAny_holding (wpAny_bind (wpAny_isOneOf_keyiter (s:={ s with heap:=s.heap.update it (Obj.mapFields (·.setIfInBounds 1 (rawInt ((i:Int)+1)))) }) hi'.typeIs ?_)))
 show wpAny _ _ (pure es[i].key) _ _ _
 exact wpAny_pure (wpAny_pure ⟨_,rfl,wpAny_pure (hQ _ hi' (Qag ..))⟩)
theorem ZhA{Q:Option Value→Shared→Prop}(hh:A.handled=none)(hit:s.heap.IsKeyIter it d i es.size ep)(hod:s.heap.get? d=some od)(hdd:od.data=.dict es ep)(hge:es.size≤i)
  (hQ:∀h',Heap.ExtBut it s.heap h'→Q none { s with heap:=h' }):wpAny (model prog w) A (pyNext (.ref it)) Q E s:=by
 obtain⟨o,ho,hc,hd⟩:=id hit
 have ty:=hit.typeIs
 have hown:Builtin.Dict_items.ownsTuple "dict_keyiterator" = false:=by decide
 unfold pyNext
 refine wpAny_bind (wpAny_attempt (wpAny_callSpecial?_slot (name:=Str.ofString "__next__") ty Q4 (wpAny_call_entry Q4 ty PySem.F.entry_dict_keyiterator_next ?_ (PySem.F.args_dict_keyiterator_next_1 _))))
 refine wpAny_bind (wpAny_pure (wpAny_bind (wpAny_bind ?_)))
 first|refine wpAny_bind (wpAny_typeNameOfWhole_keyiter ty (wpAny_pure ?_))|refine wpAny_bind (wpAny_typeNameOf_keyiter ty (wpAny_pure ?_))
 refine wpAny_bind (wpAny_fieldsOf ho hd ?_)
 simp only[hown,if_false,Bool.false_eq_true]
 show wpAny _ _ (if (Value.ref d == Value.none)=true then _ else _) _ _ s
 rw[if_neg (show ¬ ((Value.ref d == Value.none)=true) from Qj)]
 refine wpAny_bind (wpAny_pure (wpAny_bind (wpAny_dictEntries hod hdd ?_)))
 rw[if_neg (by simp)]
 refine wpAny_bind (wpAny_pure (wpAny_bind (wpAny_dictEpoch hod hdd ?_)))
 rw[if_neg (by simp)]
 refine wpAny_pure ?_
 simp only[show ¬ ((i:Int)<0) from by omega,if_false,Int.toNat_natCast,Array.getElem?_eq_none hge]
 refine wpAny_bind ?_
 first|refine wpAny_bind (wpAny_typeNameOfWhole_keyiter ty (wpAny_pure ?_))|refine wpAny_bind (wpAny_typeNameOf_keyiter ty (wpAny_pure ?_))
 show wpAny _ _ (setField (.ref it) 0 .none >>= _) _ _ s
 refine wpAny_bind (wpAny_setField ho hd (by simp) ?_)
 show wpAny _ _ (newExc (.type "StopIteration") [] >>= _) _ _ _
 refine wpAny_bind ?_
 simp only[newExc,newTuple]
 refine wpAny_bind (wpAny_newObj_type ?_ (by size_fits))
 refine wpAny_bind (m:=firstArgMember _ _) (wpAny_of_eq (a:=Value.none) (by first|rfl|(simp only[firstArgMember];rfl)) ?_)
 refine wpAny_newObj_type ?_ (by size_fits)
 simp only[raiseNew]
 refine wpAny_bind (wpAny_handled ?_)
 rw[show A.in1.handled=none from hh]
 refine wpAny_bind (wpAny_pure (wpAny_throw ?_))
 refine wpAny_bind (wpAny_isInstance (T := "StopIteration") (b:=true) ⟨_,Qp _ rfl,rfl⟩ isSubtype_stop ?_)
 exact wpAny_pure (hQ _ (((Qag ..).extBut.push _).push _))
end
def Zjd(d:Addr)(o:Obj)(kvs:List (List Key×V)):It :=
 ⟨fun i H=>H d=some (.frz o (.dT kvs))∧i<kvs.length,fun i H v H'=>H'=H∧∃b ks x,kvs[i]? = some (ks,x)∧v=.ref b∧H b=some (.tup (ks.map kV)),fun i H=>H d=some (.frz o (.dT kvs))∧kvs.length≤i⟩
theorem Zhx{P:Program}{w:World}{K:PySem.W.Frag}{tg:Expr}{d it:Addr}{o:Obj}{kvs:List (List Key×V)}{es:Array DictEntry}{ep:Nat}(hd:o.data=.dict es ep):Zhc P w K tg (Zjd d o kvs) [it] it (fun i h=>h.IsKeyIter it d i kvs.length ep) where
 mem:=by simp
 obj:=fun i h st b hb=>by
  rw[Qg.mp hb]
  obtain⟨o,e,c,d⟩:=st
  exact⟨o,e,fun v z=>by rw[d]at z;cases z⟩
 keep:=fun i h h' st k=>by
  obtain⟨o,e,r⟩:=st
  exact⟨o,k it (by simp) o e,r⟩
 item:=by
  intro X hP hw hK hc i pins s σ H E I hf st hg
  subst hP hw hK
  obtain⟨f0,f1,f2,f3,f4,f5⟩:=hf it (by simp)
  obtain⟨hfz,hi⟩:=hg
  obtain⟨ho,hsz,hat⟩:=I.dictFT hfz hd
  obtain⟨b,hb,ek,ru⟩:=hat i kvs[i].1 kvs[i].2 (by omega) (Qc hi)
  refine Zjt (by rw[hsz];exact st) ho hd (by omega) fun h' st' sb=>?_
  rw[hsz]at st'
  have I1:Inv X pins σ H { s with heap:=h' }:=I.turned (t':=s.toks) (fun b o hb e=>(sb.2 b hb).trans e) f0 f1 f3 f4 f5
  obtain⟨o1,e1,c1,d1⟩:=id st'
  exact⟨_,rfl,ZhO (s:={ s with heap:=h' }) e1 c1 d1 (by decide) ⟨.ref b,H,I1,by rw[ek];rfl,⟨rfl,b,kvs[i].1,kvs[i].2,Qc hi,rfl,hb⟩,st',fun b hb=>(hf b hb).1⟩⟩
 done:=by
  intro X hP hw hK hc i pins s σ H E I hf st hg
  subst hP hw hK
  obtain⟨f0,f1,f2,f3,f4,f5⟩:=hf it (by simp)
  obtain⟨hfz,hi⟩:=hg
  obtain⟨ho,hsz,_⟩:=I.dictFT hfz hd
  exact ZhA (I.ok.hd hc) (by rw[hsz];exact st) ho hd (by omega) fun h' eb=>⟨rfl,I.turned (t':=s.toks) (fun b o hb e=>eb b o hb e) f0 f1 f3 f4 f5⟩
 self:=fun _ _ _ _ _ st h=>wpAny_pyIter_keyiter st h
def ZmK(tl:TE):TI:=fun σ H R=>tl σ H fun x H1=>∃d kvs,x=.ref d∧H1 d=some (.dT kvs)∧∀o,R (Zjd d o kvs) (upd H1 d (.frz o (.dT kvs)))
theorem Zkr{X:Cx}{tg l:Expr}{tl:TE}(hl:PE X l tl):PI X tg l (ZmK tl):=by
 intro pins s σ H R I h
 refine thn (hl pins s σ H _ I h) ?_
 rintro v s1 ⟨x,H1,I1,r1,q1⟩
 obtain⟨d,kvs,e,hd,q⟩:=q1
 subst e
 cases r1
 obtain⟨z,lo,xs,rel,ob,es,ep,h1,h2,h3,h4,h5⟩:=(show Zah X.prog X.w H1 s1.heap d (.dT kvs) from I1.hok d _ hd)
 have hlen:es.size=kvs.length:=by rw[← QH,h4,Qa,ZcV rel]
 have I2:=I1.freeze hd True.intro h1
 have ty:s1.TypeIs (.ref d) "dict":=⟨ob,h1,h2.1⟩
 refine wpAny_pyIter_slot ty PySem.F.slot_dict_iter (wpAny_call_entry PySem.F.slot_dict_iter ty PySem.F.entry_dict_iter ?_ (PySem.F.args_dict_iter_1 _))
 unfold Builtin.«dict.__iter__»
 refine wpAny_bind ?_
 unfold Builtin.Dict.dictSlotNone
 refine wpAny_bind (wpAny_notOrdered_dict ty ?_)
 show wpAny _ _ (pure (Value.ref d)) _ _ s1
 refine wpAny_pure ?_
 show wpAny _ _ (Builtin.Dict.showsAll d >>= _) _ _ s1
 unfold Builtin.Dict.showsAll
 rw[if_neg (by rw[lo];exact Qj)]
 refine wpAny_bind (wpAny_pure (wpAny_bind (wpAny_dictEntries h1 h3 (wpAny_bind (wpAny_dictEpoch h1 h3 ?_)))))
 refine wpAny_bind (wpAny_newObj_type (wpAny_pure ⟨_,rfl, "dict_keyiterator",_,⟨_,Qp _ rfl,rfl⟩,PySem.F.slot_dict_keyiterator_next.lookup,?_⟩))
 refine⟨_,[_],_,Zjd d ob kvs,upd H1 d (.frz ob (.dT kvs)),rfl,I2.kept (t':=s1.toks) fun b o e=>Qb _ e,Zhx h3,?_,fun b hb=>?_,q ob⟩
 ·rw[← hlen];exact⟨_,Qp _ rfl,rfl,by simp[rawInt]⟩
 ·rw[Qg.mp hb]
  exact I2.fpOk (Qd _) (I2.hok.fresh (Qd _))
theorem ZiL{d:Addr}{o:Obj}{kvs:List (List Key×V)}{g:TG}{tb:TS}{D:ZfK}{σ:St}{H:Hp}(Pv:Nat→St→Hp→Prop)(h0:Pv 0 σ H)(hl:∀i σ H,Pv i σ H→H d=some (.frz o (.dT kvs)))
  (hs:∀i ks x σ H b,kvs[i]? = some (ks,x)→Pv i σ H→H b=some (.tup (ks.map kV))→g (.ref b) σ H fun σ2 H2=>tb { D with nx:=Pv (i+1),ct:=Pv (i+1),bk:=D.nx } σ2 H2) (hd:∀σ H,Pv kvs.length σ H→D.nx σ H) :
  ∃W:Nat→Nat→St→Hp→Prop,(∃m,W 0 m σ H)∧∀i m σ H,W i m σ H →
   ((Zjd d o kvs).stop i H∧D.nx σ H)∨((Zjd d o kvs).go i H∧∃N:St→Hp→Prop,(∀σ' H',N σ' H'→∃m',m'<m∧W (i+1) m' σ' H')∧∀x H',(Zjd d o kvs).yld i H x H'→g x σ H' fun σ2 H2=>tb { D with nx:=N,ct:=N,bk:=D.nx } σ2 H2):=by
 refine⟨fun i m σ H=>m=kvs.length-i∧i≤kvs.length∧Pv i σ H,⟨kvs.length,by simp,Qm _,h0⟩,?_⟩
 rintro i m σ H ⟨rfl,hi,p⟩
 have q1:=hl i σ H p
 by_cases hlt:i<kvs.length
 ·refine .inr ⟨⟨q1,hlt⟩,Pv (i+1),fun σ' H' p'=>⟨kvs.length-(i+1),by omega,rfl,hlt,p'⟩,fun x H' y=>?_⟩
  obtain⟨rfl,b,ks,x',e,rfl,hb⟩:=y
  exact hs i ks x' σ _ b e p hb
 ·have e:i=kvs.length:=by omega
  exact .inl ⟨⟨q1,by omega⟩,hd σ H (e ▸ p)⟩
section
variable {X:Cx}
def Zmk(K:PySem.W.Frag):List V→Hp→VK→Prop:=fun vs H Q=>∃ (p:Addr) (ns:List Int),vs=[.ref p]∧SqL K H p (ns.map V.int)∧Q (.int ns.sum) H
theorem Zjn(hc:X.calm=true):Z8 X (.builtin "sum") (Zmk X.K):=by
 intro pins s σ H vs us Q I r h
 obtain⟨p,ns,rfl,hq,q⟩:=h
 obtain⟨u,rfl,rx⟩:=ZbD r
 cases rx
 obtain⟨its,rv,pl,_⟩:=I.list hq
 have hi:=Zcp rv
 obtain⟨xs,e⟩:=hi.allInts.items
 have hns:ns=xs.toList.map (·.1):=by rw[← hi.numsOf,← nums_intItems,← e]
 have hsz:xs.size=ns.length:=by rw[hns,Qa,QH]
 have hnum:numAt xs=fun j=>ns.getD j 0:=by funext j;rw[numAt_eq,hns]
 have hl:=pl.isList
 rw[e]at hl
 refine sum_intListG (I.ok.hd hc) hl fun h' tk t' hk=>⟨.int _,H,I.kept hk,⟨t',rfl⟩,?_⟩
 rw[hnum,hsz,ZcE ns ns.length (Qd _),Qn (Qd _)]
 exact q
theorem Zot(K:PySem.W.Frag)(hc:X.calm=true:=by rfl)(h:X.K=K:=by rfl):Z8 X (.builtin "sum") (Zmk K):=by subst h;exact Zjn hc
end
end L2
set_option maxHeartbeats 4000000
namespace My
open PySem L2 PyProof.Rows
abbrev Ztl:=@List.tail Stmt
abbrev Zt2(x:List Stmt):=Ztl (Ztl x)
abbrev Zt4(x:List Stmt):=Zt2 (Zt2 x)
abbrev Zt8(x:List Stmt):=Zt4 (Zt4 x)
abbrev Zt16(x:List Stmt):=Zt8 (Zt8 x)
abbrev Zt32(x:List Stmt):=Zt16 (Zt16 x)
local macro_rules|`(‹$i:num›)=>`(@pv _ $i _ _ (by rfl) (Or.inl rfl) (by decide) (by decide))
local macro_rules|`(tactic|trivial)=>`(tactic|first|exact .inl rfl|exact .inr rfl|decide|exact Nat.le_refl _|omega)
local macro_rules
|`(#[Xns,$a,$b,$c])=>`(PySem.W.nsIn $a mainGlobals $b=some (some (.ref $c)))
|`(#[Xlk,$z,$a,$b,$c,$d,$e,$f,$g,$h,$i,$j,$k,$l,$m])=>`(($z).lookup $a=some ⟨$b,$c,.func (PySem.W.fnOf $d $e (Zs $f) (Zr $f) (Zh $f) .none $g $h $i $j $k $l),$m⟩)
|`(#[Xci,$a,$b,$c])=>`(PySem.W.codeIn $a $b $c=true)
|`(#[Xki,$a,$b])=>`(PySem.W.keepIn $a (.ref $b)=true)
|`(#[Zf,$a,$b])=>`(@Zf _ _ _ _ _ $a $b)
|`(#[Zq,$a,$b,$c,$d])=>`(@Zq _ _ $a _ _ _ _ $b rfl $c $d (by rfl) (by trivial))
|`(#[Zm,$a,$b,$c])=>`(@Zm _ _ _ _ _ _ _ _ $a $b $c)
|`(#[Ze])=>`(@Ze _ _ _ _)
|`(#[Zj,$a])=>`(@Zj _ _ _ $a)
|`(#[Zo,$a])=>`(@Zo _ _ _ _ $a)
|`(#[Zy,$a,$b,$c,$d])=>`(@Zy _ _ _ _ _ _ _ _ $a $b $c $d)
|`(#[Zk,$a,$b,$c,$d,$e])=>`(@Zk _ _ _ _ _ _ _ _ _ $a $b $c $d $e (by decide) (by decide) (by rfl) (by rfl))
|`(#[Za,$a,$b])=>`(@Za _ _ _ _ _ $a $b (by rfl))
|`(#[Zd])=>`(@Zd _)
|`(#[ZJ,$a,$b,$c])=>`(@ZJ _ _ _ _ _ _ _ $a $b $c (fun _ _=>rfl))
|`(#[ZH,$a])=>`(@ZH _ _ _ _ $a)
|`(#[ZR,$a,$b,$c,$d,$e])=>`(@ZR _ _ _ _ _ _ _ _ _ $a $b $c $d $e (by decide) (by decide) (by rfl) (by rfl))
|`(#[Zcm,$a,$b,$c,$d])=>`(@Zcm _ _ _ _ _ _ _ _ $a $b $c $d)
|`(#[Zb8,$a,$b])=>`(@Zb8 _ _ _ _ _ _ $a $b (by rfl) (by rfl) (by rfl))
|`(#[Z0,$a,$b,$c])=>`(@Z0 _ _ _ _ _ _ _ _ $a $b $c)
|`(#[ZK])=>`(@ZK _)
|`(#[Zu,$a,$b,$c,$d])=>`(@Zu _ _ _ _ _ _ _ _ _ _ _ $a $b $c (by trivial) $d (by decide) (by rfl) (by rfl))
|`(#[Zdb,$a,$b])=>`(@Zdb _ _ _ _ _ _ _ $a $b)
|`(#[Zbg,$a,$b,$c])=>`(@Zbg _ _ _ _ $a $b $c (by decide) (by decide))
|`(#[neD,$a,$b])=>`(@neD _ $a _ $b (by rfl))
|`(#[Zak,$a])=>`(@Zak _ _ _ $a (by intro _;rfl))
|`(#[Zbk,$a])=>`(@Zbk _ _ _ _ $a (by rfl))
|`(#[ZcX,$a,$b,$c,$d,$e,$f])=>`(@ZcX _ _ _ _ _ _ _ _ _ _ _ _ $a $b $c $d $e $f (by rfl) (by rfl) (by rfl) (by rfl) (by rfl))
|`(#[ZL])=>`(@ZL _)
|`(#[Zz,$a])=>`(@Zz _ _ _ $a)
|`(#[ZeB,$a,$b])=>`(@ZeB _ _ _ _ _ _ $a $b)
|`(#[ZaD,$a,$b,$c,$d,$e])=>`(@ZaD _ _ _ _ _ _ _ _ _ _ _ _ _ _ $a rfl rfl rfl $b $c $d $e (by intro _;rfl))
|`(#[iL,$a,$b])=>`(@iL _ $a _ _ _ $b (by rfl))
|`(#[cg,$a,$b])=>`(@cg _ _ _ _ _ _ _ _ _ _ _ $a $b rfl (by ac_rfl) (by rfl))
|`(#[cv,$a,$b])=>`(@cv _ _ _ _ _ _ _ _ _ _ _ $a $b rfl (by ac_rfl) (by rfl) (by decide) (by decide))
|`(#[cw,$a,$b])=>`(@cw _ _ _ _ _ _ _ _ _ _ _ $a $b rfl (by ac_rfl) (by rfl) (by decide) (by decide))
|`(#[Zx,$a])=>`(@Zx _ _ _ _ _ $a)
|`(#[ZaJ,$a,$b,$c,$d])=>`(@ZaJ _ _ _ _ _ _ _ _ $a rfl $b $c $d (by intro _;rfl))
|`(#[ZB,$a,$b,$c])=>`(@ZB _ _ $a _ $b rfl $c (by trivial))
|`(#[gT,$a,$b,$c])=>`(@gT _ $a _ _ _ $b _ $c (by rfl) (by rfl) (by rfl) (by rfl))
|`(#[ZA,$a,$b])=>`(@ZA _ _ _ _ _ $a $b (by rfl))
|`(#[ZF,$a,$b,$c,$d])=>`(@ZF _ _ _ _ _ _ _ _ _ _ $a $b $c $d)
|`(#[Zbq,$a,$b])=>`(@Zbq _ _ _ _ _ _ rfl $a $b (by rfl))
|`(#[ZaQ,$a,$b,$c])=>`(@ZaQ _ _ _ _ _ _ _ $a $b $c (by rfl) (by rfl))
|`(#[pv,$a,$b])=>`(@pv _ $a _ _ (by rfl) $b (by decide) (by decide))
|`(#[ZcN,$a,$b])=>`(@ZcN _ _ _ _ _ _ _ $a $b)
|`(#[Zcv,$a])=>`(@Zcv _ _ _ _ $a)
|`(#[Zag])=>`(@Zag _ _ _ _)
|`(#[Za9,$a])=>`(@Za9 _ _ _ _ $a)
def hdS:List Stmt→Stmt
 | a::_=>a
 | []=>.Pass ⟨0,0,0,0⟩
abbrev ZX:List Stmt:=PySem.Challenge.pw_mergetree_k43_near_ones_shown.main.body
abbrev Zbc:Stmt:=hdS (Ztl ZX)
abbrev Zbi:Stmt:=hdS (Zt2 ZX)
abbrev ZaZ:Stmt:=hdS (Zt4 ZX)
abbrev ZbS:Stmt:=hdS (Zt4 (Ztl ZX))
abbrev Zap:Stmt:=hdS (Zt4 (Zt2 ZX))
abbrev Zax:Stmt:=hdS (Zt8 ZX)
abbrev ZbT:Stmt:=hdS (Zt8 (Ztl ZX))
abbrev Zay:Stmt:=hdS (Zt8 (Zt2 ZX))
abbrev Zae:Stmt:=hdS (Zt8 (Zt2 (Ztl ZX)))
abbrev Zav:Stmt:=hdS (Zt8 (Zt4 ZX))
abbrev ZaM:Stmt:=hdS (Zt8 (Zt4 (Ztl ZX)))
abbrev Za0:Stmt:=hdS (Zt8 (Zt4 (Zt2 ZX)))
abbrev Zbd:Stmt:=hdS (Zt16 ZX)
abbrev Zaz:Stmt:=hdS (Zt16 (Ztl ZX))
abbrev Zau:Stmt:=hdS (Zt16 (Zt2 ZX))
abbrev ZaX:Stmt:=hdS (Zt16 (Zt2 (Ztl ZX)))
abbrev ZaK:Stmt:=hdS (Zt16 (Zt4 ZX))
abbrev ZaL:Stmt:=hdS (Zt16 (Zt4 (Ztl ZX)))
abbrev ZcT:Stmt:=hdS (Zt16 (Zt4 (Zt2 (Ztl ZX))))
abbrev Zca:Stmt:=hdS (Zt16 (Zt8 ZX))
abbrev Zcc:Stmt:=hdS (Zt16 (Zt8 (Ztl ZX)))
abbrev Zcf:Stmt:=hdS (Zt16 (Zt8 (Zt2 ZX)))
abbrev ZbM:Stmt:=hdS (Zt16 (Zt8 (Zt2 (Ztl ZX))))
abbrev Zcg:Stmt:=hdS (Zt16 (Zt8 (Zt4 ZX)))
abbrev ZbA:Stmt:=hdS (Zt16 (Zt8 (Zt4 (Ztl ZX))))
abbrev Zbf:Stmt:=hdS (Zt16 (Zt8 (Zt4 (Zt2 ZX))))
abbrev ZbK:Stmt:=hdS (Zt16 (Zt8 (Zt4 (Zt2 (Ztl ZX)))))
abbrev Za8:Stmt:=hdS (Zt32 ZX)
abbrev ZcW:Stmt:=hdS (Zt32 (Ztl ZX))
abbrev Zbx:Stmt:=hdS (Zt32 (Zt2 ZX))
abbrev Zao:Stmt:=hdS (Zt32 (Zt2 (Ztl ZX)))
abbrev Zbr:Stmt:=hdS (Zt32 (Zt4 ZX))
abbrev Za5:Stmt:=hdS (Zt32 (Zt4 (Ztl ZX)))
abbrev ZaI:Stmt:=hdS (Zt32 (Zt4 (Zt2 ZX)))
abbrev ZQ:Stmt:=hdS (Zt32 (Zt4 (Zt2 (Ztl ZX))))
abbrev Zbw:Stmt:=hdS (Zt32 (Zt8 ZX))
abbrev Zcw:Stmt:=hdS (Zt32 (Zt8 (Ztl ZX)))
theorem ZgV:Zw ["_law_cell", "_law_k", "_law_m"] ["_law_cell", "_law_k"] (Zh ZcT):=⟨rfl,rfl,rfl,by ac_rfl,rfl,by ac_rfl,by ac_rfl⟩
theorem ZeZ:Zw ["_law_script", "_law_k", "_law_cell"] ["_law_script", "_law_k"] (Zh Zca):=⟨rfl,rfl,rfl,by ac_rfl,rfl,by ac_rfl,by ac_rfl⟩
theorem Zfc:Zw ["_law_left_here", "_law_many_here", "_law_digit"] ["_law_left_here", "_law_many_here"] (Zh Zcc):=⟨rfl,rfl,rfl,by ac_rfl,rfl,by ac_rfl,by ac_rfl⟩
theorem Zdt:Zw ["thing"] ["thing"] (Zh Zbc):=⟨rfl,rfl,rfl,by ac_rfl,rfl,by ac_rfl,by ac_rfl⟩
theorem Zfr:Zw ["_law_left_here", "_law_way"] ["_law_left_here"] (Zh Zcf):=⟨rfl,rfl,rfl,by ac_rfl,rfl,by ac_rfl,by ac_rfl⟩
theorem Zi7:Zw ["_law_left_here"] ["_law_left_here"] (Zh Zcg):=⟨rfl,rfl,rfl,by ac_rfl,rfl,by ac_rfl,by ac_rfl⟩
theorem ZbG:Zw ["_law_tree", "_law_found", "_law_waiting", "_law_one"] ["_law_tree"] (Zh Zbf):=⟨rfl,rfl,rfl,by ac_rfl,rfl,by ac_rfl,by ac_rfl⟩
theorem Zcd:Zw ["_law_sizes_here", "_law_tree", "_law_total", "_law_waiting", "_law_one"] ["_law_sizes_here", "_law_tree"] (Zh ZbK):=⟨rfl,rfl,rfl,by ac_rfl,rfl,by ac_rfl,by ac_rfl⟩
theorem ZP:Zw ["sizes", "tree", "size", "cost", "part", "part_size", "part_cost"] ["sizes", "tree"] (Zh Zap):=⟨rfl,rfl,rfl,by ac_rfl,rfl,by ac_rfl,by ac_rfl⟩
theorem ZhD:Zw ["sizes", "tree"] ["sizes", "tree"] (Zh ZbS):=⟨rfl,rfl,rfl,by ac_rfl,rfl,by ac_rfl,by ac_rfl⟩
theorem Zb2:Zw ["_law_left_here", "_law_items", "_law_ways_here", "_law_many_here", "_law_at"] ["_law_left_here", "_law_items", "_law_ways_here"] (Zh ZbA):=⟨rfl,rfl,rfl,by ac_rfl,rfl,by ac_rfl,by ac_rfl⟩
theorem Zbn:Zw ["_law_left_here", "_law_most", "_law_many_here", "_law_way", "_law_found", "_law_k", "_law_some"] ["_law_left_here", "_law_most"] (Zh ZbM):=⟨rfl,rfl,rfl,by ac_rfl,rfl,by ac_rfl,by ac_rfl⟩
theorem Zcq:Zw ["groves", "begin", "end", "most", "price", "middle"] ["groves", "begin", "end", "most"] (Zh ZaL):=⟨rfl,rfl,rfl,by ac_rfl,rfl,by ac_rfl,by ac_rfl⟩
theorem Zb5:Zw ["groves", "sizes", "ways", "begin", "end", "price", "parts"] ["groves", "sizes", "ways", "begin", "end"] (Zh ZaX):=⟨rfl,rfl,rfl,by ac_rfl,rfl,by ac_rfl,by ac_rfl⟩
theorem ZcG:Zw ["groves", "alone", "begin", "end", "most", "cut"] ["groves", "alone", "begin", "end", "most"] (Zh ZaK):=⟨rfl,rfl,rfl,by ac_rfl,rfl,by ac_rfl,by ac_rfl⟩
theorem Z1:Zw ["sizes", "ways", "groves", "many", "begin", "end", "alone", "most"] ["sizes", "ways"] (Zh Zau):=⟨rfl,rfl,rfl,by ac_rfl,rfl,by ac_rfl,by ac_rfl⟩
theorem Zcr:Zw ["sizes", "ways", "price", "trees"] ["sizes", "ways"] (Zh Zbd):=⟨rfl,rfl,rfl,by ac_rfl,rfl,by ac_rfl,by ac_rfl⟩
theorem Zc2:Zw ["_law_begin", "_law_end", "_law_ways_here", "_law_found", "_law_place"] ["_law_begin", "_law_end", "_law_ways_here"] (Zh Zbr):=⟨rfl,rfl,rfl,by ac_rfl,rfl,by ac_rfl,by ac_rfl⟩
theorem Zb9:Zw ["sizes", "ways", "groves", "many"] ["sizes", "ways"] (Zh Zaz):=⟨rfl,rfl,rfl,by ac_rfl,rfl,by ac_rfl,by ac_rfl⟩
theorem ZbL:Zw ["_law_many_here", "_law_found", "_law_begin"] ["_law_many_here"] (Zh Zao):=⟨rfl,rfl,rfl,by ac_rfl,rfl,by ac_rfl,by ac_rfl⟩
theorem Zb7:Zw ["sizes", "ways", "thing", "found", "part"] ["sizes", "ways", "thing", "found"] (Zh ZaZ):=⟨rfl,rfl,rfl,by ac_rfl,rfl,by ac_rfl,by ac_rfl⟩
theorem ZbF:Zw ["_law_sizes_here", "_law_ways_here", "_law_thing", "_law_numbers", "_law_waiting", "_law_one"] ["_law_sizes_here", "_law_ways_here", "_law_thing"] (Zh Za8):=⟨rfl,rfl,rfl,by ac_rfl,rfl,by ac_rfl,by ac_rfl⟩
theorem ZeE:Zw ["_law_tree", "_law_path", "_law_new", "_law_at"] ["_law_tree", "_law_path", "_law_new"] (Zh ZcW):=⟨rfl,rfl,rfl,by ac_rfl,rfl,by ac_rfl,by ac_rfl⟩
theorem Zas:Zw ["_law_left_here", "_law_tree", "_law_many_here", "_law_path", "_law_part", "_law_odd", "_law_new", "_law_some"] ["_law_left_here", "_law_tree", "_law_many_here"] (Zh Zbx):=⟨rfl,rfl,rfl,by ac_rfl,rfl,by ac_rfl,by ac_rfl⟩
theorem Zd7:Zw ["many"] ["many"] (Zh Zae):=⟨rfl,rfl,rfl,by ac_rfl,rfl,by ac_rfl,by ac_rfl⟩
theorem Zfy:Zw ["priced", "cut", "begin", "end"] ["priced", "cut", "begin", "end"] (Zh ZaM):=⟨rfl,rfl,rfl,by ac_rfl,rfl,by ac_rfl,by ac_rfl⟩
theorem Zbt:Zw ["priced", "most", "cut", "parts"] ["priced", "most"] (Zh Zav):=⟨rfl,rfl,rfl,by ac_rfl,rfl,by ac_rfl,by ac_rfl⟩
theorem ZeU:Zw ["sizes", "priced", "cut", "begin", "end"] ["sizes", "priced", "cut", "begin", "end"] (Zh Za0):=⟨rfl,rfl,rfl,by ac_rfl,rfl,by ac_rfl,by ac_rfl⟩
theorem ZfP:Zw ["thing"] ["thing"] (Zh Zbi):=⟨rfl,rfl,rfl,by ac_rfl,rfl,by ac_rfl,by ac_rfl⟩
theorem Zc7:Zw ["many", "thing", "entry"] ["many", "thing"] (Zh Zay):=⟨rfl,rfl,rfl,by ac_rfl,rfl,by ac_rfl,by ac_rfl⟩
theorem Zey:Zw ["sizes", "ways", "thing", "found"] ["sizes", "ways", "thing"] (Zh ZbT):=⟨rfl,rfl,rfl,by ac_rfl,rfl,by ac_rfl,by ac_rfl⟩
theorem Zaw:Zw ["sizes", "ways", "tree", "prices", "priced", "cut", "begin", "end", "price"] ["sizes", "ways", "tree", "prices"] (Zh Zax):=⟨rfl,rfl,rfl,by ac_rfl,rfl,by ac_rfl,by ac_rfl⟩
theorem Zgv:Zw ["_law_prices", "_law_cuts_here", "_law_end"] ["_law_prices", "_law_cuts_here", "_law_end"] (Zh Za5):=⟨rfl,rfl,rfl,by ac_rfl,rfl,by ac_rfl,by ac_rfl⟩
theorem Za3:Zw ["_law_sizes_here", "_law_ways_here", "_law_tree", "_law_thing", "_law_row", "_law_prices", "_law_begin", "_law_end", "_law_own", "_law_cuts_here"] ["_law_sizes_here", "_law_ways_here", "_law_tree", "_law_thing"] (Zh ZaI):=⟨rfl,rfl,rfl,by ac_rfl,rfl,by ac_rfl,by ac_rfl⟩
theorem ZC:Zw ["_law_left_here", "_law_prices", "_law_at", "_law_begin", "_law_end", "_law_price", "_law_further", "_law_new", "_law_way", "_law_some"] ["_law_left_here", "_law_prices"] (Zh ZQ):=⟨rfl,rfl,rfl,by ac_rfl,rfl,by ac_rfl,by ac_rfl⟩
theorem Zbz:Zw ["_law_left_here", "_law_sizes_here", "_law_ways_here", "_law_cost_here", "_law_tree", "_law_prices", "_law_other", "_law_papers_here", "_law_raised", "_law_turn"] ["_law_left_here", "_law_sizes_here", "_law_ways_here", "_law_cost_here", "_law_tree", "_law_prices"] (Zh Zbw):=⟨rfl,rfl,rfl,by ac_rfl,rfl,by ac_rfl,by ac_rfl⟩
theorem ZbB:Zw ["_law_script", "_law_k", "_law_left_here", "_law_sizes_here", "_law_ways_here", "_law_cost_here", "_law_tree", "_law_prices", "_law_one", "_law_thing", "_law_kept", "_law_found"] ["_law_script"] (Zh Zcw):=⟨rfl,rfl,rfl,by ac_rfl,rfl,by ac_rfl,by ac_rfl⟩
abbrev zsc(l:List (Str×NameKind)):Scope:={ kind:=.function,names:=l,isGenerator:=false,isCoroutine:=false,more:=[] }
def Zl5:Scope:=zsc [(".0",.«local»),("_law_n",.«local»),("_law_sizes_here",.free)]
theorem Zlb:ZN ["_law_sizes_here", "_law_tree", "_law_total", "_law_waiting", "_law_one"] ["_law_sizes_here", "_law_tree", "_law_total", "_law_waiting", "_law_one", "_law_n"] (Zh ZbK) Zl5:=⟨rfl,rfl,by ac_rfl,by ac_rfl,by ac_rfl,by decide,by ac_rfl,by ac_rfl⟩
def Zk4:Scope:=zsc [(".0",.«local»),("middle",.«local»),("begin",.free),("end",.free),("groves",.free),("most",.free)]
theorem ZeO:ZN ["groves", "begin", "end", "most", "price", "middle"] ["groves", "begin", "end", "most", "price", "?middle", "middle"] (Zh ZaL) Zk4:=⟨rfl,rfl,by ac_rfl,by ac_rfl,by ac_rfl,by decide,by ac_rfl,by ac_rfl⟩
def ZlZ:Scope:=zsc [(".0",.«local»),("_law_cuts_here",.«local»),("len",.globalImplicit),("_law_place",.free),("_law_ways_here",.free)]
theorem Zhf:ZN ["_law_begin", "_law_end", "_law_ways_here", "_law_found", "_law_place"] ["_law_begin", "_law_end", "_law_ways_here", "_law_found", "_law_place", "_law_cuts_here"] (Zh Zbr) ZlZ:=⟨rfl,rfl,by ac_rfl,by ac_rfl,by ac_rfl,by decide,by ac_rfl,by ac_rfl⟩
def ZkV:Scope:=zsc [(".0",.«local»),("_law_cuts_here",.«local»),("len",.globalImplicit)]
theorem ZkH:ZN ["_law_begin", "_law_end", "_law_ways_here", "_law_found", "_law_place"] ["_law_begin", "_law_end", "_law_ways_here", "_law_found", "_law_place", "_law_cuts_here"] (Zh Zbr) ZkV:=⟨rfl,rfl,by ac_rfl,by ac_rfl,by ac_rfl,by decide,by ac_rfl,by ac_rfl⟩
def Zls:Scope:=zsc [(".0",.«local»),("begin",.«local»),("end",.«local»),("range",.globalImplicit),("groves",.free),("many",.free)]
theorem Zeu:ZN ["sizes", "ways", "groves", "many"] ["sizes", "ways", "groves", "many", "begin", "end"] (Zh Zaz) Zls:=⟨rfl,rfl,by ac_rfl,by ac_rfl,by ac_rfl,by decide,by ac_rfl,by ac_rfl⟩
def ZlK:Scope:=zsc [(".0",.«local»),("_law_end",.«local»),("_law_begin",.free)]
theorem Zl4:ZN ["_law_many_here", "_law_found", "_law_begin"] ["_law_many_here", "_law_found", "_law_begin", "_law_end"] (Zh Zao) ZlK:=⟨rfl,rfl,by ac_rfl,by ac_rfl,by ac_rfl,by decide,by ac_rfl,by ac_rfl⟩
def Zlh:Scope:=zsc [(".0",.«local»),("begin",.«local»),("end",.«local»),("range",.globalImplicit),("many",.free)]
theorem Zf4:ZN ["many"] ["many", "begin", "end"] (Zh Zae) Zlh:=⟨rfl,rfl,by ac_rfl,by ac_rfl,by ac_rfl,by decide,by ac_rfl,by ac_rfl⟩
def ZlS:Scope:=zsc [(".0",.«local»),("middle",.«local»),("begin",.free),("cut",.free),("end",.free),("priced",.free)]
theorem Zgm:ZN ["priced", "cut", "begin", "end"] ["priced", "cut", "begin", "end", "middle"] (Zh ZaM) ZlS:=⟨rfl,rfl,by ac_rfl,by ac_rfl,by ac_rfl,by decide,by ac_rfl,by ac_rfl⟩
def ZlJ:Scope:=zsc [(".0",.«local»),("begin",.«local»),("end",.«local»),("price",.«local»),("min",.globalImplicit),("part_sums",.globalImplicit),("cut",.free),("priced",.free)]
theorem ZdK:ZN ["priced", "most", "cut", "parts"] ["priced", "most", "cut", "parts", "price", "begin", "end"] (Zh Zav) ZlJ:=⟨rfl,rfl,by ac_rfl,by ac_rfl,by ac_rfl,by decide,by ac_rfl,by ac_rfl⟩
def Zlw:Scope:=zsc [(".0",.«local»),("begin",.«local»),("end",.«local»),("price",.«local»)]
theorem ZiG:ZN ["many", "thing", "entry"] ["many", "thing", "entry", "begin", "end", "price"] (Zh Zay) Zlw:=⟨rfl,rfl,by ac_rfl,by ac_rfl,by ac_rfl,by decide,by ac_rfl,by ac_rfl⟩
def Zjv:Scope:=zsc [(".0",.«local»),("begin",.«local»),("end",.«local»),("price",.«local»)]
theorem Zek:ZN ["sizes", "ways", "tree", "prices", "priced", "cut", "begin", "end", "price"] ["sizes", "ways", "tree", "prices", "priced", "cut", "?begin", "?end", "?price", "begin", "end", "price"] (Zh Zax) Zjv:=⟨rfl,rfl,by ac_rfl,by ac_rfl,by ac_rfl,by decide,by ac_rfl,by ac_rfl⟩
def Zj4:Scope:=zsc [(".0",.«local»),("_law_pair",.«local»),("_law_prices",.free)]
theorem ZiA:ZN ["_law_prices", "_law_cuts_here", "_law_end"] ["_law_prices", "_law_cuts_here", "_law_end", "_law_pair"] (Zh Za5) Zj4:=⟨rfl,rfl,by ac_rfl,by ac_rfl,by ac_rfl,by decide,by ac_rfl,by ac_rfl⟩
def Zjs:Scope:=zsc [(".0",.«local»),("_law_number",.«local»),("isinstance",.globalImplicit),("int",.globalImplicit),("bool",.globalImplicit)]
theorem Zd5:ZN ["_law_sizes_here", "_law_ways_here", "_law_tree", "_law_thing", "_law_row", "_law_prices", "_law_begin", "_law_end", "_law_own", "_law_cuts_here"] ["_law_sizes_here", "_law_ways_here", "_law_tree", "_law_thing", "_law_row", "_law_prices", "_law_begin", "_law_end", "_law_own", "_law_cuts_here", "_law_number"] (Zh ZaI) Zjs:=⟨rfl,rfl,by ac_rfl,by ac_rfl,by ac_rfl,by decide,by ac_rfl,by ac_rfl⟩
def ZjD:Scope:=zsc [(".0",.«local»),("_law_row",.«local»)]
theorem Zj3:ZN ["_law_sizes_here", "_law_ways_here", "_law_tree", "_law_thing", "_law_row", "_law_prices", "_law_begin", "_law_end", "_law_own", "_law_cuts_here"] ["_law_sizes_here", "_law_ways_here", "_law_tree", "_law_thing", "?_law_row", "_law_prices", "_law_begin", "_law_end", "_law_own", "_law_cuts_here", "_law_row"] (Zh ZaI) ZjD:=⟨rfl,rfl,by ac_rfl,by ac_rfl,by ac_rfl,by decide,by ac_rfl,by ac_rfl⟩
def Zjw:Scope:=zsc [(".0",.«local»),("_law_row",.«local»)]
theorem Zip:ZN ["_law_sizes_here", "_law_ways_here", "_law_tree", "_law_thing", "_law_row", "_law_prices", "_law_begin", "_law_end", "_law_own", "_law_cuts_here"] ["_law_sizes_here", "_law_ways_here", "_law_tree", "_law_thing", "?_law_row", "_law_prices", "_law_begin", "_law_end", "_law_own", "_law_cuts_here", "_law_row"] (Zh ZaI) Zjw:=⟨rfl,rfl,by ac_rfl,by ac_rfl,by ac_rfl,by decide,by ac_rfl,by ac_rfl⟩
def ZkG:Scope:=zsc [(".0",.«local»),("_law_row",.«local»),("int",.globalImplicit),("_law_pick",.globalImplicit),("_law_left_here",.free)]
theorem Zen:ZN ["_law_left_here", "_law_prices", "_law_at", "_law_begin", "_law_end", "_law_price", "_law_further", "_law_new", "_law_way", "_law_some"] ["_law_left_here", "_law_prices", "_law_at", "_law_begin", "_law_end", "_law_price", "_law_further", "_law_new", "_law_way", "_law_some", "_law_row"] (Zh ZQ) ZkG:=⟨rfl,rfl,by ac_rfl,by ac_rfl,by ac_rfl,by decide,by ac_rfl,by ac_rfl⟩
def Zju:Scope:=zsc [(".0",.«local»),("_law_row",.«local»)]
theorem Zkl:ZN ["_law_left_here", "_law_prices", "_law_at", "_law_begin", "_law_end", "_law_price", "_law_further", "_law_new", "_law_way", "_law_some"] ["_law_left_here", "_law_prices", "_law_at", "_law_begin", "_law_end", "_law_price", "_law_further", "_law_new", "_law_way", "_law_some", "_law_row"] (Zh ZQ) Zju:=⟨rfl,rfl,by ac_rfl,by ac_rfl,by ac_rfl,by decide,by ac_rfl,by ac_rfl⟩
def ZkP:Scope:=zsc [(".0",.«local»),("_law_row",.«local»),("list",.globalImplicit)]
theorem ZhT:ZN ["_law_left_here", "_law_prices", "_law_at", "_law_begin", "_law_end", "_law_price", "_law_further", "_law_new", "_law_way", "_law_some"] ["_law_left_here", "_law_prices", "_law_at", "_law_begin", "_law_end", "_law_price", "_law_further", "_law_new", "_law_way", "_law_some", "_law_row"] (Zh ZQ) ZkP:=⟨rfl,rfl,by ac_rfl,by ac_rfl,by ac_rfl,by decide,by ac_rfl,by ac_rfl⟩
structure Bt (mg:Str→Option Value):Prop where
 n_abs:mg "abs" = none
 n_all:mg "all" = none
 n_bool:mg "bool" = none
 n_dict:mg "dict" = none
 n_int:mg "int" = none
 n_isinstance:mg "isinstance" = none
 n_len:mg "len" = none
 n_list:mg "list" = none
 n_max:mg "max" = none
 n_min:mg "min" = none
 n_range:mg "range" = none
 n_sorted:mg "sorted" = none
 n_str:mg "str" = none
 n_sum:mg "sum" = none
 n_tuple:mg "tuple" = none
 n_zip:mg "zip" = none
structure Zat (K:PySem.W.Frag) (mg:Str→Option Value):Prop where
 b:Bt mg
 t_is_number:Top K mg "is_number" Zbc ["thing"]
 t_is_triple:Top K mg "is_triple" Zbi ["thing"]
 t_finds_rows:Top K mg "finds_rows" ZaZ ["sizes", "ways", "thing", "found"]
 t_cost_of:Top K mg "cost_of" ZbS ["sizes", "tree"]
 t_size_and_cost:Top K mg "size_and_cost" Zap ["sizes", "tree"]
 t_shows_near:Top K mg "shows_near" Zax ["sizes", "ways", "tree", "prices"]
 t_is_near:Top K mg "is_near" ZbT ["sizes", "ways", "thing"]
 t_are_prices:Top K mg "are_prices" Zay ["many", "thing"]
 t_stretches_of:Top K mg "stretches_of" Zae ["many"]
 t_cut_prices:Top K mg "cut_prices" Zav ["priced", "most"]
 t_part_sums:Top K mg "part_sums" ZaM ["priced", "cut", "begin", "end"]
 t_most_price:Top K mg "most_price" Za0 ["sizes", "priced", "cut", "begin", "end"]
 t_near_plan:Top K mg "near_plan" Zbd ["sizes", "ways"]
 t_prices_for:Top K mg "prices_for" Zaz ["sizes", "ways"]
 t_least_groves:Top K mg "least_groves" Zau ["sizes", "ways"]
 t_least_tree:Top K mg "least_tree" ZaX ["groves", "sizes", "ways", "begin", "end"]
 t_least_grove:Top K mg "least_grove" ZaK ["groves", "alone", "begin", "end", "most"]
 t_least_cut:Top K mg "least_cut" ZaL ["groves", "begin", "end", "most"]
 t_l_mix:Top K mg "_law_mix" ZcT ["_law_cell", "_law_k"]
 t_l_left:Top K mg "_law_left" Zca ["_law_script", "_law_k"]
 t_l_pick:Top K mg "_law_pick" Zcc ["_law_left_here", "_law_many_here"]
 t_l_many:Top K mg "_law_many" Zcf ["_law_left_here"]
 t_l_sizes:Top K mg "_law_sizes" ZbM ["_law_left_here", "_law_most"]
 t_l_ways:Top K mg "_law_ways" Zcg ["_law_left_here"]
 t_l_joined:Top K mg "_law_joined" ZbA ["_law_left_here", "_law_items", "_law_ways_here"]
 t_l_rows_in:Top K mg "_law_rows_in" Zbf ["_law_tree"]
 t_l_cost:Top K mg "_law_cost" ZbK ["_law_sizes_here", "_law_tree"]
 t_l_is_plan:Top K mg "_law_is_plan" Za8 ["_law_sizes_here", "_law_ways_here", "_law_thing"]
 t_l_put:Top K mg "_law_put" ZcW ["_law_tree", "_law_path", "_law_new"]
 t_l_spoilt:Top K mg "_law_spoilt" Zbx ["_law_left_here", "_law_tree", "_law_many_here"]
 t_l_stretches:Top K mg "_law_stretches" Zao ["_law_many_here"]
 t_l_cuts:Top K mg "_law_cuts" Zbr ["_law_begin", "_law_end", "_law_ways_here"]
 t_l_beside:Top K mg "_law_beside" Za5 ["_law_prices", "_law_cuts_here", "_law_end"]
 t_l_shows:Top K mg "_law_shows" ZaI ["_law_sizes_here", "_law_ways_here", "_law_tree", "_law_thing"]
 t_l_other_prices:Top K mg "_law_other_prices" ZQ ["_law_left_here", "_law_prices"]
 t_l_papers:Top K mg "_law_papers" Zbw ["_law_left_here", "_law_sizes_here", "_law_ways_here", "_law_cost_here", "_law_tree", "_law_prices"]
def ZZ(H:Hp)(p:Addr)(c:Int):Prop:=∃a b:Int,H p=some (.lst [.int a,.int b,.int c])∧0≤c
def But(p:Addr)(H H':Hp):Prop:=∀b o,H b=some o→b≠p→H' b=some o
theorem But.refl(p:Addr)(H:Hp):But p H H:=fun _ _ h _=>h
theorem But.trans{p:Addr}{H H1 H2:Hp}(a:But p H H1)(b:But p H1 H2):But p H H2:=fun c o h n=>b c o (a c o h n) n
theorem But.same{p:Addr}{H H1:Hp}(a:Zn H H1):But p H H1:=fun c o h _=>a c o h
theorem Zc{H:Hp}{p:Addr}(h:H p=none)(o:HO):Zn H (upd H p o):=fun b u q=>by rw[Zi (Zg q h)];exact q
theorem ZjO{n:Nat}(h:n≤1000):n≤sizeLine:=Q3 (ZM h)
def Zku:Sp:=fun vs H Q _=>∃a k:Int,vs=[.int a,.int k] ∧ -(2 ^ 62)<k∧k<2 ^ 62∧∀r:Int,0≤r→r<2000000000→Q (.int r) H
def ZkL(K:PySem.W.Frag):Sp:=fun vs H Q _=>∃ (a:Addr) (ns:List Int) (k:Int),vs=[.ref a,.int k]∧SqL K H a (ns.map V.int)∧ns.length≤63∧0≤k∧k<100 ∧
 ∀ (p:Addr) (H':Hp),H p=none→ZZ H' p 0→Zn H H'→Q (.ref p) H'
def Zcx:Sp:=fun vs H Q _=>∃ (p:Addr) (c m:Int),vs=[.ref p,.int m]∧ZZ H p c∧c<2 ^ 60∧0<m∧m<1073741824 ∧
 ∀ (r:Int) (H':Hp),0≤r→r<m→ZZ H' p (c+1)→But p H H'→Q (.int r) H'
theorem ZmF{ns:List Int}{k:Int}(h0:0≤k)(h:k<(ns.length:Int)):∃v:Int,atI (ns.map V.int) k=some (.int v):=by
 have hk:k.toNat<ns.length:=by omega
 have ek:k=((k.toNat:Nat):Int):=by omega
 have q:atI (ns.map V.int) ((k.toNat:Nat):Int)=some (.int ns[k.toNat]):=Zbl (by rw[Qt,Qc hk]<;>rfl)
 rw[← ek]at q
 exact⟨_,q⟩
theorem Zma(b:Bool):-(2 ^ 64)<(if b=true then (1:Int) else 0)∧(if b=true then (1:Int) else 0)<2 ^ 64:=by cases b<;>decide
def IsD(H:Hp):Nat→V→V→Prop
 | 0,_,_=>False
 | n+1,x,y=>(x=y∧(x=.non∨(∃b,x=.bl b)∨(∃i,x=.int i)∨∃s,x=.str s)) ∨
   (∃ (p q:Addr) (xs ys:List V),x=.ref p∧y=.ref q∧((H p=some (.lst xs)∧H q=some (.lst ys))∨(H p=some (.tup xs)∧H q=some (.tup ys)))∧xs.length=ys.length∧xs.length≤1000∧∀ (i:Nat) (x y:V),xs[i]? = some x→ys[i]? = some y→IsD H n x y)
section
variable (K:PySem.W.Frag)
open PySem.W
theorem Ze8:kitOne K (.type "tuple") (.type "tuple")=some true:=by unfold kitOne kitCls;rfl
theorem ZgP:kitOne K (.type "int") (.type "bool")=some false:=by unfold kitOne kitCls;rfl
theorem ZiI:kitOne K (.type "int") (.type "int")=some true:=by unfold kitOne kitCls;rfl
theorem Zk8:kitOne K (.type "bool") (.type "bool")=some true:=by unfold kitOne kitCls;rfl
end
section
variable {P:Program} {w:World} {K:PySem.W.Frag} {mg:Str→Option Value} {base:Heap}
theorem ZmD(T:Zat K mg):Df P w K mg base 1 "_law_mix" ["_law_cell", "_law_k"] Zku:=by
 refine T.t_l_mix.df ZgV (fun vs H Q E h=>?_) (fun cdv f A outer s H vs Q E hr h=>?_)
 ·obtain⟨a,k,rfl,_⟩:=h
  rfl
 obtain⟨a,k,rfl,k1,k2,q⟩:=h
 refine⟨_,#[Zf,#[Zq,2,ZgV.nd,(Or.inl rfl),#[Zm,Zeq,#[Zm,ZcM,#[Zm,ZG,#[Zm,ZG,#[Zm,Zeq,‹0›,#[Ze]],#[Zm,ZcM,#[Zm,ZcM,‹1›,‹1›],#[Ze]]],#[Ze]],#[Ze]],#[Ze]]],#[Zj,#[Zo,#[Zm,Zeq,#[Zm,ZcM,‹2›,‹2›],#[Ze]]]]],?_⟩
 refine⟨_,rfl,_,_,rfl,rfl,(by show (0:Int)<_;decide),_,rfl,_,rfl,_,_,rfl,rfl,.inl ⟨by omega,by omega⟩,_,_,rfl,rfl,.inr ⟨by decide,by decide⟩,_,_,rfl,rfl,_,_,rfl,rfl,_,_,rfl,rfl,.inr ⟨by decide,by decide⟩,_,_,rfl,rfl,(by show (0:Int)<_;decide),?_⟩
 have m0:=Int.emod_nonneg ((a % 2147483629+k*k*7919+11)*48271) (show (2147483647:Int)≠0 by decide)
 have m1:=QaC ((a % 2147483629+k*k*7919+11)*48271) (show (0:Int)<2147483647 by decide)
 refine⟨_,rfl,_,rfl,_,_,rfl,rfl,.inl ⟨by omega,by omega⟩,_,_,rfl,rfl,(by show (0:Int)<_;decide),?_⟩
 exact q _ (Int.emod_nonneg _ (by decide)) (Int.lt_trans (QaC _ (by decide)) (by decide))
theorem Zld(T:Zat K mg):Df P w K mg base 1 "_law_left" ["_law_script", "_law_k"] (ZkL K):=by
 refine T.t_l_left.df ZeZ (fun vs H Q E h=>?_) (fun cdv f A outer s H vs Q E hr h=>?_)
 ·obtain⟨a,ns,k,rfl,_⟩:=h
  rfl
 obtain⟨a,ns,k,rfl,hS,h63,k0,k1,q⟩:=h
 refine⟨_,#[Zf,#[Zq,2,ZeZ.nd,(Or.inl rfl),(@ZgQ _ _ _ _ _ _ _ _ #[Zy,Zfq,‹1›,#[Zk,(ZaY K),(by rfl),T.b.n_len,Qw,#[Za,‹0›,#[Zd]]],(ZD _)] #[ZJ,(ixL K),‹0›,‹1›] #[Ze])],#[Zj,#[Zo,#[ZH,#[Za,#[Zm,ZcM,#[Zk,Zf3,(by rfl),T.b.n_abs,boot_abs,#[Za,‹2›,#[Zd]]],#[ZR,Zfi,(by rfl),T.b.n_int,boot_int,#[Za,#[Zcm,Zmt,#[Zk,Zf3,(by rfl),T.b.n_abs,boot_abs,#[Za,‹2›,#[Zd]]],#[Zm,ZeI,#[Ze],#[Ze]],(ZD _)],#[Zd]]]],#[Za,#[Zm,ZG,‹2›,#[Zm,ZcM,#[Ze],‹1›]],#[Za,#[Ze],#[Zd]]]]]]]],?_⟩
 have hl:(ns.map V.int).length=ns.length:=Qa _
 have pw:Zm6 10 18:=⟨by decide,by decide,by decide⟩
 refine⟨_,rfl,_,rfl,a,_,rfl,.inl hS,_,_,rfl,rfl,_,rfl,?_⟩
 refine ZcD (fun c=>?_) (fun c=>?_)
 ·have c':k<(((ns.map V.int).length:Nat):Int):=of_decide_eq_true c
  rw[hl]at c'
  obtain⟨v,hv⟩:=ZmF (ns:=ns) k0 c'
  refine⟨_,rfl,_,rfl,a,_,_,_,rfl,rfl,hS,hv,?_⟩
  refine⟨_,rfl,_,rfl,_,rfl,_,rfl,_,_,rfl,rfl,pw,_,_,rfl,rfl,.inr ⟨_,rfl,_,_,rfl,rfl,.inr (Zma _),_,rfl,_,rfl,_,_,rfl,rfl,.inl ⟨by decide,by decide⟩,_,_,rfl,rfl,(by show 3≤sizeLine;decide),fun p hp=>?_⟩⟩
  exact q p _ hp ⟨_,_,Zb,QS _⟩ (Zc hp _)
 ·refine⟨_,rfl,_,rfl,_,rfl,_,rfl,_,_,rfl,rfl,pw,_,_,rfl,rfl,.inr ⟨_,rfl,_,_,rfl,rfl,.inr (Zma _),_,rfl,_,rfl,_,_,rfl,rfl,.inl ⟨by decide,by decide⟩,_,_,rfl,rfl,(by show 3≤sizeLine;decide),fun p hp=>?_⟩⟩
  exact q p _ hp ⟨_,_,Zb,QS _⟩ (Zc hp _)
theorem Zk7(T:Zat K mg)(f_l_mix:Df P w K mg base 1 "_law_mix" ["_law_cell", "_law_k"] Zku):Df P w K mg base 2 "_law_pick" ["_law_left_here", "_law_many_here"] Zcx:=by
 refine T.t_l_pick.df Zfc (fun vs H Q E h=>?_) (fun cdv f A outer s H vs Q E hr h=>?_)
 ·obtain⟨p,c,m,rfl,_⟩:=h
  rfl
 obtain⟨p,c,m,rfl,⟨a,b,hp,c0⟩,c1,m0,m1,q⟩:=h
 refine⟨_,#[Zf,#[Zb8,#[Zm,ZG,#[ZJ,(ixL K),‹0›,#[Ze]],#[Ze]],(@ZgZ _ _ _ _ _ _ _ ‹0› #[Ze] Zf8 (by intro _;rfl))],#[Zf,#[Z0,#[Zy,ZcI,#[ZJ,(ixL K),‹0›,#[Ze]],#[Ze],(ZD _)],#[Zf,#[Zq,2,Zfc.nd,(Or.inl rfl),#[Zm,Zeq,#[ZJ,(ixL K),‹0›,#[Ze]],‹1›]],#[Zf,#[Zb8,#[Zm,Ziu,#[ZJ,(ixL K),‹0›,#[Ze]],‹1›],(@ZgZ _ _ _ _ _ _ _ ‹0› #[Ze] Zf8 (by intro _;rfl))],#[Zj,#[Zo,‹2›]]]],#[ZK]],#[Zj,#[Zo,#[Zm,Zeq,#[Zm,Ziu,#[Zu,f_l_mix,hr,#[Za,#[Zu,f_l_mix,hr,#[Za,#[ZJ,(ixL K),‹0›,#[Ze]],#[Za,#[ZJ,(ixL K),‹0›,#[Ze]],#[Zd]]],(by rfl)],#[Za,#[Zm,ZG,#[ZJ,(ixL K),‹0›,#[Ze]],#[Ze]],#[Zd]]],(by rfl)],#[Ze]],‹1›]]]]],?_⟩
 have u1:(upd H p (.lst [.int a,.int b,.int (c+1)])) p=some (.lst [.int a,.int b,.int (c+1)]):=Zb
 refine⟨_,rfl,p,_,_,_,rfl,rfl,SqL.of hp,rfl,_,_,rfl,rfl,_,rfl,p,_,_,2,rfl,rfl,hp,rfl,?_⟩
 refine⟨_,rfl,p,_,_,_,rfl,rfl,SqL.of u1,rfl,_,_,rfl,rfl,_,rfl,?_⟩
 refine ZcD (fun d=>?_) (fun d=>?_)
 ·refine⟨_,rfl,p,_,_,_,rfl,rfl,SqL.of u1,rfl,_,rfl,_,_,rfl,rfl,m0,?_⟩
  refine⟨_,rfl,p,_,_,_,rfl,rfl,SqL.of u1,rfl,_,rfl,_,_,rfl,rfl,⟨m0,by omega⟩,_,rfl,p,_,_,0,rfl,rfl,u1,rfl,?_⟩
  refine⟨_,rfl,?_⟩
  refine q _ _ (Int.emod_nonneg _ (by omega)) (QaC _ m0) ⟨a / m,b,Zb,by omega⟩ fun e o h n=>?_
  rw[Zi n,Zi n]
  exact h
 ·refine⟨_,rfl,p,_,_,_,rfl,rfl,SqL.of u1,rfl,_,rfl,p,_,_,_,rfl,rfl,SqL.of u1,rfl,_,_,rfl,by omega,by omega,fun r r0 r1=>?_⟩
  refine⟨_,rfl,p,_,_,_,rfl,rfl,SqL.of u1,rfl,_,_,rfl,rfl,_,_,rfl,by omega,by omega,fun r' r0' r1'=>?_⟩
  refine⟨_,_,rfl,rfl,⟨by decide,by decide⟩,_,rfl,_,_,rfl,rfl,m0,?_⟩
  refine q _ _ (Int.emod_nonneg _ (by omega)) (QaC _ m0) ⟨a,b,Zb,by omega⟩ fun e o h n=>?_
  rw[Zi n]
  exact h
theorem Zgj{c A B:Prop}[Decidable c](hc:c)(h:A):if decide c=true then A else B:=by
 rw[if_pos (decide_eq_true hc)]
 exact h
theorem Zd0{c A B:Prop}[Decidable c](hc:¬ c)(h:B):if decide c=true then A else B:=by
 rw[if_neg (by rw[decide_eq_false hc];exact Qj)]
 exact h
theorem ZZ.new{H:Hp}{p l:Addr}{c:Int}{o:HO}(h:ZZ H p c)(n:H l=none):ZZ (upd H l o) p c:=by
 obtain⟨a,b,hp,c0⟩:=h
 exact⟨a,b,by rw[Zi (Zg hp n)];exact hp,c0⟩
theorem ZZ.ge{H:Hp}{p:Addr}{c:Int}(h:ZZ H p c):0≤c:=by obtain⟨a,b,hp,c0⟩:=h;exact c0
theorem ZZ.here{H:Hp}{p:Addr}{c:Int}(h:ZZ H p c):∃o,H p=some o:=by obtain⟨a,b,hp,c0⟩:=h;exact⟨_,hp⟩
theorem ZZ.at{H:Hp}{p l:Addr}{c:Int}{o:HO}(h:ZZ H p c)(n:p≠l):ZZ (upd H l o) p c:=by
 obtain⟨a,b,hp,c0⟩:=h
 exact⟨a,b,by rw[Zi n];exact hp,c0⟩
theorem ZZ.same{H H':Hp}{p:Addr}{c:Int}(h:ZZ H p c)(s:Zn H H'):ZZ H' p c:=by obtain⟨b1,b2,hb,c0⟩:=h;exact⟨b1,b2,s _ _ hb,c0⟩
theorem Zgp(xs:List V)(i j:Nat)(h:i≤xs.length)(h2:j≤xs.length):ZY xs (some i) (some j)=(xs.drop i).take (j-i):=by
 have e:∀ (k d:Nat),k≤xs.length→HT.sIx xs.length d (some (k:Int))=k:=fun k d hk=>by
  unfold HT.sIx
  simp only[]
  rw[if_neg (by omega)]
  omega
 unfold ZY
 rw[e i _ h,e j _ h2]
theorem ZlI{p:Addr}{H H1:Hp}{l:Addr}(B:But p H H1)(n:p≠l)(h:H1 l=none):H l=none:=by
 cases w':H l with
 | none=>rfl
 | some u=>rw[B l u w' n.symm]at h;cases h
theorem Zeh{ns:List Int}{k:Int}(h0:0≤k)(h:k<(ns.length:Int)):∃v∈ns,atI (ns.map V.int) k=some (.int v):=by
 have hk:k.toNat<ns.length:=by omega
 have ek:k=((k.toNat:Nat):Int):=by omega
 have q:atI (ns.map V.int) ((k.toNat:Nat):Int)=some (.int ns[k.toNat]):=Zbl (by rw[Qt,Qc hk]<;>rfl)
 rw[← ek]at q
 exact⟨_,Q5 hk,q⟩
theorem ZeA{K:PySem.W.Frag}{a:Addr}{xs:List V}{k:Nat}{D:Addr}{σ:L2.St}{H1:Hp}{g:TG}{tc:TT}{te:TE}{Q:VK}(Pv:Nat→List V→L2.St→Hp→Prop)(h0:Pv 0 [] (σ++List.replicate k none) (upd H1 D (.lst [])))
  (hl:∀i ys σ H,Pv i ys σ H→SqL K H a xs)
  (hs:∀i x ys σ H,xs[i]? = some x→Pv i ys σ H→g x σ H fun σ4 H4=>tc σ4 H4 fun b H5=>if b=true then te σ4 H5 fun y H6=>H6 D=some (.lst ys)∧ys.length<sizeLine∧Pv (i+1) (ys++[y]) σ4 (upd H6 D (.lst (ys++[y]))) else Pv (i+1) ys σ4 H5)
  (hd:∀ys σ H,Pv xs.length ys σ H→Q (.ref D) H):ZdM (Itl K a) D k σ H1 g tc te Q:=by
 refine⟨fun i m ys σ H=>m=xs.length-i∧i≤xs.length∧Pv i ys σ H,⟨xs.length,by simp,Qm _,h0⟩,?_⟩
 rintro i m ys σ H ⟨rfl,hi,p⟩
 have q1:=hl i ys σ H p
 by_cases hlt:i<xs.length
 ·refine .inr ⟨⟨xs,xs[i],q1,Qc hlt⟩,Pv (i+1),fun ys' σ' H' p'=>⟨xs.length-(i+1),by omega,rfl,hlt,p'⟩,fun x H' y=>?_⟩
  obtain⟨rfl,e⟩:=y
  exact hs i x ys σ _ (e xs q1) p
 ·have e:i=xs.length:=by omega
  exact .inl ⟨⟨xs,q1,by omega⟩,hd ys σ H (e ▸ p)⟩
theorem Zbp{K:PySem.W.Frag}{a:Addr}{xs:List V}{k:Nat}{D:Addr}{σ:L2.St}{H1:Hp}{g:TG}{te:TE}{Q:VK}(Pv:Nat→List V→L2.St→Hp→Prop)(h0:Pv 0 [] (σ++List.replicate k none) (upd H1 D (.lst [])))
  (hl:∀i ys σ H,Pv i ys σ H→SqL K H a xs)
  (hs:∀i x ys σ H,xs[i]? = some x→Pv i ys σ H→g x σ H fun σ4 H4=>te σ4 H4 fun y H6=>H6 D=some (.lst ys)∧ys.length<sizeLine∧Pv (i+1) (ys++[y]) σ4 (upd H6 D (.lst (ys++[y]))))
  (hd:∀ys σ H,Pv xs.length ys σ H→Q (.ref D) H):ZdM (Itl K a) D k σ H1 g ZdV te Q:=by
 refine⟨fun i m ys σ H=>m=xs.length-i∧i≤xs.length∧Pv i ys σ H,⟨xs.length,by simp,Qm _,h0⟩,?_⟩
 rintro i m ys σ H ⟨rfl,hi,p⟩
 have q1:=hl i ys σ H p
 by_cases hlt:i<xs.length
 ·refine .inr ⟨⟨xs,xs[i],q1,Qc hlt⟩,Pv (i+1),fun ys' σ' H' p'=>⟨xs.length-(i+1),by omega,rfl,hlt,p'⟩,fun x H' y=>?_⟩
  obtain⟨rfl,e⟩:=y
  simp only[ZdV,↓reduceIte]
  exact hs i x ys σ _ (e xs q1) p
 ·have e:i=xs.length:=by omega
  exact .inl ⟨⟨xs,q1,by omega⟩,hd ys σ H (e ▸ p)⟩
theorem Zez:∀ns:List Int,PyData.canLayAll0 (ns.map PyData.int)=true
 | []=>rfl
 | x::r=>by simp[PyData.canLayAll0,PyData.canLay0,Zez r]
theorem Zej:∀ns:List Int,PyData.depthAll (ns.map PyData.int)=0
 | []=>rfl
 | _::r=>by simp[PyData.depthAll,PyData.depth,Zej r]
theorem ZcL(ns:List Int):SeqAt.shaped (.list (ns.map PyData.int))=true:=by simp[SeqAt.shaped,PyData.canLay0,PyData.depth,Zez ns,Zej]
theorem Zdv{K:PySem.W.Frag}{H:Hp}:∀ns:List Int,DVs K H (ns.map V.int) (ns.map PyData.int)
 | []=>.nil
 | s::r=>.cons (.int s) (Zdv r)
theorem AtT.mono{H H':Hp}{ts:ZaF}(h:AtT H ts)(s:Zn H H'):AtT H' ts:=fun x hx=>s _ _ (h x hx)
theorem Zaa{H:Hp}{D:Addr}{ys:List V}(h:H D=some (.lst ys))(o:HO):∀a xs,H a=some (.tup xs)→(upd H D o) a=some (.tup xs):=fun a xs e=>by
 have nb:a≠D:=by intro z;rw[z,h]at e;cases e
 rw[Zi nb];exact e
theorem Zfe{c A B:Prop}[Decidable c](hc:c)(h:B):if (!decide c)=true then A else B:=by
 rw[if_neg (by rw[decide_eq_true hc];simp)]
 exact h
inductive PT where
 | leaf (k:Int)
 | node (l:List PT)
mutual
inductive TV (H:Hp):V→PT→Prop where
 | leaf (k:Int):TV H (.int k) (.leaf k)
 | node {a:Addr} {xs:List V} {l:List PT}:H a=some (.tup xs)→TVs H xs l→TV H (.ref a) (.node l)
inductive TVs (H:Hp):List V→List PT→Prop where
 | nil:TVs H [] []
 | cons {x:V} {t:PT} {xs:List V} {l:List PT}:TV H x t→TVs H xs l→TVs H (x::xs) (t::l)
end
mutual
theorem TV.mono{H H':Hp}(s:∀a xs,H a=some (.tup xs)→H' a=some (.tup xs)):∀ {x:V} {t:PT},TV H x t→TV H' x t
 | _,_,.leaf k=>.leaf k
 | _,_,.node h hs=>.node (s _ _ h) (hs.mono s)
theorem TVs.mono{H H':Hp}(s:∀a xs,H a=some (.tup xs)→H' a=some (.tup xs)):∀ {xs:List V} {l:List PT},TVs H xs l→TVs H' xs l
 | _,_,.nil=>.nil
 | _,_,.cons h hs=>.cons (h.mono s) (hs.mono s)
end
mutual
def toD:PT→PyData
 | .leaf k=>.int k
 | .node l=>.tuple (Zad l)
def Zad:List PT→List PyData
 | []=>[]
 | t::r=>toD t::Zad r
end
mutual
theorem TV.dv{K:PySem.W.Frag}{H:Hp}:∀ {x:V} {t:PT},TV H x t→DV K H x (toD t)
 | _,_,.leaf k=>.int k
 | _,_,.node h hs=>.tup (SqT.of h) hs.dv
theorem TVs.dv{K:PySem.W.Frag}{H:Hp}:∀ {xs:List V} {l:List PT},TVs H xs l→DVs K H xs (Zad l)
 | _,_,.nil=>.nil
 | _,_,.cons h hs=>.cons h.dv hs.dv
end
theorem TVs.len{H:Hp}:∀ {xs:List V} {l:List PT},TVs H xs l→xs.length=l.length
 | _,_,.nil=>rfl
 | _,_,.cons _ hs=>by rw[QD,QD,hs.len]
theorem TVs.app{H:Hp}:∀ {xs ys:List V} {l m:List PT},TVs H xs l→TVs H ys m→TVs H (xs++ys) (l++m)
 | _,_,_,_,.nil,h=>h
 | _,_,_,_,.cons h hs,g=>.cons h (hs.app g)
theorem TVs.rev{H:Hp}:∀ {xs:List V} {l:List PT},TVs H xs l→TVs H xs.reverse l.reverse
 | _,_,.nil=>.nil
 | _,_,.cons h hs=>by rw[QV,QV];exact hs.rev.app (.cons h .nil)
theorem TVs.take{H:Hp}:∀ {xs:List V} {l:List PT} (n:Nat),TVs H xs l→TVs H (xs.take n) (l.take n)
 | _,_,0,_=>by rw[Qal,Qal];exact .nil
 | _,_,_+1,.nil=>.nil
 | _,_,n+1,.cons h hs=>.cons h (hs.take n)
theorem TVs.drop{H:Hp}:∀ {xs:List V} {l:List PT} (n:Nat),TVs H xs l→TVs H (xs.drop n) (l.drop n)
 | _,_,0,h=>h
 | _,_,_+1,.nil=>.nil
 | _,_,n+1,.cons _ hs=>hs.drop n
theorem TVs.at{H:Hp}:∀ {xs:List V} {l:List PT} {i:Nat} {x:V},TVs H xs l→xs[i]? = some x→∃t,l[i]? = some t∧TV H x t
 | _,_,i,x,.nil,h=>by simp at h
 | _,_,0,x,.cons (t:=t) h _,e=>by simp at e;subst e;exact⟨t,rfl,h⟩
 | _,_,i+1,x,.cons _ hs,e=>by simpa using hs.at (i:=i) (by simpa using e)
theorem TVs.last{H:Hp}{xs:List V}{l:List PT}(h:TVs H xs l)(n:0<l.length):∃x t,xs[xs.length-1]? = some x∧TV H x t∧TVs H xs.dropLast l.dropLast∧l=l.dropLast++[t]:=by
 have hl:=h.len
 have h1:xs[xs.length-1]? = some xs[xs.length-1]:=Qc (by omega)
 obtain⟨t,ht,hv⟩:=h.at h1
 refine⟨_,t,h1,hv,?_,?_⟩
 ·rw[Qap,Qap,hl]
  exact h.take _
 ·rw[hl]at ht
  have e:l.getLast? = some t:=by rw[List.getLast?_eq_getElem?];exact ht
  obtain⟨r,er⟩:=List.getLast?_eq_some_iff.mp e
  rw[er];simp
mutual
def tSz(ns:List Int):PT→Int
 | .leaf k=>ns.getD k.toNat 0
 | .node l=>ZaA ns l
def ZaA(ns:List Int):List PT→Int
 | []=>0
 | t::r=>tSz ns t+ZaA ns r
end
mutual
def tCo(ns:List Int):PT→Int
 | .leaf _=>0
 | .node l=>ZaC ns l+ZaA ns l
def ZaC(ns:List Int):List PT→Int
 | []=>0
 | t::r=>tCo ns t+ZaC ns r
end
mutual
def tLf:PT→Nat
 | .leaf _=>1
 | .node l=>Zaq l
def Zaq:List PT→Nat
 | []=>0
 | t::r=>tLf t+Zaq r
end
mutual
def tDp:PT→Nat
 | .leaf _=>0
 | .node l=>ZaN l+1
def ZaN:List PT→Nat
 | []=>0
 | t::r=>max (tDp t) (ZaN r)
end
mutual
def tNo:PT→Nat
 | .leaf _=>1
 | .node l=>Zac l+1
def Zac:List PT→Nat
 | []=>0
 | t::r=>tNo t+Zac r
end
mutual
def tOk(n:Nat):PT→Prop
 | .leaf k=>0≤k∧k<n
 | .node l=>Zbu n l
def Zbu(n:Nat):List PT→Prop
 | []=>True
 | t::r=>tOk n t∧Zbu n r
end
theorem Zdk(ns:List Int):∀a b:List PT,ZaA ns (a++b)=ZaA ns a+ZaA ns b
 | [],b=>by show ZaA ns b=0+ZaA ns b;omega
 | t::r,b=>by show tSz ns t+ZaA ns (r++b)=tSz ns t+ZaA ns r+ZaA ns b;rw[Zdk ns r b];omega
theorem Zdr(ns:List Int):∀a b:List PT,ZaC ns (a++b)=ZaC ns a+ZaC ns b
 | [],b=>by show ZaC ns b=0+ZaC ns b;omega
 | t::r,b=>by show tCo ns t+ZaC ns (r++b)=tCo ns t+ZaC ns r+ZaC ns b;rw[Zdr ns r b];omega
theorem ZcU:∀a b:List PT,Zaq (a++b)=Zaq a+Zaq b
 | [],b=>by show Zaq b=0+Zaq b;omega
 | t::r,b=>by show tLf t+Zaq (r++b)=tLf t+Zaq r+Zaq b;rw[ZcU r b];omega
theorem Zbv:∀a b:List PT,Zac (a++b)=Zac a+Zac b
 | [],b=>by show Zac b=0+Zac b;omega
 | t::r,b=>by show tNo t+Zac (r++b)=tNo t+Zac r+Zac b;rw[Zbv r b];omega
theorem Zcb:∀a b:List PT,ZaN (a++b)=max (ZaN a) (ZaN b)
 | [],b=>by show ZaN b=max 0 (ZaN b);omega
 | t::r,b=>by show max (tDp t) (ZaN (r++b))=max (max (tDp t) (ZaN r)) (ZaN b);rw[Zcb r b];omega
theorem ZaW(n:Nat):∀a b:List PT,Zbu n (a++b)↔Zbu n a∧Zbu n b
 | [],b=>by show Zbu n b↔True∧Zbu n b;simp
 | t::r,b=>by show tOk n t∧Zbu n (r++b)↔(tOk n t∧Zbu n r)∧Zbu n b;rw[ZaW n r b,and_assoc]
theorem ZgM(ns:List Int):∀a:List PT,ZaA ns a.reverse=ZaA ns a
 | []=>rfl
 | t::r=>by rw[QV,Zdk,ZgM ns r];show ZaA ns r+(tSz ns t+0)=tSz ns t+ZaA ns r;omega
theorem ZeJ:∀a:List PT,Zac a.reverse=Zac a
 | []=>rfl
 | t::r=>by rw[QV,Zbv,ZeJ r];show Zac r+(tNo t+0)=tNo t+Zac r;omega
theorem Zf6:∀a:List PT,ZaN a.reverse=ZaN a
 | []=>rfl
 | t::r=>by rw[QV,Zcb,Zf6 r];show max (ZaN r) (max (tDp t) 0)=max (tDp t) (ZaN r);omega
theorem ZgN(n:Nat):∀a:List PT,Zbu n a.reverse↔Zbu n a
 | []=>Iff.rfl
 | t::r=>by rw[QV,ZaW,ZgN n r];show Zbu n r∧(tOk n t∧True)↔tOk n t∧Zbu n r;rw[and_true,and_comm]
theorem Zh7(n:Nat):∀ (l:List PT) (i:Nat) (t:PT),Zbu n l→l[i]? = some t→tOk n t
 | [],i,t,_,h=>by simp at h
 | a::r,0,t,h,e=>by simp at e;subst e;exact h.1
 | a::r,i+1,t,h,e=>Zh7 n r i t h.2 (by simpa using e)
theorem ZhL:∀ (l:List PT) (i:Nat) (t:PT),l[i]? = some t→tDp t≤ZaN l
 | [],i,t,h=>by simp at h
 | a::r,0,t,e=>by simp at e;subst e;show tDp a≤max (tDp a) (ZaN r);omega
 | a::r,i+1,t,e=>by have:=ZhL r i t (by simpa using e);show tDp t≤max (tDp a) (ZaN r);omega
mutual
theorem Zec:∀t:PT,1≤tNo t
 | .leaf _=>Qd _
 | .node l=>by show 1≤Zac l+1;omega
theorem Zc0:∀l:List PT,l.length≤Zac l
 | []=>Qd _
 | t::r=>by have:=Zec t;have:=Zc0 r;show r.length+1≤tNo t+Zac r;omega
end
mutual
theorem Zmy:∀t:PT,tLf t≤tNo t
 | .leaf _=>Qd _
 | .node l=>by have:=Zh0 l;show Zaq l≤Zac l+1;omega
theorem Zh0:∀l:List PT,Zaq l≤Zac l
 | []=>Qd _
 | t::r=>by have:=Zmy t;have:=Zh0 r;show tLf t+Zaq r≤tNo t+Zac r;omega
end
def tGd(t:PT):Prop:=tDp t+1≤tLf t∧tNo t+1≤2*tLf t
def ZcP:List PT→Prop
 | []=>True
 | t::r=>tGd t∧ZcP r
theorem ZcH:∀a b:List PT,ZcP (a++b)↔ZcP a∧ZcP b
 | [],b=>by show ZcP b↔True∧ZcP b;simp
 | t::r,b=>by show tGd t∧ZcP (r++b)↔(tGd t∧ZcP r)∧ZcP b;rw[ZcH r b,and_assoc]
theorem ZgI:∀l:List PT,ZcP l→ZaN l+l.length≤Zaq l∧Zac l+l.length≤2*Zaq l∨l=[]
 | [],_=>.inr rfl
 | [t],h=>.inl (by have h1:=h.1.1;have h2:=h.1.2;show max (tDp t) 0+1≤tLf t+0∧tNo t+0+1≤2*(tLf t+0);omega)
 | t::u::r,h=>by
  have ih:=(ZgI (u::r) h.2).resolve_right (by simp)
  have h1:=h.1.1
  have h2:=h.1.2
  left
  show max (tDp t) (ZaN (u::r))+((u::r).length+1)≤tLf t+Zaq (u::r)∧tNo t+Zac (u::r)+((u::r).length+1)≤2*(tLf t+Zaq (u::r))
  omega
theorem Zgk{l:List PT}(h:ZcP l)(n:2≤l.length):tGd (.node l):=by
 have:=(ZgI l h).resolve_right (by intro e;rw[e]at n;simp at n)
 show ZaN l+1+1≤Zaq l∧Zac l+1+1≤2*Zaq l
 omega
theorem Zjh{k:Int}(h0:0≤k)(h1:k≤10000000000):(PyData.int k).intsShort 13=true∧(PyData.int k).showable=true∧(PyData.int k).weight≤40:=by
 have hl:k.natAbs<2 ^ 34:=by omega
 have hlog:k.natAbs.log2<34:=by
  by_cases e:k.natAbs=0
  ·rw[e];decide
  ·exact(Nat.log2_lt e).mpr hl
 refine⟨?_,?_,?_⟩
 ·simp only[PyData.intsShort]
  exact decide_eq_true (PyData.shown_int_le (by omega))
 ·simp only[PyData.showable]
  exact decide_eq_true (by omega)
 ·simp only[PyData.weight]
  split<;>omega
mutual
theorem ZgE{n:Nat}(hn:n≤1000):∀t:PT,tOk n t→(toD t).canLay0=true∧(toD t).depth=tDp t∧(toD t).weight+1≤42*tNo t∧(toD t).intsShort 13=true∧(toD t).showable=true
 | .leaf k,h=>by
  obtain⟨h0,h1⟩:=h
  obtain⟨a,b,c⟩:=Zjh h0 (by omega)
  refine⟨by simp[toD,PyData.canLay0],by simp[toD,PyData.depth,tDp],?_,a,b⟩
  show (PyData.int k).weight+1≤42*1
  omega
 | .node l,h=>by
  obtain⟨a,b,c,d,e⟩:=ZdQ hn l h
  refine⟨by simpa [toD,PyData.canLay0] using a,by simp[toD,PyData.depth,tDp,b],?_,by simpa [toD,PyData.intsShort] using d,by simpa [toD,PyData.showable] using e⟩
  show PyData.weightAll (Zad l)+1≤42*(Zac l+1)
  omega
theorem ZdQ{n:Nat}(hn:n≤1000):∀l:List PT,Zbu n l→PyData.canLayAll0 (Zad l)=true∧PyData.depthAll (Zad l)=ZaN l∧PyData.weightAll (Zad l)≤42*Zac l∧PyData.intsShortAll 13 (Zad l)=true∧PyData.showableAll (Zad l)=true
 | [],_=>⟨rfl,rfl,Qm _,rfl,rfl⟩
 | t::r,h=>by
  obtain⟨a,b,c,d,e⟩:=ZgE hn t h.1
  obtain⟨a',b',c',d',e'⟩:=ZdQ hn r h.2
  have hp:=Zec t
  refine⟨by simp[Zad,PyData.canLayAll0,a,a'],by simp[Zad,PyData.depthAll,ZaN,b,b'],?_,by simp[Zad,PyData.intsShortAll,d,d'],by simp[Zad,PyData.showableAll,e,e']⟩
  show (toD t).weight+1+PyData.weightAll (Zad r)≤42*(tNo t+Zac r)
  omega
end
mutual
def tLv:PT→List Int
 | .leaf k=>[k]
 | .node l=>ZaO l
def ZaO:List PT→List Int
 | []=>[]
 | t::r=>tLv t++ZaO r
end
mutual
def tPl(w:Nat):PT→Prop
 | .leaf _=>True
 | .node l=>2≤l.length∧l.length≤w∧Zcz w l
def Zcz(w:Nat):List PT→Prop
 | []=>True
 | t::r=>tPl w t∧Zcz w r
end
theorem Zel:∀a b:List PT,ZaO (a++b)=ZaO a++ZaO b
 | [],b=>rfl
 | t::r,b=>by show tLv t++ZaO (r++b)=(tLv t++ZaO r)++ZaO b;rw[Zel r b,Q7]
theorem ZgU(w:Nat):∀a b:List PT,Zcz w (a++b)↔Zcz w a∧Zcz w b
 | [],b=>by show Zcz w b↔True∧Zcz w b;simp
 | t::r,b=>by show tPl w t∧Zcz w (r++b)↔(tPl w t∧Zcz w r)∧Zcz w b;rw[ZgU w r b,and_assoc]
mutual
theorem Ziq(w:Nat):∀t:PT,tPl w t→1≤(tLv t).length
 | .leaf k,_=>Qd 1
 | .node l,h=>by
  have h1:2≤l.length:=h.1
  have:=ZdF w l h.2.2
  show 1≤(ZaO l).length
  omega
theorem ZdF(w:Nat):∀l:List PT,Zcz w l→l.length≤(ZaO l).length
 | [],_=>Qd 0
 | t::r,h=>by
  have h1:=Ziq w t h.1
  have h2:=ZdF w r h.2
  show r.length+1≤(tLv t++ZaO r).length
  rw[Qe]
  omega
end
def ZbE(b e:Nat):List Int:=(List.range (e-b)).map fun i=>((b+i:Nat):Int)
theorem Za1(b e:Nat):(ZbE b e).length=e-b:=by unfold ZbE;simp
theorem Zdw{b e i:Nat}(h:i<e-b):(ZbE b e)[i]? = some ((b+i:Nat):Int):=by
 unfold ZbE
 rw[Qt,List.getElem?_range h]
 rfl
theorem Ze1{b e k:Nat}(h:b+k≤e):(ZbE b e).take k=ZbE b (b+k):=by
 refine List.ext_getElem? fun i=>?_
 rw[List.getElem?_take]
 by_cases hi:i<k
 ·rw[if_pos hi,Zdw (by omega),Zdw (by omega)]
 ·rw[if_neg hi,QT (by rw[Za1];omega)]
theorem Ze4{b e k:Nat}(h:b+k≤e):(ZbE b e).drop k=ZbE (b+k) e:=by
 refine List.ext_getElem? fun i=>?_
 rw[List.getElem?_drop]
 by_cases hi:k+i<e-b
 ·rw[Zdw hi,Zdw (by omega),Nat.add_assoc]
 ·rw[QT (by rw[Za1];omega),QT (by rw[Za1];omega)]
theorem Zjr{b m e:Nat}(h1:b≤m)(h2:m≤e):ZbE b m++ZbE m e=ZbE b e:=by
 have a:=Ze1 (b:=b) (e:=e) (k:=m-b) (by omega)
 have c:=Ze4 (b:=b) (e:=e) (k:=m-b) (by omega)
 rw[show b+(m-b)=m by omega]at a c
 rw[← a,← c,QU]
def Nf(w b e:Nat)(ts:List PT):Prop:=ZaO ts=ZbE b e∧Zcz w ts
theorem Nf.cut{w b e:Nat}{t:PT}{r:List PT}(h:Nf w b e (t::r))(hr:1≤r.length):∃mid,b<mid∧mid<e∧Nf w b mid [t]∧Nf w mid e r:=by
 obtain⟨h1,h2,h3⟩:=h
 have p1:=Ziq w t h2
 have p2:=ZdF w r h3
 have hl:(tLv t).length+(ZaO r).length=e-b:=by
  have:=congrArg List.length h1
  rw[Za1]at this
  rw[← this]
  show _=(tLv t++ZaO r).length
  rw[Qe]
 have e1:tLv t++ZaO r=ZbE b e:=h1
 refine⟨b+(tLv t).length,by omega,by omega,⟨?_,h2,trivial⟩,⟨?_,h3⟩⟩
 ·rw[← Ze1 (b:=b) (e:=e) (by omega),← e1,List.take_left]
  show tLv t++[]=_
  rw[QG]
 ·rw[← Ze4 (b:=b) (e:=e) (by omega),← e1,List.drop_left]
theorem Nf.app{w b m e:Nat}{a c:List PT}(h1:Nf w b m a)(h2:Nf w m e c)(hb:b≤m)(he:m≤e):Nf w b e (a++c):=by
 refine⟨?_,(ZgU w a c).mpr ⟨h1.2,h2.2⟩⟩
 rw[Zel,h1.1,h2.1,Zjr hb he]
theorem Nf.len{w b e:Nat}{ts:List PT}(h:Nf w b e ts):ts.length≤e-b:=by
 have:=ZdF w ts h.2
 rw[h.1,Za1]at this
 exact this
mutual
theorem ZmB(ns:List Int):∀t:PT,tSz ns t=((tLv t).map fun k=>ns.getD k.toNat 0).sum
 | .leaf k=>by show _=([ns.getD k.toNat 0]:List Int).sum;simp[tSz]
 | .node l=>ZfS ns l
theorem ZfS(ns:List Int):∀l:List PT,ZaA ns l=((ZaO l).map fun k=>ns.getD k.toNat 0).sum
 | []=>rfl
 | t::r=>by show tSz ns t+ZaA ns r=((tLv t++ZaO r).map _).sum;rw[Qf,List.sum_append,ZmB ns t,ZfS ns r]
end
def seg(ns:List Int)(b e:Nat):Int:=((ns.drop b).take (e-b)).sum
theorem ZmC{ns:List Int}{b e:Nat}(h:e≤ns.length):((ZbE b e).map fun k=>ns.getD k.toNat 0).sum=seg ns b e:=by
 unfold seg
 congr 1
 refine List.ext_getElem? fun i=>?_
 rw[Qt,List.getElem?_take,List.getElem?_drop]
 by_cases hi:i<e-b
 ·rw[if_pos hi,Zdw hi,Qc (by omega),Option.map_some,Q6,QL,Qc (by omega)]
  rfl
 ·rw[if_neg hi,QT (by rw[Za1];omega)]
  rfl
theorem Nf.size{ns:List Int}{w b e:Nat}{ts:List PT}(h:Nf w b e ts)(he:e≤ns.length):ZaA ns ts=seg ns b e:=by
 rw[ZfS,h.1,ZmC he]
mutual
theorem Zm7{ns:List Int}(hn:∀v∈ns,0≤v):∀t:PT,0≤tSz ns t
 | .leaf k=>by
  show 0≤ns.getD k.toNat 0
  rw[QL]
  cases h:ns[k.toNat]? with
  | none=>exact QS 0
  | some v=>exact hn v (QB h)
 | .node l=>ZfB hn l
theorem ZfB{ns:List Int}(hn:∀v∈ns,0≤v):∀l:List PT,0≤ZaA ns l
 | []=>QS 0
 | t::r=>by
  have h1:=Zm7 hn t
  have h2:=ZfB hn r
  show 0≤tSz ns t+ZaA ns r
  omega
end
mutual
theorem ZmZ{ns:List Int}(hn:∀v∈ns,0≤v):∀t:PT,0≤tCo ns t
 | .leaf k=>QS 0
 | .node l=>by
  have h1:=Zf2 hn l
  have h2:=ZfB hn l
  show 0≤ZaC ns l+ZaA ns l
  omega
theorem Zf2{ns:List Int}(hn:∀v∈ns,0≤v):∀l:List PT,0≤ZaC ns l
 | []=>QS 0
 | t::r=>by
  have h1:=ZmZ hn t
  have h2:=Zf2 hn r
  show 0≤tCo ns t+ZaC ns r
  omega
end
structure Gr (ns:List Int) (w b e m:Nat) (p:Int) (ts:List PT):Prop where
 l1:1≤ts.length
 lm:ts.length≤m
 nf:Nf w b e ts
 co:ZaC ns ts=p
 le:∀us,1≤us.length→us.length≤m→Nf w b e us→p≤ZaC ns us
structure Gc (ns:List Int) (w b e m:Nat) (p:Int) (ts:List PT):Prop where
 l1:2≤ts.length
 lm:ts.length≤m
 nf:Nf w b e ts
 co:ZaC ns ts=p
 le:∀us,2≤us.length→us.length≤m→Nf w b e us→p≤ZaC ns us
theorem ZhW{ns:List Int}(hn:∀v∈ns,0≤v)(w b m:Nat)(h:1≤m):Gr ns w b (b+1) m 0 [.leaf (b:Int)]:=by
 refine⟨Qd 1,h,⟨?_,trivial,trivial⟩,rfl,fun us _ _ _=>Zf2 hn us⟩
 show [(b:Int)]=ZbE b (b+1)
 unfold ZbE
 rw[show b+1-b=1 by omega]
 rfl
theorem Zjz{ns:List Int}{w b e m mid:Nat}{p1 p2:Int}{t1 t2:List PT}(hm:2≤m)(hb:b<mid)(he:mid<e)(g1:Gr ns w b mid 1 p1 t1)(g2:Gr ns w mid e (m-1) p2 t2)
  (hle:∀k q1 q2 u1 u2,b<k→k<e→Gr ns w b k 1 q1 u1→Gr ns w k e (m-1) q2 u2→p1+p2≤q1+q2) (hex:∀k,b<k→k<e→∃q1 q2 u1 u2,Gr ns w b k 1 q1 u1∧Gr ns w k e (m-1) q2 u2):Gc ns w b e m (p1+p2) (t1++t2):=by
 have a1:=g1.l1
 have a2:=g1.lm
 have a3:=g2.l1
 have a4:=g2.lm
 refine⟨by rw[Qe];omega,by rw[Qe];omega,g1.nf.app g2.nf (by omega) (by omega),by rw[Zdr,g1.co,g2.co],fun us h2 hl hu=>?_⟩
 cases us with
 | nil=>simp at h2
 | cons t r =>
  simp only[List.length_cons]at h2 hl
  obtain⟨k,k1,k2,n1,n2⟩:=hu.cut (by omega)
  obtain⟨q1,q2,u1,u2,f1,f2⟩:=hex k k1 k2
  have c1:=f1.le [t] (by simp) (by simp) n1
  have c2:=f2.le r (by omega) (by omega) n2
  have c3:=hle k q1 q2 u1 u2 k1 k2 f1 f2
  have e1:ZaC ns [t]=tCo ns t:=by show tCo ns t+0=_;omega
  show _≤tCo ns t+ZaC ns r
  omega
theorem Ziz{ns:List Int}{w b e:Nat}{p:Int}{ts:List PT}(h:Gc ns w b e w p ts)(hbe:b+1<e)(he:e≤ns.length):Gr ns w b e 1 (p+seg ns b e) [.node ts]:=by
 have a1:=h.l1
 have a2:=h.lm
 refine⟨Qd 1,Qd 1,⟨?_,⟨a1,a2,h.nf.2⟩,trivial⟩,?_,fun us h1 h2 hu=>?_⟩
 ·show ZaO ts++[]=_
  rw[QG,h.nf.1]
 ·show ZaC ns ts+ZaA ns ts+0=_
  rw[h.co,h.nf.size he]
  omega
 ·cases us with
  | nil=>simp at h1
  | cons t r =>
   have:r=[]:=by simpa using h2
   subst this
   cases t with
   | leaf k =>
    have:=congrArg List.length hu.1
    rw[Za1]at this
    have:1=e-b:=this
    omega
   | node l =>
    have hp:2≤l.length∧l.length≤w∧Zcz w l:=hu.2.1
    have hv:ZaO l=ZbE b e:=by
     have h9:ZaO l++[]=ZbE b e:=hu.1
     rw[QG]at h9
     exact h9
    have hl:Nf w b e l:=⟨hv,hp.2.2⟩
    have:=h.le l hp.1 hp.2.1 hl
    show _≤ZaC ns l+ZaA ns l+0
    rw[hl.size he]
    omega
theorem Zit{ns:List Int}{w b e m:Nat}{p q:Int}{ts us:List PT}(hm:1≤m)(h:Gr ns w b e 1 p ts)(g:Gc ns w b e m q us):(q<p→Gr ns w b e m q us)∧(¬ q<p→Gr ns w b e m p ts):=by
 have a1:=h.l1
 have a2:=h.lm
 have a3:=g.l1
 have both:∀vs,1≤vs.length→vs.length≤m→Nf w b e vs→(vs.length=1∧p≤ZaC ns vs)∨q≤ZaC ns vs:=fun vs v1 v2 hv=>by
  by_cases h1:vs.length=1
  ·exact .inl ⟨h1,h.le vs (by omega) (by omega) hv⟩
  ·exact .inr (g.le vs (by omega) v2 hv)
 refine⟨fun hl=>⟨by omega,g.lm,g.nf,g.co,fun vs v1 v2 hv=>?_⟩,fun hl=>⟨h.l1,by omega,h.nf,h.co,fun vs v1 v2 hv=>?_⟩⟩
 ·rcases both vs v1 v2 hv with⟨_,z⟩|z<;>omega
 ·rcases both vs v1 v2 hv with⟨_,z⟩|z<;>omega
theorem Zkf{ns:List Int}{w b m:Nat}{p:Int}{ts:List PT}(h:Gr ns w b (b+1) 1 p ts)(hm:1≤m):Gr ns w b (b+1) m p ts:=by
 have a1:=h.l1
 have a2:=h.lm
 refine⟨h.l1,by omega,h.nf,h.co,fun us u1 u2 hu=>h.le us u1 ?_ hu⟩
 have:=hu.len
 omega
theorem Zbb{ns:List Int}{w b e:Nat}{p q:Int}{ts us:List PT}{m:Nat}(h:Gr ns w b e m p ts)(g:Gr ns w b e m q us):p=q:=by
 have a:=h.le us g.l1 g.lm g.nf
 have c:=g.le ts h.l1 h.lm h.nf
 rw[g.co]at a
 rw[h.co]at c
 omega
theorem ZbP{K:PySem.W.Frag}{H:Hp}:∀ns:List Int,DVs K H (ns.map V.int) (ns.map PyData.int)
 | []=>.nil
 | s::r=>.cons (.int s) (ZbP r)
def Zmm:Sp:=fun vs H Q _=>(∃i:Int,vs=[.int i]∧Q (.bl true) H)∨(∃ (a:Addr) (xs:List V),vs=[.ref a]∧H a=some (.tup xs)∧Q (.bl false) H)
theorem Zi1(K:PySem.W.Frag):PySem.W.kitOne K (.type "tuple") (.type "int")=some false:=by unfold PySem.W.kitOne PySem.W.kitCls;rfl
theorem Zff(K:PySem.W.Frag):PySem.W.kitOne K (.type "int") (.type "tuple")=some false:=by unfold PySem.W.kitOne PySem.W.kitCls;rfl
theorem ZmX(T:Zat K mg):Df P w K mg base 1 "is_number" ["thing"] Zmm:=by
 refine T.t_is_number.df Zdt (fun vs H Q E h=>?_) (fun cdv f A outer s H vs Q E hr h=>?_)
 ·rcases h with⟨_,rfl,_⟩|⟨_,_,rfl,_⟩<;>rfl
 refine⟨_,#[Zj,#[Zo,#[Zdb,#[Zk,(Zcy K),(by rfl),T.b.n_isinstance,boot_isinstance,#[Za,‹0›,#[Za,#[Zbg,T.b.n_int,boot_int,(by rfl)],#[Zd]]]],(@ZdP _ _ _ _ _ (@Zhl _ _ _ _ #[Zk,(Zcy K),(by rfl),T.b.n_isinstance,boot_isinstance,#[Za,‹0›,#[Za,#[Zbg,T.b.n_bool,boot_bool,(by rfl)],#[Zd]]]]))]]],?_⟩
 rcases h with⟨i,rfl,q⟩|⟨a,xs,rfl,ha,q⟩
 ·exact⟨_,rfl,_, "int",_,_,rfl,.int i,ZiI K,_,rfl,Z9 ⟨_,rfl,_, "bool",_,_,rfl,.int i,ZgP K,_,rfl,q⟩⟩
 ·exact⟨_,rfl,_, "int",_,_,rfl,.tup ha,Zi1 K,_,rfl,ZaG q⟩
theorem Zkm{ns:List Int}{k:Int}(h:0≤k∧k<(ns.length:Nat)):atI (ns.map V.int) k=some (.int (ns.getD k.toNat 0)):=by
 have hk:k.toNat<ns.length:=by omega
 have ek:k=((k.toNat:Nat):Int):=by omega
 have q:atI (ns.map V.int) ((k.toNat:Nat):Int)=some (.int ns[k.toNat]):=Zbl (by rw[Qt,Qc hk]<;>rfl)
 rw[← ek]at q
 rw[q,QL,Qc hk];rfl
theorem Zgh{f:PT→Int}:∀ (l:List PT) (i:Nat) (t:PT),l[i]? = some t→((l.take (i+1)).map f).sum=((l.take i).map f).sum+f t:=by
 intro l i t h
 rw[Qv,h]
 simp
theorem ZhK(ns:List Int):∀l:List PT,(l.map (tSz ns)).sum=ZaA ns l
 | []=>rfl
 | t::r=>by show tSz ns t+(r.map (tSz ns)).sum=_;rw[ZhK ns r];rfl
theorem Zh3(ns:List Int):∀l:List PT,(l.map (tCo ns)).sum=ZaC ns l
 | []=>rfl
 | t::r=>by show tCo ns t+(r.map (tCo ns)).sum=_;rw[Zh3 ns r];rfl
theorem Z4{H H':Hp}(s:Zn H H'):∀a xs,H a=some (.tup xs)→H' a=some (.tup xs):=fun a xs h=>s a _ h
def Zks:Sp:=fun vs H Q _=>∃ (p:Addr) (c:Int),vs=[.ref p]∧ZZ H p c∧c<2 ^ 50∧∀ (v c':Int) (H':Hp),0≤v→v≤12→ZZ H' p c'→c≤c'→c'≤c+3→But p H H'→Q (.int v) H'
theorem ZkT(T:Zat K mg)(f_l_pick:Df P w K mg base 2 "_law_pick" ["_law_left_here", "_law_many_here"] Zcx):Df P w K mg base 3 "_law_many" ["_law_left_here"] Zks:=by
 refine T.t_l_many.df Zfr (fun vs H Q E h=>?_) (fun cdv f A outer s H vs Q E hr h=>?_)
 ·obtain⟨p,c,rfl,_⟩:=h
  rfl
 obtain⟨p,c,rfl,hL,c1,q⟩:=h
 refine⟨_,#[Zf,#[Zq,1,Zfr.nd,(Or.inl rfl),#[Zu,f_l_pick,hr,#[Za,‹0›,#[Za,#[Ze],#[Zd]]],(by rfl)]],#[Zj,#[Zo,#[ZJ,(ixL K),#[ZH,#[Za,#[Ze],#[Za,#[Ze],#[Za,#[Ze],#[Za,#[Ze],#[Za,#[Ze],#[Za,#[Ze],#[Za,#[Zu,f_l_pick,hr,#[Za,‹0›,#[Za,#[Ze],#[Zd]]],(by rfl)],#[Za,#[Zm,ZG,#[Ze],#[Zu,f_l_pick,hr,#[Za,‹0›,#[Za,#[Ze],#[Zd]]],(by rfl)]],#[Zd]]]]]]]]]],‹1›]]]],?_⟩
 have c0:=hL.ge
 refine⟨_,rfl,p,c,_,rfl,hL,by omega,by decide,by decide,fun wy H1 w0 w1 L1 B1=>?_⟩
 refine⟨_,rfl,p,c+1,_,rfl,L1,by omega,by decide,by decide,fun d1 H2 d10 d11 L2 B2=>?_⟩
 refine⟨_,rfl,p,c+1+1,_,rfl,L2,by omega,by decide,by decide,fun d2 H3 d20 d21 L3 B3=>⟨_,_,rfl,rfl,(by show 8≤sizeLine;decide),fun e he=>?_⟩⟩
 obtain⟨v,hv,hat⟩:=Zeh (ns:=[2,3,4,5,6,3,d1,7+d2]) w0 w1
 have hv1:0≤v∧v≤12:=by
  simp only[List.mem_cons,List.not_mem_nil,or_false]at hv
  omega
 exact⟨_,rfl,e,_,_,_,rfl,rfl,SqL.of Zb,hat,q v _ _ hv1.1 hv1.2 (L3.new he) (by omega) (by omega) (((B1.trans B2).trans B3).trans (But.same (Zc he _)))⟩
def Zj0:Sp:=fun vs H Q _=>∃ (p:Addr) (c:Int),vs=[.ref p]∧ZZ H p c∧c<2 ^ 50∧∀ (v:Int) (H':Hp),2≤v→v≤6→ZZ H' p (c+1)→But p H H'→Q (.int v) H'
theorem Zlp(T:Zat K mg)(f_l_pick:Df P w K mg base 2 "_law_pick" ["_law_left_here", "_law_many_here"] Zcx):Df P w K mg base 3 "_law_ways" ["_law_left_here"] Zj0:=by
 refine T.t_l_ways.df Zi7 (fun vs H Q E h=>?_) (fun cdv f A outer s H vs Q E hr h=>?_)
 ·obtain⟨p,c,rfl,_⟩:=h
  rfl
 obtain⟨p,c,rfl,hL,c1,q⟩:=h
 refine⟨_,#[Zj,#[Zo,#[ZJ,(ixL K),#[ZH,#[Za,#[Ze],#[Za,#[Ze],#[Za,#[Ze],#[Za,#[Ze],#[Za,#[Ze],#[Za,#[Ze],#[Zd]]]]]]]],#[Zu,f_l_pick,hr,#[Za,‹0›,#[Za,#[Ze],#[Zd]]],(by rfl)]]]],?_⟩
 refine⟨(by show 6≤sizeLine;decide),fun e he=>?_⟩
 have npe:p≠e:=by obtain⟨o,ho⟩:=hL.here;exact Zg ho he
 refine⟨_,rfl,p,c,_,rfl,hL.new he,by omega,by decide,by decide,fun wy H1 w0 w1 L1 B1=>?_⟩
 obtain⟨v,hv,hat⟩:=Zeh (ns:=[2,3,2,4,5,6]) w0 w1
 have hv1:2≤v∧v≤6:=by
  simp only[List.mem_cons,List.not_mem_nil,or_false]at hv
  omega
 have he1:H1 e=some (.lst (([2,3,2,4,5,6]:List Int).map V.int)):=B1 e _ Zb npe.symm
 exact⟨e,_,_,_,rfl,rfl,SqL.of he1,hat,q v _ hv1.1 hv1.2 L1 ((But.same (Zc he _)).trans B1)⟩
theorem ZdH{n:Nat}{l:List PT}(hn:n≤1000)(h:Zbu n l)(hd:ZaN l≤30):SeqAt.shaped (.list (Zad l))=true:=by
 obtain⟨a,b,c,d,e⟩:=ZdQ hn l h
 simp[SeqAt.shaped,PyData.canLay0,PyData.depth,a,b]
 omega
theorem Zj6(l:List PT):(if true=true then !PyData.eqv (.list (Zad l)) (.list []) else PyData.eqv (.list (Zad l)) (.list [])) = !l.isEmpty:=by
 cases l with
 | nil=>ac_rfl
 | cons t r=>simp[Zad,PyData.eqv,PyData.eqvAll]
theorem Zcl{H:Hp}{b:Addr}{ys:List V}(h:H b=some (.lst ys))(o:HO):∀a xs,H a=some (.tup xs)→(upd H b o) a=some (.tup xs):=fun a xs e=>by
 have nb:a≠b:=by intro z;rw[z,h]at e;cases e
 rw[Zi nb];exact e
def ZfU:Sp:=fun vs H Q _=>∃ (x:V) (t:PT) (ns:List Int) (n:Nat),vs=[x]∧TV H x t∧ns.length=n∧n≤1000∧tOk n t∧tDp t≤30∧tNo t≤200 ∧
 ∀ (r:Addr) (ks:List Int) (H':Hp),H r=none→H' r=some (.lst (ks.map V.int))→(∀k∈ks,0≤k∧k<(n:Nat))→(ks.map fun k=>ns.getD k.toNat 0).sum=tSz ns t→ks=tLv t→ks.length≤200→Zn H H'→Q (.ref r) H'
theorem Zk3(T:Zat K mg):Df P w K mg base 1 "_law_rows_in" ["_law_tree"] ZfU:=by
 refine T.t_l_rows_in.df ZbG (fun vs H Q E h=>?_) (fun cdv f A outer s H vs Q E hr h=>?_)
 ·obtain⟨x,t,ns,n,rfl,_⟩:=h
  rfl
 obtain⟨x,t,ns,n,rfl,hT,hns,hn,hok,hdp,hno,q⟩:=h
 refine⟨_,#[Zf,#[Zq,1,ZbG.nd,(Or.inl rfl),#[ZH,#[Zd]]],#[Zf,#[Zq,2,ZbG.nd,(Or.inl rfl),#[ZH,#[Za,‹0›,#[Zd]]]],#[Zf,(@ZcJ _ _ _ _ _ _ PassesOwn.never #[Zy,#[neD,K,hr],‹2›,#[ZH,#[Zd]],(ZD _)] #[Zf,#[Zq,3,ZbG.nd,(Or.inl rfl),(@Zhg _ _ _ _ _ _ _ _ _ QC PySem.F.slot_list_pop PySem.F.type_list_pop Zg1 ‹2› (by rfl) (by rfl))],#[Zj,#[Z0,#[Zak,#[Zk,(Zcy K),(by rfl),T.b.n_isinstance,boot_isinstance,#[Za,‹3›,#[Za,#[Zbg,T.b.n_tuple,boot_tuple,(by rfl)],#[Zd]]]]],#[Zj,#[Zbk,#[ZcX,QC,Qae,Qaf,(ZmV K),‹2›,#[Za,(@ZdT _ _ _ _ _ _ _ _ _ _ _ _ (Zn4 K) ‹3› #[ZL] #[ZL] #[Zz,#[ZeB,Zdh,#[Ze]]]),#[Zd]]]]],#[Zj,#[Zbk,#[ZcX,QC,QP,QR,ZaS,‹1›,#[Za,‹3›,#[Zd]]]]]]]]),#[Zj,#[Zo,‹1›]]]]],?_⟩
 refine⟨(by show 0≤sizeLine;decide),fun f hf=>⟨_,rfl,(by show 1≤sizeLine;decide),fun wa hwa=>?_⟩⟩
 have hwH:H wa=none:=(Zc hf (.lst [])).free hwa
 have nfw:f≠wa:=Zg (H:=upd H f (.lst [])) Zb hwa
 have s0:Zn H (upd (upd H f (.lst [])) wa (.lst [x])):=(Zc hf _).trans (Zc hwa _)
 refine⟨fun m σ H2=>∃ (xs:List V) (l:List PT) (ks:List Int) (v3:Option V),σ=[some x,some (.ref f),some (.ref wa),v3]∧H2 wa=some (.lst xs)∧TVs H2 xs l∧Zbu n l∧ZaN l≤30∧H2 f=some (.lst (ks.map V.int))∧(∀k∈ks,0≤k∧k<(n:Nat))∧(ks.map fun k=>ns.getD k.toNat 0).sum+ZaA ns l=tSz ns t∧ks++ZaO l.reverse=tLv t∧ks.length+Zac l≤200∧Zn H H2∧m=Zac l,
  ⟨_,[x],[t],[],none,rfl,Zb,.cons (hT.mono (Z4 s0)) .nil,⟨hok,trivial⟩,?_,?_,(fun k h=>by cases h),?_,(by show tLv t++[]=tLv t;rw[QG]),?_,s0,rfl⟩,?_⟩
 ·show max (tDp t) 0≤30;omega
 ·rw[Zi nfw];exact Zb
 ·show (0:Int)+(tSz ns t+0)=tSz ns t;omega
 ·show 0+(tNo t+0)≤200;omega
 rintro m σ H2 ⟨xs,l,ks,v3,rfl,hw2,hT2,ok2,dp2,hf2,hks,hsum,hlv,hcnt,s2,rfl⟩
 refine⟨_,rfl,(by show 0≤sizeLine;decide),fun e he=>?_⟩
 have se:=Zc he (.lst [])
 refine⟨.list (Zad l),.list [],.lst (SqL.of (se _ _ hw2)) (hT2.mono (Z4 se)).dv,.lst (SqL.of Zb) .nil,ZdH hn ok2 dp2,(by ac_rfl),_,rfl,?_⟩
 rw[Zj6]
 have hw3:=se _ _ hw2
 have hf3:=se _ _ hf2
 have s3:=s2.trans se
 have hT3:=hT2.mono (Z4 se)
 generalize upd H2 e (.lst [])=H3 at hw3 hf3 s3 hT3 ⊢
 cases hl:l.isEmpty with
 | true =>
  have e0:l=[]:=List.isEmpty_iff.mp hl
  subst e0
  refine ZaG ⟨_,rfl,q f ks H3 hf hf3 hks ?_ (by have h9:ks++[]=tLv t:=hlv;rw[QG]at h9;exact h9) ?_ s3⟩
  ·have:(ks.map fun k=>ns.getD k.toNat 0).sum+0=tSz ns t:=hsum
   omega
  ·omega
 | false =>
  have lpos:0<l.length:=by
   cases l with
   | nil=>cases hl
   | cons a r=>simp
  obtain⟨y,u,hy,hu,hTd,el⟩:=hT3.last lpos
  have okd:Zbu n l.dropLast∧tOk n u:=by
   have:=ok2;rw[el,ZaW]at this;exact⟨this.1,this.2.1⟩
  have szd:ZaA ns l=ZaA ns l.dropLast+tSz ns u:=by
   have:ZaA ns (l.dropLast++[u])=_:=Zdk ns _ _
   rw[← el]at this;rw[this];show _+(tSz ns u+0)=_;omega
  have nod:Zac l=Zac l.dropLast+tNo u:=by
   have:Zac (l.dropLast++[u])=_:=Zbv _ _
   rw[← el]at this;rw[this];show _+(tNo u+0)=_;omega
  have dpd:ZaN l=max (ZaN l.dropLast) (tDp u):=by
   have:ZaN (l.dropLast++[u])=_:=Zcb _ _
   rw[← el]at this;rw[this];show max _ (max (tDp u) 0)=_;omega
  have hup:=Zec u
  have lvd:ZaO l.reverse=tLv u++ZaO l.dropLast.reverse:=by
   have e9:l.reverse=u::l.dropLast.reverse:=by conv=>lhs;rw[el];simp
   rw[e9];rfl
  refine Z9 ⟨_,fun σ' H' h=>h,?_⟩
  refine⟨_,rfl,.inl ⟨rfl,_,SqL.of hw3⟩,wa,xs,y,rfl,rfl,hw3,hy,?_⟩
  have hw4:(upd H3 wa (.lst xs.dropLast)) wa=some (.lst xs.dropLast):=Zb
  have hf4:(upd H3 wa (.lst xs.dropLast)) f=some (.lst (ks.map V.int)):=by rw[Zi nfw];exact hf3
  have s4:Zn H (upd H3 wa (.lst xs.dropLast)):=fun b o h=>by rw[Zi (Zg h hwH)];exact s3 b o h
  have hTd4:=hTd.mono (Zcl hw3 (.lst xs.dropLast))
  have hu4:=hu.mono (Zcl hw3 (.lst xs.dropLast))
  generalize upd H3 wa (.lst xs.dropLast)=H4 at hw4 hf4 s4 hTd4 hu4 ⊢
  cases hu4 with
  | leaf k =>
   refine⟨_,rfl,_, "tuple",_,_,rfl,.int k,Zff K,_,rfl,ZaG ?_⟩
   refine⟨_,rfl,.inl ⟨rfl,_,SqL.of hf4⟩,_,rfl,f,_,_,rfl,rfl,hf4,(by rw[Qa];exact ZM (by omega)),_,?_,xs.dropLast,l.dropLast,ks++[k],_,rfl,?_,?_,okd.1,by omega,?_,?_,?_,(by rw[← hlv,lvd,Q7];rfl),?_,?_,rfl⟩
   ·have:tNo (.leaf k)=1:=rfl
    omega
   ·rw[Zi nfw.symm];exact hw4
   ·exact hTd4.mono (Zcl hf4 _)
   ·rw[Zb,Qf];rfl
   ·intro z hz
    rcases Qr.mp hz with hz|hz
    ·exact hks z hz
    ·rw[Qg.mp hz];exact okd.2
   ·rw[Qf,List.sum_append]
    have:tSz ns (.leaf k)=ns.getD k.toNat 0:=rfl
    simp only[List.map_cons,List.map_nil,List.sum_cons,List.sum_nil]
    omega
   ·have:tNo (.leaf k)=1:=rfl
    rw[Qe,Qh];omega
   ·intro b o h
    rw[Zi (Zg h hf)];exact s4 b o h
  | node ha hs =>
   rename_i a' ys l'
   have hno':tNo (.node l')=Zac l'+1:=rfl
   have hdp':tDp (.node l')=ZaN l'+1:=rfl
   have hsz':tSz ns (.node l')=ZaA ns l':=rfl
   refine⟨_,rfl,_, "tuple",_,_,rfl,.tup ha,Ze8 K,_,rfl,Z9 ?_⟩
   refine⟨_,rfl,.inl ⟨rfl,_,SqL.of hw4⟩,_,rfl,_,rfl,_,rfl,_,rfl,a',ys,rfl,SqT.of ha,rfl,rfl,rfl,fun tp htp=>?_⟩
   have hw5:=Zc htp (.tup ys.reverse) _ _ hw4
   have st:=Zc htp (.tup ys.reverse)
   have l1:=hTd4.len
   have l2:=hs.len
   have l3:=Zc0 l.dropLast
   have l4:=Zc0 l'
   refine⟨wa,tp,_,_,rfl,rfl,hw5,Zb,(ZjO (by rw[Qaw];omega)),_,?_,xs.dropLast++ys.reverse,l.dropLast++l'.reverse,ks,_,rfl,Zb,?_,?_,?_,?_,hks,?_,(by rw[List.reverse_append,List.reverse_reverse,Zel,← hlv,lvd];rfl),?_,?_,rfl⟩
   ·rw[Zbv,ZeJ];omega
   ·exact((hTd4.mono (Z4 st)).app (hs.rev.mono (Z4 st))).mono (Zcl hw5 _)
   ·rw[ZaW,ZgN];exact okd
   ·rw[Zcb,Zf6];omega
   ·rw[Zi nfw];exact st _ _ hf4
   ·rw[Zdk,ZgM];omega
   ·rw[Zbv,ZeJ];omega
   ·intro b o h
    rw[Zi (Zg h hwH)];exact st _ _ (s4 b o h)
def ZfE(K:PySem.W.Frag):Sp:=fun vs H Q _=>∃ (a:Addr) (ns:List Int) (x:V) (t:PT),vs=[.ref a,x]∧SqL K H a (ns.map V.int)∧ns.length≤100∧(∀v∈ns,0≤v∧v≤10000000000)∧TV H x t∧tOk ns.length t∧tDp t≤30∧tNo t≤200∧∀H',Zn H H'→Q (.int (tCo ns t)) H'
theorem Zlk(T:Zat K mg)(f_l_rows_in:Df P w K mg base 1 "_law_rows_in" ["_law_tree"] ZfU):Df P w K mg base 2 "_law_cost" ["_law_sizes_here", "_law_tree"] (ZfE K):=by
 refine T.t_l_cost.df Zcd (fun vs H Q E h=>?_) (fun cdv f A outer s H vs Q E hr h=>?_)
 ·obtain⟨a,ns,x,t,rfl,_⟩:=h
  rfl
 obtain⟨a,ns,x,t,rfl,hS,hn,hbd,hT,hok,hdp,hno,q⟩:=h
 refine⟨_,#[Zf,#[Zq,2,Zcd.nd,(Or.inl rfl),#[Ze]],#[Zf,#[Zq,3,Zcd.nd,(Or.inl rfl),#[ZH,#[Za,‹1›,#[Zd]]]],#[Zf,(@ZcJ _ _ _ _ _ _ PassesOwn.never #[Zy,#[neD,K,hr],‹3›,#[ZH,#[Zd]],(ZD _)] #[Zf,#[Zq,4,Zcd.nd,(Or.inl rfl),(@Zhg _ _ _ _ _ _ _ _ _ QC PySem.F.slot_list_pop PySem.F.type_list_pop Zg1 ‹3› (by rfl) (by rfl))],#[Zj,#[Z0,#[Zak,#[Zk,(Zcy K),(by rfl),T.b.n_isinstance,boot_isinstance,#[Za,‹4›,#[Za,#[Zbg,T.b.n_tuple,boot_tuple,(by rfl)],#[Zd]]]]],#[Zf,#[Zq,2,Zcd.nd,(Or.inl rfl),#[Zm,ZG,‹2›,#[Zk,(ZlT K),(by rfl),T.b.n_sum,boot_sum,#[Za,#[ZaD,Zlb,#[iL,K,#[Zu,f_l_rows_in,hr,#[Za,‹4›,#[Zd]],(by rfl)]],(fun _ _ _ _=>#[cg,5,Zlb]),(fun _ _ _ _=>(@ZaE _)),(fun _ _ _ _=>#[ZJ,(ixL K),#[cv,0,Zlb],#[cw,5,Zlb]])],#[Zd]]]]],#[Zj,#[Zbk,#[ZcX,QC,Qae,Qaf,(ZmV K),‹3›,#[Za,‹4›,#[Zd]]]]]],#[ZK]]]]),#[Zj,#[Zo,‹2›]]]]],?_⟩
 refine⟨_,rfl,(by show 1≤sizeLine;decide),fun wa hwa=>?_⟩
 have s0:Zn H (upd H wa (.lst [x])):=Zc hwa _
 refine⟨fun m σ H2=>∃ (xs:List V) (l:List PT) (tot:Int) (v4:Option V),σ=[some (.ref a),some x,some (.int tot),some (.ref wa),v4]∧H2 wa=some (.lst xs)∧TVs H2 xs l∧Zbu ns.length l∧ZaN l≤30∧tot+ZaC ns l=tCo ns t∧Zac l≤200∧Zn H H2∧m=Zac l,
  ⟨_,[x],[t],0,none,rfl,Zb,.cons (hT.mono (Z4 s0)) .nil,⟨hok,trivial⟩,?_,?_,?_,s0,rfl⟩,?_⟩
 ·show max (tDp t) 0≤30;omega
 ·show (0:Int)+(tCo ns t+0)=tCo ns t;omega
 ·show tNo t+0≤200;omega
 rintro m σ H2 ⟨xs,l,tot,v4,rfl,hw2,hT2,ok2,dp2,hsum,hcnt,s2,rfl⟩
 refine⟨_,rfl,(by show 0≤sizeLine;decide),fun e he=>?_⟩
 have se:=Zc he (.lst [])
 refine⟨.list (Zad l),.list [],.lst (SqL.of (se _ _ hw2)) (hT2.mono (Z4 se)).dv,.lst (SqL.of Zb) .nil,ZdH (by omega) ok2 dp2,(by ac_rfl),_,rfl,?_⟩
 rw[Zj6]
 have hw3:=se _ _ hw2
 have s3:=s2.trans se
 have hT3:=hT2.mono (Z4 se)
 generalize upd H2 e (.lst [])=H3 at hw3 s3 hT3 ⊢
 cases hl:l.isEmpty with
 | true =>
  have e0:l=[]:=List.isEmpty_iff.mp hl
  subst e0
  have e1:tot=tCo ns t:=by have:tot+0=tCo ns t:=hsum;omega
  subst e1
  exact ZaG ⟨_,rfl,q H3 s3⟩
 | false =>
  have lpos:0<l.length:=by
   cases l with
   | nil=>cases hl
   | cons a r=>simp
  obtain⟨y,u,hy,hu,hTd,el⟩:=hT3.last lpos
  have okd:Zbu ns.length l.dropLast∧tOk ns.length u:=by
   have:=ok2;rw[el,ZaW]at this;exact⟨this.1,this.2.1⟩
  have cod:ZaC ns l=ZaC ns l.dropLast+tCo ns u:=by
   have:ZaC ns (l.dropLast++[u])=_:=Zdr ns _ _
   rw[← el]at this;rw[this];show _+(tCo ns u+0)=_;omega
  have nod:Zac l=Zac l.dropLast+tNo u:=by
   have:Zac (l.dropLast++[u])=_:=Zbv _ _
   rw[← el]at this;rw[this];show _+(tNo u+0)=_;omega
  have dpd:ZaN l=max (ZaN l.dropLast) (tDp u):=by
   have:ZaN (l.dropLast++[u])=_:=Zcb _ _
   rw[← el]at this;rw[this];show max _ (max (tDp u) 0)=_;omega
  have hup:=Zec u
  refine Z9 ⟨_,fun σ' H' h=>h,?_⟩
  refine⟨_,rfl,.inl ⟨rfl,_,SqL.of hw3⟩,wa,xs,y,rfl,rfl,hw3,hy,?_⟩
  have hw4:(upd H3 wa (.lst xs.dropLast)) wa=some (.lst xs.dropLast):=Zb
  have s4:Zn H (upd H3 wa (.lst xs.dropLast)):=fun b o h=>by rw[Zi (Zg h hwa)];exact s3 b o h
  have hTd4:=hTd.mono (Zcl hw3 (.lst xs.dropLast))
  have hu4:=hu.mono (Zcl hw3 (.lst xs.dropLast))
  generalize upd H3 wa (.lst xs.dropLast)=H4 at hw4 s4 hTd4 hu4 ⊢
  have hu4':=id hu4
  cases hu4 with
  | leaf k =>
   refine⟨_,rfl,_, "tuple",_,_,rfl,.int k,Zff K,_,rfl,ZaG ?_⟩
   have e1:tNo (.leaf k)=1:=rfl
   have e2:tCo ns (.leaf k)=0:=rfl
   exact⟨_,by show Zac l.dropLast<Zac l;omega,xs.dropLast,l.dropLast,tot,_,rfl,hw4,hTd4,okd.1,by omega,by omega,by omega,s4,rfl⟩
  | node ha hs =>
   rename_i a' ys l'
   have hno':tNo (.node l')=Zac l'+1:=rfl
   have hdp':tDp (.node l')=ZaN l'+1:=rfl
   have hco':tCo ns (.node l')=ZaC ns l'+ZaA ns l':=rfl
   have hsz':tSz ns (.node l')=ZaA ns l':=rfl
   refine⟨_,rfl,_, "tuple",_,_,rfl,.tup ha,Ze8 K,_,rfl,Z9 ?_⟩
   refine⟨_,rfl,_,rfl,.ref a',.node l',ns,ns.length,rfl,hu4',rfl,by omega,okd.2,by omega,by omega,fun r ks H5 hr0 hr5 hks hsumr _ hkl s5=>⟨r,rfl,⟨_,SqL.of hr5⟩,fun D hD=>?_⟩⟩
   have hS5:=(s4.trans s5).seq hS
   refine Zbp (K:=K) (a:=r) (xs:=ks.map V.int) (fun i zs σ H6=>(∃v:Option V,σ=[some (.ref a),some x,some (.int tot),some (.ref wa),some (.ref a'),v])∧zs=((ks.take i).map fun k=>ns.getD k.toNat 0).map V.int∧i≤ks.length∧H6 D=some (.lst zs)∧Zn H5 H6) ?_ (fun _ _ _ _ h=>SqL.of (h.2.2.2.2 _ _ hr5)) ?_ ?_
   ·exact⟨⟨none,rfl⟩,rfl,Qm _,Zb,Zc hD _⟩
   ·rintro i z zs σ H6 hz ⟨⟨v,rfl⟩,rfl,hi,hD6,s6⟩
    rw[Qt]at hz
    cases hk:ks[i]? with
    | none=>rw[hk]at hz;cases hz
    | some k =>
     rw[hk]at hz
     cases hz
     have hil:i<ks.length:=(Qi.mp hk).1
     refine⟨_,rfl,_,rfl,a,_,_,_,rfl,rfl,s6.seq hS5,Zkm (hks k (QB hk)),hD6,(by rw[Qa,Qa,Qk];exact ZM (by omega)),⟨_,rfl⟩,?_,hil,Zb,fun b o h=>?_⟩
     ·rw[Qv,hk];simp
     ·rw[Zi (Zg h hD)];exact s6 b o h
   ·rintro zs σ H6 ⟨⟨v,rfl⟩,rfl,hi,hD6,s6⟩
    rw[Qa,Qn (Qd _)]at hD6
    refine⟨D,ks.map fun k=>ns.getD k.toNat 0,rfl,SqL.of hD6,by rw[Qa];omega,fun v hv=>?_,_,_,rfl,rfl,?_⟩
    ·obtain⟨k,hk,rfl⟩:=Qz.mp hv
     have hk2:=hks k hk
     have hkn:k.toNat<ns.length:=by omega
     rw[QL,Qc hkn]
     have h9:=hbd _ (Q5 hkn);exact⟨h9.1,Int.le_trans h9.2 (by decide)⟩
    rw[hsumr]
    have s46:=s5.trans s6
    have hw6:=s46 _ _ hw4
    have l1:=hTd4.len
    have l2:=hs.len
    have l3:=Zc0 l.dropLast
    have l4:=Zc0 l'
    refine⟨_,rfl,.inl ⟨rfl,_,SqL.of hw6⟩,_,rfl,wa,a',_,_,rfl,rfl,hw6,s46 _ _ ha,(ZjO (by omega)),_,?_,xs.dropLast++ys,l.dropLast++l',tot+tSz ns (.node l'),_,rfl,Zb,?_,?_,?_,?_,?_,?_,rfl⟩
    ·show Zac (l.dropLast++l')<Zac l
     rw[Zbv];omega
    ·exact((hTd4.app hs).mono (Z4 s46)).mono (Zcl hw6 _)
    ·rw[ZaW];exact okd
    ·rw[Zcb];omega
    ·rw[Zdr];omega
    ·rw[Zbv];omega
    ·intro b o h
     rw[Zi (Zg h hwa)];exact s46 _ _ (s4 b o h)
def ZnJ(K:PySem.W.Frag)(n:Nat):Sp:=fun vs H Q _=>∃ (a:Addr) (ns:List Int) (x:V) (t:PT),vs=[.ref a,x]∧SqL K H a (ns.map V.int)∧TV H x t∧tOk ns.length t∧tDp t<n ∧
 ∀ (r:Addr) (H':Hp),H' r=some (.tup [.int (tSz ns t),.int (tCo ns t)])→Zn H H'→Q (.ref r) H'
theorem Zml(T:Zat K mg)(f_is_number:Df P w K mg base 1 "is_number" ["thing"] Zmm):∀n:Nat,Df P w K mg base (n+1) "size_and_cost" ["sizes", "tree"] (ZnJ K n)
 | 0=>by
  refine T.t_size_and_cost.df ZP (fun vs H Q E h=>?_) (fun cdv f A outer s H vs Q E hr h=>?_)
  ·obtain⟨a,ns,x,t,rfl,_⟩:=h
   rfl
  obtain⟨a,ns,x,t,rfl,hS,hT,hok,hdp,q⟩:=h
  exact absurd hdp (by omega)
 | n+1=>by
  have f_size_and_cost:=Zml T f_is_number n
  refine T.t_size_and_cost.df ZP (fun vs H Q E h=>?_) (fun cdv f A outer s H vs Q E hr h=>?_)
  ·obtain⟨a,ns,x,t,rfl,_⟩:=h
   rfl
  obtain⟨a,ns,x,t,rfl,hS,hT,hok,hdp,q⟩:=h
  refine⟨_,#[Zf,#[Z0,#[Zak,#[Zu,f_is_number,hr,#[Za,‹1›,#[Zd]],(by rfl)]],#[Zj,#[Zo,#[Zx,#[Za,#[ZJ,(ixL K),‹0›,‹1›],#[Za,#[Ze],#[Zd]]]]]],#[ZK]],#[Zf,#[Zq,2,ZP.nd,(Or.inl rfl),#[Ze]],#[Zf,#[Zq,3,ZP.nd,(Or.inl rfl),#[Ze]],#[Zf,#[ZaJ,PassesOwn.never,(@iT _ K _ _ _ ‹1› (by rfl)),#[ZB,4,ZP.nd,(Or.inl rfl)],#[Zf,#[Zb8,#[Zu,f_size_and_cost,hr,#[Za,‹0›,#[Za,‹4›,#[Zd]]],(by rfl)],#[gT,K,2,#[ZA,#[ZB,5,ZP.nd,(Or.inl rfl)],#[ZA,#[ZB,6,ZP.nd,(Or.inl rfl)],(@ZaP _)]]]],#[Zf,(@Zj1 _ _ 2 _ _ _ _ _ _ ZP.nd rfl (Or.inl rfl) ‹5› ZjW (by trivial)),#[Zj,(@Zj1 _ _ 3 _ _ _ _ _ _ ZP.nd rfl (Or.inl rfl) ‹6› ZjW (by trivial))]]]],#[Zj,#[Zo,#[Zx,#[Za,‹2›,#[Za,#[Zm,ZG,‹3›,‹2›],#[Zd]]]]]]]]]],?_⟩
  cases hT with
  | leaf k =>
   refine⟨_,rfl,.inl ⟨k,rfl,_,rfl,Z9 ⟨_,rfl,_,rfl,a,_,_,_,rfl,rfl,hS,Zkm hok,(by show 2≤sizeLine;decide),fun r hr0=>?_⟩⟩⟩
   exact q r _ Zb (Zc hr0 _)
  | node h hs =>
   rename_i b xs l
   refine⟨_,rfl,.inr ⟨b,xs,rfl,h,_,rfl,ZaG ?_⟩⟩
   refine⟨_,rfl,b,rfl,⟨_,SqT.of h⟩,?_⟩
   refine Zh6 (K:=K) (a:=b) (xs:=xs) (fun i σ H2=>∃v4 v5 v6:Option V,σ=[some (.ref a),some (.ref b),some (.int ((l.take i).map (tSz ns)).sum),some (.int ((l.take i).map (tCo ns)).sum),v4,v5,v6]∧Zn H H2) ⟨_,_,_,rfl,Zn.refl _⟩ (fun _ _ _ _ ⟨_,_,_,_,s2⟩=>SqT.of (s2 _ _ h)) ?_ ?_
   ·rintro i x σ H2 hx ⟨v4,v5,v6,rfl,s2⟩
    obtain⟨t,ht,hv⟩:=hs.at hx
    have hd':ZaN l+1<n+1:=hdp
    have hd2:=ZhL l i t ht
    refine⟨_,rfl,_,rfl,a,ns,x,t,rfl,s2.seq hS,hv.mono (Z4 s2),Zh7 _ l i t hok ht,by omega,fun r H3 hr3 s3=>?_⟩
    refine⟨r,_,rfl,SqT.of hr3,rfl,_,_,rfl,_,_,rfl,rfl,?_⟩
    refine⟨_,rfl,_,rfl,_,_,rfl,rfl,_,rfl,_,rfl,_,_,rfl,rfl,some x,some (.int (tSz ns t)),some (.int (tCo ns t)),by rw[Zgh l i t ht,Zgh l i t ht];rfl,s2.trans s3⟩
   ·rintro σ H2 ⟨v4,v5,v6,rfl,s2⟩
    rw[hs.len,Qn (Qd _),ZhK,Zh3]
    refine⟨_,rfl,_,rfl,_,rfl,_,_,rfl,rfl,(by show 2≤sizeLine;decide),fun r hr0=>?_⟩
    exact q r _ Zb (s2.trans (Zc hr0 _))
def Zgo(K:PySem.W.Frag)(n:Nat):Sp:=fun vs H Q _=>∃ (a:Addr) (ns:List Int) (x:V) (t:PT),vs=[.ref a,x]∧SqL K H a (ns.map V.int)∧TV H x t∧tOk ns.length t∧tDp t<n∧∀H',Zn H H'→Q (.int (tCo ns t)) H'
theorem ZiZ(T:Zat K mg)(f_size_and_cost:Df P w K mg base 14 "size_and_cost" ["sizes", "tree"] (ZnJ K 13)):Df P w K mg base 15 "cost_of" ["sizes", "tree"] (Zgo K 13):=by
 refine T.t_cost_of.df ZhD (fun vs H Q E h=>?_) (fun cdv f A outer s H vs Q E hr h=>?_)
 ·obtain⟨a,ns,x,t,rfl,_⟩:=h
  rfl
 obtain⟨a,ns,x,t,rfl,hS,hT,hok,hdp,q⟩:=h
 refine⟨_,#[Zj,#[Zo,#[ZJ,(ixT K),#[Zu,f_size_and_cost,hr,#[Za,‹0›,#[Za,‹1›,#[Zd]]],(by rfl)],#[Ze]]]],?_⟩
 refine⟨_,rfl,_,rfl,a,ns,x,t,rfl,hS,hT,hok,hdp,fun r H' hr' s'=>⟨r,_,_,_,rfl,rfl,SqT.of hr',rfl,q _ s'⟩⟩
theorem Zh1{H:Hp}:∀ks:List Int,TVs H (ks.map V.int) (ks.map PT.leaf)
 | []=>.nil
 | k::r=>.cons (.leaf k) (Zh1 r)
theorem ZhQ{n:Nat}:∀ks:List Int,(∀v∈ks,0≤v∧v<n)→Zbu n (ks.map PT.leaf)∧ZcP (ks.map PT.leaf)∧Zaq (ks.map PT.leaf)=ks.length
 | [],_=>⟨trivial,trivial,rfl⟩
 | k::r,h=>by
  obtain⟨a,b,c⟩:=ZhQ r fun v hv=>h v (Ql _ hv)
  refine⟨⟨h k (by simp),a⟩,⟨⟨Qd _,Qd _⟩,b⟩,?_⟩
  show 1+Zaq (r.map PT.leaf)=r.length+1
  omega
theorem ZgO:∀l:List PT,ZcP l→l.length≤Zaq l
 | [],_=>Qd _
 | t::r,h=>by have:=ZgO r h.2;have:=h.1.1;show r.length+1≤tLf t+Zaq r;omega
theorem Zkb{n:Nat}{l:List PT}{a m:Nat}(ok:Zbu n l)(gd:ZcP l)(h2:2≤m)(h:a+m≤l.length) :
  Zbu n (l.take a++[PT.node ((l.drop a).take m)]++l.drop (a+m))∧ZcP (l.take a++[PT.node ((l.drop a).take m)]++l.drop (a+m))∧Zaq (l.take a++[PT.node ((l.drop a).take m)]++l.drop (a+m))=Zaq l∧(l.take a++[PT.node ((l.drop a).take m)]++l.drop (a+m)).length<l.length:=by
 have e:l=l.take a++((l.drop a).take m++l.drop (a+m)):=by
  rw[← List.drop_drop,QU,QU]
 have ok':=ok
 have gd':=gd
 rw[e]at ok' gd'
 rw[ZaW,ZaW]at ok'
 rw[ZcH,ZcH]at gd'
 have ml:((l.drop a).take m).length=m:=by rw[Qk,QA];omega
 refine⟨?_,?_,?_,?_⟩
 ·rw[ZaW,ZaW];exact⟨⟨ok'.1,ok'.2.1,trivial⟩,ok'.2.2⟩
 ·rw[ZcH,ZcH];exact⟨⟨gd'.1,Zgk gd'.2.1 (by omega),trivial⟩,gd'.2.2⟩
 ·have e2:Zaq l=Zaq (l.take a)+(Zaq ((l.drop a).take m)+Zaq (l.drop (a+m))):=by rw[← ZcU,← ZcU,← e]
  rw[ZcU,ZcU,e2]
  show Zaq (l.take a)+(Zaq ((l.drop a).take m)+0)+_=_
  omega
 ·rw[Qe,Qe,Qk,QA,Qh];omega
def Zgn:Sp:=fun vs H Q _=>∃ (p b:Addr) (c w:Int) (ks:List Int) (n:Nat),vs=[.ref p,.ref b,.int w]∧ZZ H p c∧c<2 ^ 40∧2≤w∧w≤8∧H b=some (.lst (ks.map V.int))∧1≤ks.length∧ks.length≤13∧(∀v∈ks,0≤v∧v<n) ∧
 ∀ (x:V) (t:PT) (c':Int) (H':Hp),TV H' x t→tOk n t→tGd t→tLf t=ks.length→ZZ H' p c'→c≤c'→c'≤c+40→But p H H'→Q x H'
theorem Zi2(T:Zat K mg)(f_l_pick:Df P w K mg base 2 "_law_pick" ["_law_left_here", "_law_many_here"] Zcx):Df P w K mg base 3 "_law_joined" ["_law_left_here", "_law_items", "_law_ways_here"] Zgn:=by
 refine T.t_l_joined.df Zb2 (fun vs H Q E h=>?_) (fun cdv f A outer s H vs Q E hr h=>?_)
 ·obtain⟨p,b,c,wy,ks,n,rfl,_⟩:=h
  rfl
 obtain⟨p,b0,c,wy,ks,n,rfl,hL,c1,w2,w8,hb0,k1,k13,hks,q⟩:=h
 refine⟨_,#[Zf,#[Zq,1,Zb2.nd,(Or.inl rfl),#[ZR,(ZkA K),(by rfl),T.b.n_list,boot_list,#[Za,‹1›,#[Zd]]]],#[Zf,(@ZcJ _ _ _ _ _ _ PassesOwn.never #[Zy,ZcI,#[Zk,(ZaY K),(by rfl),T.b.n_len,Qw,#[Za,‹1›,#[Zd]]],#[Ze],(ZD _)] #[Zf,#[Zq,3,Zb2.nd,(Or.inl rfl),#[Zm,ZG,#[Ze],#[Zu,f_l_pick,hr,#[Za,‹0›,#[Za,#[Zm,Za2,#[Zk,(ZdI rfl),(by rfl),T.b.n_min,boot_min,#[Za,‹2›,#[Za,#[Zk,(ZaY K),(by rfl),T.b.n_len,Qw,#[Za,‹1›,#[Zd]]],#[Zd]]]],#[Ze]],#[Zd]]],(by rfl)]]],#[Zf,#[Zq,4,Zb2.nd,(Or.inl rfl),#[Zu,f_l_pick,hr,#[Za,‹0›,#[Za,#[Zm,ZG,#[Zm,Za2,#[Zk,(ZaY K),(by rfl),T.b.n_len,Qw,#[Za,‹1›,#[Zd]]],‹3›],#[Ze]],#[Zd]]],(by rfl)]],#[Zj,#[Zb8,#[ZH,#[Za,#[ZR,(ZnI K),(by rfl),T.b.n_tuple,boot_tuple,#[Za,#[ZF,(slL K),‹1›,#[Zz,‹4›],#[Zz,#[Zm,ZG,‹4›,‹3›]]],#[Zd]]],#[Zd]]],(@Zkt _ _ _ _ _ _ _ _ _ ‹1› #[Zz,‹4›] #[Zz,#[Zm,ZG,‹4›,‹3›]] (by intro _;rfl))]]]]),#[Zj,#[Zo,#[ZJ,(ixL K),‹1›,#[Ze]]]]]],?_⟩
 have c0:=hL.ge
 refine⟨_,rfl,b0,_,rfl,.inl (SqL.of hb0),fun b hb=>?_⟩
 have npb:p≠b:=by obtain⟨o,ho⟩:=hL.here;exact Zg ho hb
 obtain⟨i1,i2,i3⟩:=ZhQ ks hks
 refine⟨fun m σ H2=>∃ (xs:List V) (l:List PT) (v3 v4:Option V) (c2:Int),σ=[some (.ref p),some (.ref b),some (.int wy),v3,v4]∧H2 b=some (.lst xs)∧TVs H2 xs l∧Zbu n l∧ZcP l∧Zaq l=ks.length∧1≤l.length∧ZZ H2 p c2∧c≤c2∧c2+2*l.length≤c+2*ks.length∧(∀d o,H d=some o→d≠p→H2 d=some o)∧m=l.length,
  ⟨_,ks.map V.int,ks.map PT.leaf,none,none,c,rfl,Zb,Zh1 ks,i1,i2,i3,by rw[Qa];exact k1,hL.new hb,QS _,by rw[Qa];omega,fun d o h n=>Zc hb _ _ _ h,rfl⟩,?_⟩
 rintro m σ H2 ⟨xs,l,v3,v4,c2,rfl,hb2,hT,ok,gd,lf,l1,L2,b1,b2,B2,rfl⟩
 have hxl:=hT.len
 have hll:=ZgO l gd
 have c20:=L2.ge
 refine⟨_,rfl,b,_,rfl,.inl (SqL.of hb2),_,_,rfl,rfl,_,rfl,ZcD (fun d=>?_) (fun d=>?_)⟩
 ·have d':(1:Int)<((xs.length:Nat):Int):=of_decide_eq_true d
  refine⟨_,fun σ' H' h=>h,?_⟩
  obtain⟨mn,hmn,m0,m1,m2⟩:∃mn:Int,(if ((xs.length:Nat):Int)<wy then ((xs.length:Nat):Int) else wy)=mn∧2≤mn∧mn≤8∧mn≤xs.length:=⟨_,rfl,by split<;>omega,by split<;>omega,by split<;>omega⟩
  refine⟨_,rfl,_,rfl,_,rfl,b,_,rfl,.inl (SqL.of hb2),_,_,rfl,?_⟩
  simp only[hmn]
  refine⟨_,_,rfl,rfl,p,c2,_,rfl,L2,by omega,by omega,by omega,fun d1 H3 d10 d11 L3 B3=>⟨_,_,rfl,rfl,?_⟩⟩
  have hb3:=B3 b _ hb2 npb.symm
  obtain⟨m',hm'⟩:∃m':Nat,2+d1=(m':Int):=⟨(2+d1).toNat,by omega⟩
  simp only[hm']
  refine⟨_,rfl,_,rfl,b,_,rfl,.inl (SqL.of hb3),_,rfl,_,_,rfl,rfl,_,_,rfl,rfl,p,c2+1,_,rfl,L3,by omega,by omega,by omega,fun at' H4 a0 a1 L4 B4=>?_⟩
  obtain⟨a,ha⟩:∃a:Nat,at'=(a:Int):=⟨at'.toNat,by omega⟩
  subst ha
  have hb4:=B4 b _ hb3 npb.symm
  have ham:a+m'≤xs.length:=by omega
  have h2m:2≤m':=by omega
  have sum:((a:Int)+(m':Int))=((a+m':Nat):Int):=by omega
  refine⟨_,rfl,_,rfl,_,rfl,_,rfl,_,rfl,_,_,rfl,rfl,_,rfl,b,_,rfl,SqL.of hb4,fun sl hsl=>?_⟩
  rw[sum,Zgp xs a (a+m') (by omega) (by omega),Nat.add_sub_cancel_left]
  refine⟨sl,_,rfl,.inl ⟨SqL.of Zb,fun tt htt=>⟨(by show 1≤sizeLine;decide),fun g hg=>?_⟩⟩⟩
  have s5:Zn H4 (upd (upd (upd H4 sl (.lst ((xs.drop a).take m'))) tt (.tup ((xs.drop a).take m'))) g (.lst [.ref tt])):=((Zc hsl _).trans (Zc htt _)).trans (Zc hg _)
  have ht5:(upd (upd (upd H4 sl (.lst ((xs.drop a).take m'))) tt (.tup ((xs.drop a).take m'))) g (.lst [.ref tt])) tt=some (.tup ((xs.drop a).take m')):=Zc hg _ _ _ Zb
  have hg5:(upd (upd (upd H4 sl (.lst ((xs.drop a).take m'))) tt (.tup ((xs.drop a).take m'))) g (.lst [.ref tt])) g=some (.lst [.ref tt]):=Zb
  have nbg:b≠g:=Zg (((Zc hsl (.lst ((xs.drop a).take m'))).trans (Zc htt (.tup ((xs.drop a).take m')))) _ _ hb4) hg
  generalize upd (upd (upd H4 sl (.lst ((xs.drop a).take m'))) tt (.tup ((xs.drop a).take m'))) g (.lst [.ref tt])=H5 at s5 ht5 hg5 ⊢
  refine⟨_,rfl,_,rfl,_,rfl,_,rfl,_,rfl,_,_,rfl,rfl,_,rfl,b,g,xs,[.ref tt],a,((a+m':Nat):Int),rfl,rfl,rfl,by rw[sum],s5 _ _ hb4,hg5,nbg,by omega,by omega,by omega,(ZjO (by show xs.length+1≤1000;omega)),?_⟩
  rw[Q6,Q6]
  obtain⟨j1,j2,j3,j4⟩:=Zkb (a:=a) (m:=m') ok gd h2m (by omega)
  have tup5:∀a' ys,H2 a'=some (.tup ys)→H5 a'=some (.tup ys):=fun a' ys h=>by
   have np:a'≠p:=by
    intro e
    obtain⟨x1,x2,hp,_⟩:=L2
    rw[e,hp]at h;cases h
   exact s5 _ _ (B4 _ _ (B3 _ _ h np) np)
  have tup6:∀ (o:List V) a' ys,H5 a'=some (.tup ys)→(upd H5 b (.lst o)) a'=some (.tup ys):=fun o a' ys h=>by
   have nb:a'≠b:=by
    intro e
    rw[e,s5 _ _ hb4]at h;cases h
   rw[Zi nb];exact h
  refine⟨_,?_,_,_,_,_,c2+1+1,rfl,Zb,?_,j1,j2,by rw[j3];exact lf,?_,(L4.same s5).at npb,by omega,?_,fun d o h n=>?_,rfl⟩
  ·exact j4
  ·have hT5:=hT.mono tup5
   refine((hT5.take a).app (.cons (.node ht5 ((hT5.drop a).take m')) .nil)).app (hT5.drop (a+m')) |>.mono (tup6 _)
  ·rw[Qe,Qe,Qh];omega
  ·omega
  ·rw[Zi (Zg h hb)];exact s5 _ _ (B4 _ _ (B3 _ _ (B2 d o h n) n) n)
 ·have d':¬ (1:Int)<((xs.length:Nat):Int):=fun z=>d (decide_eq_true z)
  have x1:xs.length=1:=by omega
  have hx0:xs[0]? = some xs[0]:=Qc (by omega)
  obtain⟨t,ht,hv⟩:=hT.at hx0
  have el:l=[t]:=by
   cases l with
   | nil=>simp at ht
   | cons u r =>
    have:r=[]:=List.eq_nil_of_length_eq_zero (by rw[hxl,QD]at x1;omega)
    subst this
    simp at ht;rw[ht]
  subst el
  refine⟨_,rfl,b,_,_,_,rfl,rfl,SqL.of hb2,Zbl hx0,q _ t c2 H2 hv ok.1 gd.1 ?_ L2 b1 (by omega) B2⟩
  have:tLf t+0=ks.length:=lf
  omega
def Zii:Sp:=fun vs H Q _=>∃ (p:Addr) (c mo:Int),vs=[.ref p,.int mo]∧1≤mo∧mo≤12∧ZZ H p c∧c<2 ^ 40 ∧
 ∀ (r:Addr) (ns:List Int) (c':Int) (H':Hp),H r=none→H' r=some (.lst (ns.map V.int))→1≤ns.length→ns.length≤12→(∀v∈ns,0≤v∧v≤1000000000)→ZZ H' p c'→c≤c'→c'≤c+100→But p H H'→Q (.ref r) H'
theorem ZjQ(T:Zat K mg)(f_l_pick:Df P w K mg base 2 "_law_pick" ["_law_left_here", "_law_many_here"] Zcx)(f_l_many:Df P w K mg base 3 "_law_many" ["_law_left_here"] Zks):Df P w K mg base 4 "_law_sizes" ["_law_left_here", "_law_most"] Zii:=by
 refine T.t_l_sizes.df Zbn (fun vs H Q E h=>?_) (fun cdv f A outer s H vs Q E hr h=>?_)
 ·obtain⟨p,c,mo,rfl,_⟩:=h
  rfl
 obtain⟨p,c,mo,rfl,mo1,mo2,hL,c1,q⟩:=h
 refine⟨_,#[Zf,#[Zq,2,Zbn.nd,(Or.inl rfl),#[Zk,(Zi0 rfl),(by rfl),T.b.n_max,boot_max,#[Za,#[Ze],#[Za,#[Zk,(ZdI rfl),(by rfl),T.b.n_min,boot_min,#[Za,‹1›,#[Za,#[Zu,f_l_many,hr,#[Za,‹0›,#[Zd]],(by rfl)],#[Zd]]]],#[Zd]]]]],#[Zf,#[Zq,3,Zbn.nd,(Or.inl rfl),#[Zu,f_l_pick,hr,#[Za,‹0›,#[Za,#[Ze],#[Zd]]],(by rfl)]],#[Zf,#[Zq,4,Zbn.nd,(Or.inl rfl),#[ZH,#[Zd]]],#[Zf,#[ZaJ,PassesOwn.never,#[Zbq,T.b.n_range,#[Za,‹2›,#[Zd]]],#[ZB,5,Zbn.nd,(Or.inl rfl)],#[Zf,#[Zq,6,Zbn.nd,(Or.inl rfl),#[ZH,#[Za,#[Zu,f_l_pick,hr,#[Za,‹0›,#[Za,#[Ze],#[Zd]]],(by rfl)],#[Za,#[Zm,ZcM,#[Zu,f_l_pick,hr,#[Za,‹0›,#[Za,#[Ze],#[Zd]]],(by rfl)],#[Zu,f_l_pick,hr,#[Za,‹0›,#[Za,#[Ze],#[Zd]]],(by rfl)]],#[Za,#[Ze],#[Za,#[Zm,ZG,#[Ze],#[Zm,ZcM,‹5›,‹5›]],#[Zd]]]]]]],#[Zj,#[Zbk,#[ZcX,QC,QP,QR,ZaS,‹4›,#[Za,#[ZJ,(ixL K),#[Zm,ZaB,‹6›,#[ZH,#[Za,#[Zm,Za2,#[Zm,ZeI,#[Ze],#[Ze]],#[Zu,f_l_pick,hr,#[Za,‹0›,#[Za,#[Ze],#[Zd]]],(by rfl)]],#[Za,#[Zu,f_l_pick,hr,#[Za,‹0›,#[Za,#[Zm,ZG,#[Zm,ZeI,#[Ze],#[Ze]],#[Ze]],#[Zd]]],(by rfl)],#[Zd]]]]],‹3›],#[Zd]]]]]]],#[Zj,#[Zo,‹4›]]]]]],?_⟩
 have c0:=hL.ge
 refine⟨_,rfl,_,rfl,p,c,rfl,hL,by omega,fun mv c' H1 m0 m1 L1 a1 a2 B1=>⟨_,_,rfl,_,_,rfl,?_⟩⟩
 obtain⟨many,hmany,hm0,hm1⟩:∃many:Int,(if (if mv<mo then mv else mo)>1 then (if mv<mo then mv else mo) else 1)=many∧1≤many∧many≤12:=⟨_,rfl,by split<;>split at *<;>omega,by split<;>split at *<;>omega⟩
 simp only[hmany]
 refine⟨_,rfl,p,c',_,rfl,L1,by omega,by decide,by decide,fun wy H2 w0 w1 L2 B2=>⟨(by show 0≤sizeLine;decide),fun r hr0=>?_⟩⟩
 have npr:p≠r:=by obtain⟨o,ho⟩:=L2.here;exact Zg ho hr0
 have B02:=B1.trans B2
 have hrn:H r=none:=ZlI B02 npr hr0
 refine⟨_,rfl,_,rfl,by omega,by omega,?_⟩
 refine ZaR (fun i σ H3=>∃ (ns:List Int) (v5 v6:Option V) (c3:Int),σ=[some (.ref p),some (.int mo),some (.int many),some (.int wy),some (.ref r),v5,v6]∧H3 r=some (.lst (ns.map V.int))∧ns.length=i∧(∀v∈ns,0≤v∧v≤1000000000)∧ZZ H3 p c3∧c'+1≤c3∧c3≤c'+1+5*i∧(∀b o,H b=some o→b≠p→H3 b=some o))
  ⟨[],none,none,c'+1,rfl,Zb,rfl,(fun v hv=>by cases hv),L2.new hr0,by omega,by omega,fun b o h n=>Zc hr0 _ _ _ (B02 b o h n)⟩ ?_ ?_
 ·rintro i σ H3 hi ⟨ns,v5,v6,c3,rfl,hr3,hn,hb,L3,b1,b2,B3⟩
  have hi12:(i:Int)<12:=by omega
  have ei:(0+(i:Int))=(i:Int):=by omega
  have hii:(0+(i:Int))*(0+(i:Int))≤144:=by rw[ei];exact Int.le_trans (Int.mul_le_mul (show (i:Int)≤12 by omega) (show (i:Int)≤12 by omega) (by omega) (by omega)) (by decide)
  have hi0:0≤(0+(i:Int))*(0+(i:Int)):=by rw[ei];exact Int.mul_nonneg (by omega) (by omega)
  refine⟨_,rfl,p,c3,_,rfl,L3,by omega,by decide,by decide,fun d1 H4 d10 d11 L4 B4=>?_⟩
  refine⟨_,rfl,p,c3+1,_,rfl,L4,by omega,by decide,by decide,fun d2 H5 d20 d21 L5 B5=>?_⟩
  refine⟨_,rfl,p,c3+1+1,_,rfl,L5,by omega,by decide,by decide,fun d3 H6 d30 d31 L6 B6=>⟨_,_,rfl,rfl,.inl ⟨by omega,by omega⟩,?_⟩⟩
  have h23a:0≤d2*d3:=Int.mul_nonneg d20 d30
  have h23b:d2*d3≤2*100:=Int.mul_le_mul (by omega) (by omega) d30 (by omega)
  refine⟨_,rfl,_,rfl,_,_,rfl,rfl,.inl ⟨by omega,by omega⟩,_,_,rfl,rfl,(by show 4≤sizeLine;decide),fun e he=>?_⟩
  have B36:=(B4.trans B5).trans B6
  have hr6:=B36 r _ hr3 npr.symm
  have nre:r≠e:=Zg hr6 he
  have npe:p≠e:=by obtain⟨o,ho⟩:=L6.here;exact Zg ho he
  have hr7:(upd H6 e (.lst (([d1,d2*d3,5,1+(0+(i:Int))*(0+(i:Int))]:List Int).map V.int))) r=some (.lst (ns.map V.int)):=by rw[Zi nre];exact hr6
  have he7:(upd H6 e (.lst (([d1,d2*d3,5,1+(0+(i:Int))*(0+(i:Int))]:List Int).map V.int))) e=some (.lst (([d1,d2*d3,5,1+(0+(i:Int))*(0+(i:Int))]:List Int).map V.int)):=Zb
  have L7:ZZ (upd H6 e (.lst (([d1,d2*d3,5,1+(0+(i:Int))*(0+(i:Int))]:List Int).map V.int))) p (c3+1+1+1):=L6.new he
  have B37:But p H3 (upd H6 e (.lst (([d1,d2*d3,5,1+(0+(i:Int))*(0+(i:Int))]:List Int).map V.int))):=B36.trans (But.same (Zc he _))
  change ∃_,_
  have pw:Zm6 10 9:=⟨by decide,by decide,by decide⟩
  refine⟨_,rfl,.inl ⟨rfl,_,SqL.of hr7⟩,_,rfl,_,_,rfl,rfl,pw,_,rfl,p,c3+1+1+1,_,rfl,L7,by omega,by decide,by decide,fun d4 H8 d40 d41 L8 B8=>⟨_,_,rfl,rfl,?_⟩⟩
  refine⟨_,rfl,_,_,rfl,rfl,pw,_,_,rfl,rfl,p,c3+1+1+1+1,_,rfl,L8,by omega,by decide,by decide,fun d5 H9 d50 d51 L9 B9=>⟨(by show 2≤sizeLine;decide),fun g hg=>?_⟩⟩
  have d51':d5<1000000001:=d51
  have he9:=B9 e _ (B8 e _ he7 npe.symm) npe.symm
  have hr9:=B9 r _ (B8 r _ hr7 npr.symm) npr.symm
  have neg:e≠g:=Zg he9 hg
  refine⟨e,g,_,_,rfl,rfl,(by rw[Zi neg];exact he9),Zb,(by show 6≤sizeLine;decide),fun z hz=>?_⟩
  obtain⟨v,hv,hat⟩:=Zeh (ns:=[d1,d2*d3,5,1+(0+(i:Int))*(0+(i:Int)),10 ^ 9-d4,d5]) w0 w1
  have hv1:0≤v∧v≤1000000000:=by
   simp only[List.mem_cons,List.not_mem_nil,or_false]at hv
   omega
  have sg:Zn H9 (upd H9 g (.lst [.int (10 ^ 9-d4),.int d5])):=Zc hg _
  have hrz:(upd (upd H9 g (.lst [.int (10 ^ 9-d4),.int d5])) z (.lst (([d1,d2*d3,5,1+(0+(i:Int))*(0+(i:Int)),10 ^ 9-d4,d5]:List Int).map V.int))) r=some (.lst (ns.map V.int)):=Zc hz _ _ _ (sg _ _ hr9)
  have Lz:ZZ (upd (upd H9 g (.lst [.int (10 ^ 9-d4),.int d5])) z (.lst (([d1,d2*d3,5,1+(0+(i:Int))*(0+(i:Int)),10 ^ 9-d4,d5]:List Int).map V.int))) p (c3+1+1+1+1+1):=(L9.new hg).new hz
  have Bz:But p H3 (upd (upd H9 g (.lst [.int (10 ^ 9-d4),.int d5])) z (.lst (([d1,d2*d3,5,1+(0+(i:Int))*(0+(i:Int)),10 ^ 9-d4,d5]:List Int).map V.int))):=((B37.trans B8).trans B9).trans (But.same (sg.trans (Zc hz _)))
  have hzz:(upd (upd H9 g (.lst [.int (10 ^ 9-d4),.int d5])) z (.lst (([d1,d2*d3,5,1+(0+(i:Int))*(0+(i:Int)),10 ^ 9-d4,d5]:List Int).map V.int))) z=some (.lst (([d1,d2*d3,5,1+(0+(i:Int))*(0+(i:Int)),10 ^ 9-d4,d5]:List Int).map V.int)):=Zb
  refine⟨_,rfl,z,_,_,_,rfl,rfl,SqL.of hzz,hat,r,_,_,rfl,rfl,hrz,(by rw[Qa,hn];exact ZM (by omega)),ns++[v],_,_,c3+1+1+1+1+1,rfl,?_,by rw[Qe,hn];rfl,fun u hu=>?_,Lz.at npr,by omega,by omega,fun b o h n=>?_⟩
  ·rw[Zb,Qf];rfl
  ·rcases Qr.mp hu with hu|hu
   ·exact hb u hu
   ·rw[Qg.mp hu];exact hv1
  ·rw[Zi (Zg h hrn)];exact Bz b o (B3 b o h n) n
 ·rintro σ H3 ⟨ns,v5,v6,c3,rfl,hr3,hn,hb,L3,b1,b2,B3⟩
  exact⟨_,rfl,q r ns c3 H3 hrn hr3 (by omega) (by omega) hb L3 (by omega) (by omega) B3⟩
def ZhX(K:PySem.W.Frag):Sp:=fun vs H Q _=>∃ (a:Addr) (ns:List Int),vs=[.ref a]∧SqL K H a (ns.map V.int)∧ns.length≤63∧∀H',Q (.bl true) H'
def toI(c:List Nat):List Int:=c.map fun x:Nat=>(x:Int)
theorem Zc3(c:List Nat):(toI c).length=c.length:=by unfold toI;rw[Qa]
def Zb3(b e w:Nat)(c:List Nat):Prop:=c.head? = some b∧c.Pairwise (·<·)∧(∀x∈c,x<e)∧c.length≤w
theorem Zfs{b w:Nat}{c:List Nat}(hw:1≤w):Zb3 b (b+1) w c↔c=[b]:=by
 constructor
 ·rintro⟨h1,h2,h3,h4⟩
  cases c with
  | nil=>cases h1
  | cons x r =>
   cases h1
   cases r with
   | nil=>rfl
   | cons y r =>
    have a:=Qav h2 (Qu (a:=y) (l:=r))
    have b:=h3 y (by simp)
    omega
 ·rintro rfl
  exact⟨rfl,Qam _ _,fun x hx=>by rw[Qg.mp hx];omega,hw⟩
theorem Zjy{b e w:Nat}{c:List Nat}(hbe:b<e):Zb3 b (e+1) w c↔Zb3 b e w c∨∃c0,c=c0++[e]∧Zb3 b e w c0∧c0.length<w:=by
 constructor
 ·rintro⟨h1,h2,h3,h4⟩
  by_cases he:e∈c
  ·right
   have hne:c≠[]:=fun z=>by rw[z]at he;cases he
   have hsp:c=c.dropLast++[c.getLast hne]:=(List.dropLast_concat_getLast hne).symm
   rw[hsp]at h2
   obtain⟨p1,_,p3⟩:=List.pairwise_append.mp h2
   have hl:c.getLast hne=e:=by
    have a:=h3 _ (List.getLast_mem hne)
    rw[hsp]at he
    rcases Qr.mp he with h|h
    ·have:=p3 e h (c.getLast hne) (List.mem_singleton.mpr rfl);omega
    ·exact(Qg.mp h).symm
   rw[hl]at hsp p3
   refine⟨c.dropLast,hsp,⟨?_,p1,fun x hx=>p3 x hx e (by simp),?_⟩,?_⟩
   ·cases hd:c.dropLast with
    | nil=>rw[hd]at hsp;rw[hsp]at h1;cases h1;omega
    | cons x r=>rw[hd]at hsp;rw[hsp]at h1;exact h1
   ·rw[Qas];omega
   ·rw[Qas]
    have:=Qai.mpr hne
    omega
  ·left
   refine⟨h1,h2,fun x hx=>?_,h4⟩
   have a:=h3 x hx
   have b:x≠e:=fun z=>he (z ▸ hx)
   omega
 ·rintro(⟨h1,h2,h3,h4⟩|⟨c0,rfl,⟨h1,h2,h3,h4⟩,h5⟩)
  ·exact⟨h1,h2,fun x hx=>by have:=h3 x hx;omega,h4⟩
  ·refine⟨?_,?_,fun x hx=>?_,by rw[Qe,Qh];omega⟩
   ·cases c0 with
    | nil=>cases h1
    | cons x r=>exact h1
   ·rw[List.pairwise_append]
    exact⟨h2,Qam _ _,fun x hx y hy=>by rw[Qg.mp hy];exact h3 x hx⟩
   ·rcases Qr.mp hx with h|h
    ·have:=h3 x h;omega
    ·rw[Qg.mp h];omega
def Zbe(pf:Nat→Nat→Int):List Nat→Nat→Int
 | [],_=>0
 | [x],e=>pf x e
 | x::y::r,e=>pf x y+Zbe pf (y::r) e
theorem Zex(pf:Nat→Nat→Int)(e:Nat):∀c:List Nat,((c.zip (c.tail++[e])).map fun p=>pf p.1 p.2).sum=Zbe pf c e
 | []=>rfl
 | [x]=>by show (pf x e+0:Int)=pf x e;omega
 | x::y::r=>by
  have ih:=Zex pf e (y::r)
  show (pf x y::(((y::r).zip ((y::r).tail++[e])).map fun p=>pf p.1 p.2)).sum=_
  rw[List.sum_cons,ih]
  rfl
theorem Zfn{e:Nat}:∀ (r:List Nat) (x:Nat),(x::r).Pairwise (·<·)→(∀y∈x::r,y<e)→∀y z,(y,z)∈(x::r).zip (r++[e])→x≤y∧y<z∧z≤e∧(r≠[]→y=x→z<e)
 | [],x,_,h,y,z,hm=>by
  have:(y,z)=(x,e):=by simpa using hm
  cases this
  exact⟨Qd _,h x (by simp),Qd _,fun h=>absurd rfl h⟩
 | u::r,x,hp,h,y,z,hm=>by
  have hxu:=Qav hp (Qu (a:=u) (l:=r))
  rw[List.cons_append,List.zip_cons_cons]at hm
  rcases QK.mp hm with hm|hm
  ·cases hm
   have:=h u (by simp)
   exact⟨Qd _,hxu,by omega,fun _ _=>this⟩
  ·obtain⟨a,b,c,d⟩:=Zfn r u (List.Pairwise.of_cons hp) (fun w hw=>h w (Ql _ hw)) y z hm
   exact⟨by omega,b,c,fun _ e'=>by omega⟩
def Rd(H:Hp):List Addr→List (List Int)→Prop
 | [],[]=>True
 | l::ls,d::ds=>H l=some (.lst (d.map V.int))∧Rd H ls ds
 | _,_=>False
theorem Rd.len{H:Hp}:∀ {ls:List Addr} {ds:List (List Int)},Rd H ls ds→ls.length=ds.length
 | [],[],_=>rfl
 | [],_::_,h=>h.elim
 | _::_,[],h=>h.elim
 | _::ls,_::ds,h=>by rw[QD,QD,Rd.len h.2]
theorem Rd.mono{H H':Hp}:∀ {ls:List Addr} {ds:List (List Int)},(∀l∈ls,∀o,H l=some o→H' l=some o)→Rd H ls ds→Rd H' ls ds
 | [],[],_,_=>trivial
 | [],_::_,_,h=>h.elim
 | _::_,[],_,h=>h.elim
 | l::ls,_::ds,k,h=>⟨k l (by simp) _ h.1,Rd.mono (fun x hx=>k x (Ql _ hx)) h.2⟩
theorem Rd.app{H:Hp}:∀ {ls:List Addr} {ds:List (List Int)} {ms:List Addr} {es:List (List Int)},Rd H ls ds→Rd H ms es→Rd H (ls++ms) (ds++es)
 | [],[],_,_,_,h=>h
 | [],_::_,_,_,h,_=>h.elim
 | _::_,[],_,_,h,_=>h.elim
 | _::ls,_::ds,_,_,h,g=>⟨h.1,Rd.app h.2 g⟩
theorem Rd.at{H:Hp}:∀ {ls:List Addr} {ds:List (List Int)} {i:Nat} {l:Addr},Rd H ls ds→ls[i]? = some l→∃d,ds[i]? = some d∧H l=some (.lst (d.map V.int))
 | [],_,i,l,_,h=>by simp at h
 | _::_,[],_,_,h,_=>h.elim
 | l::ls,d::ds,0,x,h,e=>⟨d,rfl,by simp at e;subst e;exact h.1⟩
 | l::ls,d::ds,i+1,x,h,e=>by simpa using Rd.at (i:=i) h.2 (by simpa using e)
theorem ZlD(A:List Int):(if false=true then !PyData.eqv (.list (A.map PyData.int)) (.list []) else PyData.eqv (.list (A.map PyData.int)) (.list []))=A.isEmpty:=by
 cases A with
 | nil=>ac_rfl
 | cons t r=>simp[PyData.eqv,PyData.eqvAll]
theorem Zc5(xs:List V):ZY xs (some 1) none=xs.tail:=by
 unfold ZY HT.sIx
 simp only[]
 rw[if_neg (by omega)]
 cases xs with
 | nil=>rfl
 | cons x r =>
  have e:min ((1:Int).toNat) (x::r).length=1:=by rw[QD];show min 1 (r.length+1)=1;omega
  rw[show (min (1:Int).toNat (x::r).length)=1 from e]
  simp
theorem ZV(ts:ZaF):(Zl ts).length=ts.length:=by unfold Zl;rw[Qa]
theorem Zl2{xs:List V}{x:V}(h:xs[xs.length-1]? = some x)(h0:0<xs.length):atI xs (-1)=some x:=by
 have e:ixN xs.length (-1)=some (xs.length-1):=by
  unfold ixN
  rw[if_neg (by decide),if_pos (by omega)]
  congr 1
  omega
 unfold atI
 rw[e]
 exact h
theorem ZbI(xs:List V)(d:Nat):ZY xs none (some (d:Int))=xs.take d:=by
 unfold ZY
 rw[HT.sIx_nat,HT.sIx_none,List.drop_zero,Nat.sub_zero]
 by_cases h:d≤xs.length
 ·rw[Nat.min_eq_left h]
 ·rw[Nat.min_eq_right (by omega),Qn (Qd _),Qn (by omega)]
theorem Zck(xs:List V)(d:Nat):ZY xs (some (d:Int)) none=xs.drop d:=by
 unfold ZY
 rw[HT.sIx_nat,HT.sIx_none,Qn (by rw[QA];omega)]
 by_cases h:d≤xs.length
 ·rw[Nat.min_eq_left h]
 ·rw[Nat.min_eq_right (by omega),List.drop_eq_nil_of_le (Qd _),List.drop_eq_nil_of_le (by omega)]
theorem Zlg{x y:Int}{r s:List Key}(h:ZbW (.inl x::r) (.inl y::s)=false):y≤x:=by
 rw[Zfa]at h
 by_cases e:(Sum.inl x:Key)=.inl y
 ·injection e with e;omega
 ·rw[if_neg e]at h
  have:¬ x<y:=of_decide_eq_false h
  omega
def Kb(b e m:Nat):List Key:=[.inl (b:Int),.inl (e:Int),.inl (m:Int)]
theorem Znc{b e m b' e' m':Nat}(h:Kb b e m=Kb b' e' m'):b=b'∧e=e'∧m=m':=by
 unfold Kb at h
 injection h with h1 h2
 injection h2 with h2 h3
 injection h3 with h3 _
 injection h1 with h1
 injection h2 with h2
 injection h3 with h3
 omega
def ZeN(H:Hp)(v:V)(p:Int)(ts:List PT):Prop:=∃ (a t:Addr) (xs:List V),v=.ref a∧H a=some (.tup [.int p,.ref t])∧H t=some (.tup xs)∧TVs H xs ts
theorem ZeN.mono{H H':Hp}{v:V}{p:Int}{ts:List PT}(h:ZeN H v p ts)(s:∀a xs,H a=some (.tup xs)→H' a=some (.tup xs)):ZeN H' v p ts:=by
 obtain⟨a,t,xs,e,h1,h2,h3⟩:=h
 exact⟨a,t,xs,e,s _ _ h1,s _ _ h2,h3.mono s⟩
def Has(ns:List Int)(w:Nat)(H:Hp)(kvs:List (List Key×V))(b e:Nat):Prop:=∀m,1≤m→m<w→∃v p ts,Z3 kvs (Kb b e m)=some v∧ZeN H v p ts∧Gr ns w b e m p ts
theorem Has.mono{ns:List Int}{w:Nat}{H H':Hp}{kvs:List (List Key×V)}{b e:Nat}(h:Has ns w H kvs b e)(s:∀a xs,H a=some (.tup xs)→H' a=some (.tup xs)):Has ns w H' kvs b e:=fun m h1 h2=>by
 obtain⟨v,p,ts,a,c,g⟩:=h m h1 h2
 exact⟨v,p,ts,a,c.mono s,g⟩
def ZkQ(ns:List Int)(wy:Nat):Sp:=fun vs H Q _=>∃ (d:Addr) (kvs:List (List Key×V)) (b e m:Nat),vs=[.ref d,.int b,.int e,.int m]∧H d=some (.dT kvs)∧b+1<e∧e≤12∧2≤m∧m≤wy∧(∀k,b<k→k<e→Has ns wy H kvs b k∧Has ns wy H kvs k e) ∧
 ∀ (r:Addr) (p:Int) (ts:List PT) (H':Hp),ZeN H' (.ref r) p ts→Gc ns wy b e m p ts→Zn H H'→Q (.ref r) H'
def PS(ns:List Int)(wy b e m k:Nat)(s:Int):Prop:=∃q1 q2 u1 u2,Gr ns wy b k 1 q1 u1∧Gr ns wy k e (m-1) q2 u2∧s=q1+q2
theorem Zkn(T:Zat K mg)(ns:List Int)(wy:Nat):Df P w K mg base 1 "least_cut" ["groves", "begin", "end", "most"] (ZkQ ns wy):=by
 refine T.t_least_cut.df Zcq (fun vs H Q E h=>?_) (fun cdv f A outer s H vs Q E hr h=>?_)
 ·obtain⟨d,kvs,b,e,m,rfl,_⟩:=h
  rfl
 obtain⟨d,kvs,b,e,m,rfl,hd,hbe,he12,hm2,hmw,hall,q⟩:=h
 refine⟨_,#[Zf,#[Zb8,#[Zk,(Zn6 K hr),(by rfl),T.b.n_min,boot_min,#[Za,#[ZaD,ZeO,#[ZaQ,rfl,T.b.n_range,#[Za,#[Zm,ZG,#[pv,1,(Or.inr (Or.inl rfl))],#[Ze]],#[Za,#[pv,2,(Or.inr (Or.inl rfl))],#[Zd]]]],(fun _ _ _ _=>#[cg,6,ZeO]),(fun _ _ _ _=>(@ZaE _)),(fun _ _ _ _=>#[Zx,#[Za,#[Zm,ZG,#[ZJ,(ixT K),#[ZJ,(ixD hr),#[cv,0,ZeO],#[Zx,#[Za,#[cv,1,ZeO],#[Za,#[cw,6,ZeO],#[Za,#[Ze],#[Zd]]]]]],#[Ze]],#[ZJ,(ixT K),#[ZJ,(ixD hr),#[cv,0,ZeO],#[Zx,#[Za,#[cw,6,ZeO],#[Za,#[cv,2,ZeO],#[Za,#[Zm,Za2,#[cv,3,ZeO],#[Ze]],#[Zd]]]]]],#[Ze]]],#[Za,#[cw,6,ZeO],#[Zd]]]])],#[Zd]]],#[gT,K,2,#[ZA,#[ZB,4,Zcq.nd,(Or.inl rfl)],#[ZA,#[ZB,5,Zcq.nd,(Or.inl rfl)],(@ZaP _)]]]],#[Zj,#[Zo,#[Zx,#[Za,‹4›,#[Za,#[Zm,ZhN,#[ZJ,(ixT K),#[ZJ,(ixD hr),#[pv,0,(Or.inr (Or.inl rfl))],#[Zx,#[Za,#[pv,1,(Or.inr (Or.inl rfl))],#[Za,‹5›,#[Za,#[Ze],#[Zd]]]]]],#[Ze]],#[ZJ,(ixT K),#[ZJ,(ixD hr),#[pv,0,(Or.inr (Or.inl rfl))],#[Zx,#[Za,‹5›,#[Za,#[pv,2,(Or.inr (Or.inl rfl))],#[Za,#[Zm,Za2,#[pv,3,(Or.inr (Or.inl rfl))],#[Ze]],#[Zd]]]]]],#[Ze]]],#[Zd]]]]]]],?_⟩
 refine⟨_,rfl,_,_,rfl,rfl,_,rfl,_,_,rfl,⟨by omega,by omega,by omega,by omega⟩,fun D hD=>?_⟩
 rw[show ((e:Int)-((b:Int)+1)).toNat=e-(b+1) by omega]
 refine Zdf (fun i zs σ H2=>(∃v:Option V,σ=[some (.ref d),some (.int b),some (.int e),some (.int m),none,none,v])∧(∃tl:ZaF,zs=Zl tl∧AtT H2 tl∧tl.length=i∧∀ (j:Nat) (t:Addr×List Key),tl[j]? = some t→∃s,t.2=[.inl s,.inl ((b+1+j:Nat):Int)]∧PS ns wy b e m (b+1+j) s)∧i≤e-(b+1)∧H2 D=some (.lst zs)∧Zn H H2) ?_ ?_ ?_
 ·exact⟨⟨none,rfl⟩,⟨[],rfl,(fun t h=>by cases h),rfl,fun j t h=>by cases h⟩,Qm _,Zb,Zc hD _⟩
 ·rintro i zs σ H2 hi ⟨⟨v,rfl⟩,⟨tl,rfl,hat,htl,hk⟩,hi',hD2,s2⟩
  rw[show ((b:Int)+1+(i:Int))=((b+1+i:Nat):Int) by omega]
  obtain⟨A1,A2⟩:=hall (b+1+i) (by omega) (by omega)
  obtain⟨v1,p1,t1,l1,⟨a1,y1,x1,rfl,ha1,hy1,tv1⟩,g1⟩:=A1 1 (by omega) (by omega)
  obtain⟨v2,p2,t2,l2,⟨a2,y2,x2,rfl,ha2,hy2,tv2⟩,g2⟩:=A2 (m-1) (by omega) (by omega)
  refine⟨_,rfl,_,rfl,_,rfl,(by show 3≤sizeLine;decide),fun k1 hk1=>?_⟩
  have s3:=s2.trans (Zc hk1 (.tup ((Kb b (b+1+i) 1).map kV)))
  have hD3:=Zc hk1 (.tup ((Kb b (b+1+i) 1).map kV)) _ _ hD2
  have hat3:=AtT.mono hat (Zc hk1 (.tup ((Kb b (b+1+i) 1).map kV)))
  have f3:(upd H2 k1 (.tup ((Kb b (b+1+i) 1).map kV))) k1=some (.tup ((Kb b (b+1+i) 1).map kV)):=Zb
  change ZeL _ _ (upd H2 k1 (.tup ((Kb b (b+1+i) 1).map kV))) _
  generalize upd H2 k1 (.tup ((Kb b (b+1+i) 1).map kV))=H3 at s3 hD3 hat3 f3 ⊢
  refine⟨d,kvs,k1,Kb b (b+1+i) 1,_,rfl,rfl,s3 _ _ hd,f3,l1,a1,_,_,_,rfl,rfl,SqT.of (s3 _ _ ha1),rfl,?_⟩
  refine⟨_,rfl,_,rfl,_,rfl,_,rfl,_,_,rfl,rfl,(by show 3≤sizeLine;decide),fun k2 hk2=>?_⟩
  have s4:=s3.trans (Zc hk2 (.tup ((Kb (b+1+i) e (m-1)).map kV)))
  have hD4:=Zc hk2 (.tup ((Kb (b+1+i) e (m-1)).map kV)) _ _ hD3
  have hat4:=AtT.mono hat3 (Zc hk2 (.tup ((Kb (b+1+i) e (m-1)).map kV)))
  have f4:(upd H3 k2 (.tup ((Kb (b+1+i) e (m-1)).map kV))) k2=some (.tup ((Kb (b+1+i) e (m-1)).map kV)):=Zb
  change ZeL _ _ (upd H3 k2 (.tup [V.int ((b+1+i:Nat):Int),V.int (e:Int),V.int ((m:Int)-1)])) _
  rw[show ((m:Int)-1)=((m-1:Nat):Int) by omega]
  change ZeL _ _ (upd H3 k2 (.tup ((Kb (b+1+i) e (m-1)).map kV))) _
  generalize upd H3 k2 (.tup ((Kb (b+1+i) e (m-1)).map kV))=H4 at s4 hD4 hat4 f4 ⊢
  refine⟨d,kvs,k2,Kb (b+1+i) e (m-1),_,rfl,rfl,s4 _ _ hd,f4,l2,a2,_,_,_,rfl,rfl,SqT.of (s4 _ _ ha2),rfl,_,_,rfl,rfl,_,rfl,(by show 2≤sizeLine;decide),fun n hn=>?_⟩
  have sn:=Zc hn (.tup [.int (p1+p2),.int ((b+1+i:Nat):Int)])
  have hD5:=sn _ _ hD4
  have nDn:D≠n:=Zg hD4 hn
  refine⟨hD5,(by rw[ZV,htl];exact ZM (by omega)),⟨_,rfl⟩,⟨tl++[(n,[.inl (p1+p2),.inl ((b+1+i:Nat):Int)])],by unfold Zl;rw[Qf];rfl,fun t ht=>?_,by rw[Qe,Qh];omega,fun j t hj=>?_⟩,by omega,Zb,fun b' o hb=>?_⟩
  ·rcases Qr.mp ht with ht|ht
   ·exact Zaa hD5 _ _ _ (sn _ _ (hat4 t ht))
   ·rw[Qg.mp ht,Zi nDn.symm];exact Zb
  ·by_cases hjl:j<tl.length
   ·rw[Qau hjl]at hj
    exact hk j t hj
   ·have hj2:=(Qi.mp hj).1
    rw[Qe,Qh]at hj2
    have ej:j=i:=by omega
    subst ej
    rw[Qar (by omega),htl,Nat.sub_self]at hj
    cases hj
    exact⟨p1+p2,rfl,p1,p2,t1,t2,g1,g2,rfl⟩
  ·rw[Zi (Zg hb hD)];exact sn _ _ (s4 b' o hb)
 rintro zs σ H2 ⟨⟨v,rfl⟩,⟨tl,rfl,hat,htl,hk⟩,_,hD2,s2⟩
 have hsh:∀t∈tl,ZbN t.2=[true,true]:=fun t ht=>by
  obtain⟨j,hj⟩:=List.mem_iff_getElem?.mp ht
  obtain⟨s,e1,_⟩:=hk j t hj
  rw[e1];rfl
 refine⟨D,tl,[true,true],rfl,SqL.of hD2,hat,(fun z=>by rw[z]at htl;simp at htl;omega),hsh,fun t ht hmin=>?_⟩
 obtain⟨j,hj⟩:=List.mem_iff_getElem?.mp ht
 have hjl:=(Qi.mp hj).1
 obtain⟨sm,et,q1,q2,u1,u2,g1,g2,es⟩:=hk j t hj
 have htt:=hat t ht
 rw[et]at htt
 refine⟨t.1,_,rfl,SqT.of htt,rfl,_,_,rfl,_,_,rfl,rfl,?_⟩
 have hmid1:b<b+1+j:=by omega
 have hmid2:b+1+j<e:=by omega
 obtain⟨A1,A2⟩:=hall (b+1+j) hmid1 hmid2
 obtain⟨v1,p1,t1,l1,⟨a1,y1,x1,rfl,ha1,hy1,tv1⟩,g1'⟩:=A1 1 (by omega) (by omega)
 obtain⟨v2,p2,t2,l2,⟨a2,y2,x2,rfl,ha2,hy2,tv2⟩,g2'⟩:=A2 (m-1) (by omega) (by omega)
 have e1:=Zbb g1 g1'
 have e2:=Zbb g2 g2'
 have hcut:Gc ns wy b e m (p1+p2) (t1++t2):=by
  refine Zjz hm2 hmid1 hmid2 g1' g2' (fun k r1 r2 w1 w2 k1 k2 f1 f2=>?_) (fun k k1 k2=>?_)
  ·have hkl:k-(b+1)<tl.length:=by omega
   obtain⟨s',e3,r1',r2',w1',w2',f1',f2',es'⟩:=hk (k-(b+1)) _ (Qc hkl)
   have hm':=hmin _ (Q5 hkl)
   rw[e3,et]at hm'
   have:=Zlg hm'
   rw[show b+1+(k-(b+1))=k by omega]at f1' f2'
   have e4:=Zbb f1 f1'
   have e5:=Zbb f2 f2'
   omega
  ·obtain⟨B1,B2⟩:=hall k k1 k2
   obtain⟨_,r1,w1,_,_,f1⟩:=B1 1 (by omega) (by omega)
   obtain⟨_,r2,w2,_,_,f2⟩:=B2 (m-1) (by omega) (by omega)
   exact⟨r1,r2,w1,w2,f1,f2⟩
 refine⟨_,rfl,_,rfl,_,rfl,_,rfl,(by show 3≤sizeLine;decide),fun k1 hk1=>?_⟩
 have s3:=s2.trans (Zc hk1 (.tup ((Kb b (b+1+j) 1).map kV)))
 have f3:(upd H2 k1 (.tup ((Kb b (b+1+j) 1).map kV))) k1=some (.tup ((Kb b (b+1+j) 1).map kV)):=Zb
 change ZeL _ _ (upd H2 k1 (.tup ((Kb b (b+1+j) 1).map kV))) _
 generalize upd H2 k1 (.tup ((Kb b (b+1+j) 1).map kV))=H3 at s3 f3 ⊢
 refine⟨d,kvs,k1,Kb b (b+1+j) 1,_,rfl,rfl,s3 _ _ hd,f3,l1,a1,_,_,_,rfl,rfl,SqT.of (s3 _ _ ha1),rfl,?_⟩
 refine⟨_,rfl,_,rfl,_,rfl,_,rfl,_,_,rfl,rfl,(by show 3≤sizeLine;decide),fun k2 hk2=>?_⟩
 have s4:=s3.trans (Zc hk2 (.tup ((Kb (b+1+j) e (m-1)).map kV)))
 have f4:(upd H3 k2 (.tup ((Kb (b+1+j) e (m-1)).map kV))) k2=some (.tup ((Kb (b+1+j) e (m-1)).map kV)):=Zb
 change ZeL _ _ (upd H3 k2 (.tup [V.int ((b+1+j:Nat):Int),V.int (e:Int),V.int ((m:Int)-1)])) _
 rw[show ((m:Int)-1)=((m-1:Nat):Int) by omega]
 change ZeL _ _ (upd H3 k2 (.tup ((Kb (b+1+j) e (m-1)).map kV))) _
 generalize upd H3 k2 (.tup ((Kb (b+1+j) e (m-1)).map kV))=H4 at s4 f4 ⊢
 have tv1':TVs H4 x1 t1:=tv1.mono fun a xs e=>s4 _ _ e
 have tv2':TVs H4 x2 t2:=tv2.mono fun a xs e=>s4 _ _ e
 have n1:=tv1.len
 have n2:=tv2.len
 have c1:=g1'.l1
 have c2:=g2'.l1
 have c3:=g1'.lm
 have c4:=g2'.nf.len
 refine⟨d,kvs,k2,Kb (b+1+j) e (m-1),_,rfl,rfl,s4 _ _ hd,f4,l2,a2,_,_,_,rfl,rfl,SqT.of (s4 _ _ ha2),rfl,y1,y2,x1,x2,rfl,rfl,SqT.of (s4 _ _ hy1),SqT.of (s4 _ _ hy2),(fun z=>by rw[z]at n1;simp at n1;omega),Q3 (ZM (by omega)),(fun z=>by rw[z]at n2;simp at n2;omega),fun _ tt htt'=>?_⟩
 have s5:=s4.trans (Zc htt' (.tup (x1++x2)))
 have f5:(upd H4 tt (.tup (x1++x2))) tt=some (.tup (x1++x2)):=Zb
 have tv5:TVs (upd H4 tt (.tup (x1++x2))) (x1++x2) (t1++t2):=(tv1'.app tv2').mono fun a xs e=>Zc htt' _ _ _ e
 generalize upd H4 tt (.tup (x1++x2))=H5 at s5 f5 tv5 ⊢
 refine⟨(by show 2≤sizeLine;decide),fun r hr0=>?_⟩
 have esum:sm=p1+p2:=by omega
 rw[esum]
 have s6:=Zc hr0 (.tup [.int (p1+p2),.ref tt])
 exact q r (p1+p2) (t1++t2) _ ⟨r,tt,x1++x2,rfl,Zb,s6 _ _ f5,tv5.mono fun a xs e=>s6 _ _ e⟩ hcut (s5.trans s6)
def ZjP(K:PySem.W.Frag)(ns:List Int)(wy:Nat):Sp:=fun vs H Q _=>∃ (d a:Addr) (kvs:List (List Key×V)) (b e:Nat),vs=[.ref d,.ref a,.int wy,.int b,.int e]∧H d=some (.dT kvs)∧SqL K H a (ns.map V.int)∧b<e∧e≤ns.length∧ns.length≤12∧(∀v∈ns,0≤v∧v≤1000000000)∧2≤wy∧(∀k,b<k→k<e→Has ns wy H kvs b k∧Has ns wy H kvs k e) ∧
 ∀ (r:Addr) (p:Int) (ts:List PT) (H':Hp),ZeN H' (.ref r) p ts→Gr ns wy b e 1 p ts→Zn H H'→Q (.ref r) H'
theorem ZlN(T:Zat K mg)(ns:List Int)(wy:Nat)(f_least_cut:Df P w K mg base 1 "least_cut" ["groves", "begin", "end", "most"] (ZkQ ns wy)):Df P w K mg base 2 "least_tree" ["groves", "sizes", "ways", "begin", "end"] (ZjP K ns wy):=by
 refine T.t_least_tree.df Zb5 (fun vs H Q E h=>?_) (fun cdv f A outer s H vs Q E hr h=>?_)
 ·obtain⟨d,a,kvs,b,e,rfl,_⟩:=h
  rfl
 obtain⟨d,a,kvs,b,e,rfl,hd,hS,hbe,hen,hn12,hns,w2,hall,q⟩:=h
 refine⟨_,#[Zf,#[Z0,#[Zy,Zd2,#[Zm,Za2,‹4›,‹3›],#[Ze],(ZD _)],#[Zj,#[Zo,#[Zx,#[Za,#[Ze],#[Za,#[Zx,#[Za,‹3›,#[Zd]]],#[Zd]]]]]],#[ZK]],#[Zf,#[Zb8,#[Zu,f_least_cut,hr,#[Za,‹0›,#[Za,‹3›,#[Za,‹4›,#[Za,‹2›,#[Zd]]]]],(by rfl)],#[gT,K,2,#[ZA,#[ZB,5,Zb5.nd,(Or.inl rfl)],#[ZA,#[ZB,6,Zb5.nd,(Or.inl rfl)],(@ZaP _)]]]],#[Zj,#[Zo,#[Zx,#[Za,#[Zm,ZG,‹5›,#[Zk,(ZlT K),(by rfl),T.b.n_sum,boot_sum,#[Za,#[ZF,(slL K),‹1›,#[Zz,‹3›],#[Zz,‹4›]],#[Zd]]]],#[Za,#[Zx,#[Za,‹6›,#[Zd]]],#[Zd]]]]]]]],?_⟩
 have hnn:∀v∈ns,0≤v:=fun v hv=>(hns v hv).1
 refine⟨_,rfl,_,rfl,_,_,rfl,rfl,rfl,_,rfl,ZcD (fun d0=>?_) (fun d0=>?_)⟩
 ·have d':=V.int.inj (of_decide_eq_true d0)
  have ee:e=b+1:=by omega
  subst ee
  refine⟨_,rfl,(by show 1≤sizeLine;decide),fun t1 ht1=>⟨(by show 2≤sizeLine;decide),fun r hr0=>?_⟩⟩
  have s2:=Zc hr0 (.tup [.int 0,.ref t1])
  exact q r 0 [.leaf (b:Int)] _ ⟨r,t1,_,rfl,Zb,s2 _ _ Zb,.cons (.leaf _) .nil⟩ (ZhW hnn wy b 1 (Qd 1)) ((Zc ht1 _).trans s2)
 ·have hne:¬ e=b+1:=fun z=>d0 (decide_eq_true (show V.int ((e:Int)-(b:Int))=V.int 1 from by rw[show ((e:Int)-(b:Int))=1 by omega]))
  refine⟨_,rfl,_,rfl,_,rfl,_,rfl,d,kvs,b,e,wy,rfl,hd,by omega,by omega,w2,Qd _,hall,fun r p ts H1 hC hG s1=>?_⟩
  obtain⟨r',t,xs,er,h1,h2,h3⟩:=hC
  cases er
  refine⟨r,_,rfl,SqT.of h1,rfl,_,_,rfl,_,_,rfl,rfl,?_⟩
  refine⟨_,rfl,_,rfl,_,rfl,_,rfl,_,rfl,_,rfl,a,_,rfl,s1.seq hS,fun sl hsl=>?_⟩
  rw[Zgp (ns.map V.int) b e (by rw[Qa];omega) (by rw[Qa];exact hen),← List.map_drop,← List.map_take]
  have s2:=Zc hsl (.lst (((ns.drop b).take (e-b)).map V.int))
  have f2:(upd H1 sl (.lst (((ns.drop b).take (e-b)).map V.int))) sl=some (.lst (((ns.drop b).take (e-b)).map V.int)):=Zb
  generalize upd H1 sl (.lst (((ns.drop b).take (e-b)).map V.int))=H2 at s2 f2 ⊢
  refine⟨sl,(ns.drop b).take (e-b),rfl,SqL.of f2,by rw[Qk,QA];omega,fun v hv=>?_,_,_,rfl,rfl,_,rfl,(by show 1≤sizeLine;decide),fun t2 ht2=>⟨(by show 2≤sizeLine;decide),fun r2 hr2=>?_⟩⟩
  ·have:=hns v (QW (QO hv))
   omega
  have s3:=Zc ht2 (.tup [.ref t])
  have s4:=Zc hr2 (.tup [.int (p+((ns.drop b).take (e-b)).sum),.ref t2])
  have s14:=(s2.trans s3).trans s4
  exact q r2 (p+seg ns b e) [.node ts] _ ⟨r2,t2,_,rfl,Zb,s4 _ _ Zb,.cons (.node (s14 _ _ h2) (h3.mono fun a xs e=>s14 _ _ e)) .nil⟩ (Ziz hG (by omega) hen) (s1.trans s14)
def Zil(ns:List Int)(wy:Nat):Sp:=fun vs H Q _=>∃ (d al:Addr) (kvs:List (List Key×V)) (b e m:Nat) (p:Int) (ts:List PT),vs=[.ref d,.ref al,.int b,.int e,.int m]∧H d=some (.dT kvs)∧b<e∧e≤12∧1≤m∧m<wy∧ZeN H (.ref al) p ts∧Gr ns wy b e 1 p ts∧(∀k,b<k→k<e→Has ns wy H kvs b k∧Has ns wy H kvs k e) ∧
 ∀ (r:Addr) (p:Int) (ts:List PT) (H':Hp),ZeN H' (.ref r) p ts→Gr ns wy b e m p ts→Zn H H'→Q (.ref r) H'
theorem ZjK(T:Zat K mg)(ns:List Int)(wy:Nat)(f_least_cut:Df P w K mg base 1 "least_cut" ["groves", "begin", "end", "most"] (ZkQ ns wy)):Df P w K mg base 2 "least_grove" ["groves", "alone", "begin", "end", "most"] (Zil ns wy):=by
 refine T.t_least_grove.df ZcG (fun vs H Q E h=>?_) (fun cdv f A outer s H vs Q E hr h=>?_)
 ·obtain⟨d,al,kvs,b,e,m,p,ts,rfl,_⟩:=h
  rfl
 obtain⟨d,al,kvs,b,e,m,p,ts,rfl,hd,hbe,he12,m1,mw,hC,hG,hall,q⟩:=h
 refine⟨_,#[Zf,#[Z0,(@PW.pt _ _ _ #[ZcN,#[Zy,Zd2,#[Zm,Za2,‹3›,‹2›],#[Ze],(ZD _)],#[Zcv,#[Zy,Zd2,‹4›,#[Ze],(ZD _)]]]),#[Zj,#[Zo,‹1›]],#[ZK]],#[Zf,#[Zq,5,ZcG.nd,(Or.inl rfl),#[Zu,f_least_cut,hr,#[Za,‹0›,#[Za,‹2›,#[Za,‹3›,#[Za,‹4›,#[Zd]]]]],(by rfl)]],#[Zj,#[Zo,(@ZgQ _ _ _ _ _ _ _ _ #[Zy,Zfq,#[ZJ,(ixT K),‹5›,#[Ze]],#[ZJ,(ixT K),‹1›,#[Ze]],(ZD _)] ‹5› ‹1›)]]]],?_⟩
 refine⟨_,rfl,_,rfl,_,_,rfl,rfl,rfl,_,rfl,ZcD (fun d0=>Z9 ⟨_,rfl,?_⟩) (fun d0=>⟨_,rfl,rfl,_,rfl,ZcD (fun d1=>⟨_,rfl,?_⟩) (fun d1=>?_)⟩)⟩
 ·have d':=V.int.inj (of_decide_eq_true d0)
  have ee:e=b+1:=by omega
  subst ee
  exact q al p ts H hC (Zkf hG m1) (Zn.refl H)
 ·have d':=V.int.inj (of_decide_eq_true d1)
  have em:m=1:=by omega
  subst em
  exact q al p ts H hC hG (Zn.refl H)
 ·have hne:¬ e=b+1:=fun z=>d0 (decide_eq_true (show V.int ((e:Int)-(b:Int))=V.int 1 from by rw[show ((e:Int)-(b:Int))=1 by omega]))
  have hm1:¬ m=1:=fun z=>d1 (decide_eq_true (by rw[z];rfl))
  refine⟨_,rfl,_,rfl,_,rfl,_,rfl,d,kvs,b,e,m,rfl,hd,by omega,he12,by omega,by omega,hall,fun r p2 ts2 H1 hC2 hG2 s1=>?_⟩
  obtain⟨g1,g2⟩:=Zit m1 hG hG2
  obtain⟨r',t,xs,er,h1,h2,h3⟩:=id hC2
  cases er
  obtain⟨al',t',xs',ea,k1,k2,k3⟩:=id hC
  cases ea
  refine⟨_,rfl,r,_,_,_,rfl,rfl,SqT.of h1,rfl,_,rfl,al,_,_,_,rfl,rfl,SqT.of (s1 _ _ k1),rfl,_,_,rfl,rfl,_,rfl,ZcD (fun d2=>⟨_,rfl,?_⟩) (fun d2=>⟨_,rfl,?_⟩)⟩
  ·exact q r p2 ts2 H1 hC2 (g1 (of_decide_eq_true d2)) s1
  ·exact q al p ts H1 (hC.mono fun a xs e=>s1 _ _ e) (g2 fun z=>d2 (decide_eq_true z)) s1
theorem Zio{H:Hp}{d:Addr}{kvs:List (List Key×V)}(h:H d=some (.dT kvs))(o:HO):∀a xs,H a=some (.tup xs)→(upd H d o) a=some (.tup xs):=fun a xs e=>by
 rw[Zi (ZjZ e h (fun z=>nomatch z))];exact e
structure St (ns:List Int) (wy:Nat) (H0 H:Hp) (d:Addr) (kvs:List (List Key×V)) (i j:Nat):Prop where
 hd:H d=some (.dT kvs)
 has:∀b e,b<e→e≤ns.length→(e-b≤i∨(e-b=i+1∧b<j))→Has ns wy H kvs b e
 only:∀b e m,Z3 kvs (Kb b e m)≠none→e-b≤i∨(e-b=i+1∧b<j)
 len:kvs.length≤72*i+6*j
 sm:Zn H0 H
 d0:H0 d=none
def Zdy(K:PySem.W.Frag)(ns:List Int)(wy:Nat):Sp:=fun vs H Q _=>∃ (a:Addr),vs=[.ref a,.int wy]∧SqL K H a (ns.map V.int)∧1≤ns.length∧ns.length≤12∧(∀v∈ns,0≤v∧v≤1000000000)∧2≤wy∧wy≤6 ∧
 ∀ (d:Addr) (kvs:List (List Key×V)) (H':Hp),H' d=some (.dT kvs)→(∀b e,b<e→e≤ns.length→Has ns wy H' kvs b e)→Zn H H'→Q (.ref d) H'
theorem ZiF(T:Zat K mg)(ns:List Int)(wy:Nat)(f_least_tree:Df P w K mg base 2 "least_tree" ["groves", "sizes", "ways", "begin", "end"] (ZjP K ns wy))(f_least_grove:Df P w K mg base 2 "least_grove" ["groves", "alone", "begin", "end", "most"] (Zil ns wy)):Df P w K mg base 3 "least_groves" ["sizes", "ways"] (Zdy K ns wy):=by
 refine T.t_least_groves.df Z1 (fun vs H Q E h=>?_) (fun cdv f A outer s H vs Q E hr h=>?_)
 ·obtain⟨a,rfl,_⟩:=h
  rfl
 obtain⟨a,rfl,hS,n1,n12,hns,w2,w6,q⟩:=h
 refine⟨_,#[Zf,#[Zq,2,Z1.nd,(Or.inl rfl),(@ZlY _ _)],#[Zf,#[ZaJ,PassesOwn.never,#[ZaQ,rfl,T.b.n_range,#[Za,#[Ze],#[Za,#[Zm,ZG,#[Zk,(ZaY K),(by rfl),T.b.n_len,Qw,#[Za,‹0›,#[Zd]]],#[Ze]],#[Zd]]]],#[ZB,3,Z1.nd,(Or.inl rfl)],#[Zj,#[ZaJ,PassesOwn.never,#[Zbq,T.b.n_range,#[Za,#[Zm,ZG,#[Zm,Za2,#[Zk,(ZaY K),(by rfl),T.b.n_len,Qw,#[Za,‹0›,#[Zd]]],‹3›],#[Ze]],#[Zd]]],#[ZB,4,Z1.nd,(Or.inl rfl)],#[Zf,#[Zq,5,Z1.nd,(Or.inl rfl),#[Zm,ZG,‹4›,‹3›]],#[Zf,#[Zq,6,Z1.nd,(Or.inl rfl),#[Zu,f_least_tree,hr,#[Za,‹2›,#[Za,‹0›,#[Za,‹1›,#[Za,‹4›,#[Za,‹5›,#[Zd]]]]]],(by rfl)]],#[Zj,#[ZaJ,PassesOwn.never,#[ZaQ,rfl,T.b.n_range,#[Za,#[Ze],#[Za,‹1›,#[Zd]]]],#[ZB,7,Z1.nd,(Or.inl rfl)],#[Zj,#[Zb8,#[Zu,f_least_grove,hr,#[Za,‹2›,#[Za,‹6›,#[Za,‹4›,#[Za,‹5›,#[Za,‹7›,#[Zd]]]]]],(by rfl)],(@ZgZ _ _ _ _ _ _ _ ‹2› #[Zx,#[Za,‹4›,#[Za,‹5›,#[Za,‹7›,#[Zd]]]]] (Zoy hr) (by intro _;rfl))]]]]]]]]],#[Zj,#[Zo,‹2›]]]],?_⟩
 have hl:(((ns.map V.int).length:Nat):Int)=(ns.length:Int):=by rw[Qa]
 refine fun d hd0=>?_
 have st0:St ns wy H (upd H d (.dT [])) d [] 0 0:=⟨Zb,fun b e h1 h2 h3=>by omega,fun b e m h=>absurd rfl h,Qm _,Zc hd0 _,hd0⟩
 generalize upd H d (.dT [])=H1 at st0 ⊢
 refine⟨_,rfl,a,_,rfl,.inl (st0.sm.seq hS),_,_,rfl,rfl,_,_,rfl,⟨by omega,by omega,by omega,by omega⟩,?_⟩
 rw[show ((((ns.map V.int).length:Nat):Int)+1-1).toNat=ns.length by omega]
 refine ZaR (fun i σ H2=>∃ (kvs:List (List Key×V)) (v3 v4 v5 v6 v7:Option V),σ=[some (.ref a),some (.int wy),some (.ref d),v3,v4,v5,v6,v7]∧St ns wy H H2 d kvs i 0) ⟨[],_,_,_,_,_,rfl,st0⟩ ?_ ?_
 ·rintro i σ H2 hi ⟨kvs,v3,v4,v5,v6,v7,rfl,st2⟩
  rw[show ((1:Int)+(i:Int))=((1+i:Nat):Int) by omega]
  refine⟨_,rfl,a,_,rfl,.inl (st2.sm.seq hS),_,rfl,_,_,rfl,rfl,_,_,rfl,rfl,_,rfl,by omega,by omega,?_⟩
  rw[show ((((ns.map V.int).length:Nat):Int)-((1+i:Nat):Int)+1).toNat=ns.length-i by omega]
  refine ZaR (fun j σ H3=>∃ (kvs:List (List Key×V)) (v4 v5 v6 v7:Option V),σ=[some (.ref a),some (.int wy),some (.ref d),some (.int ((1+i:Nat):Int)),v4,v5,v6,v7]∧St ns wy H H3 d kvs i j) ⟨kvs,_,_,_,_,rfl,st2⟩ ?_ ?_
  ·rintro j σ H3 hj ⟨kvs,v4,v5,v6,v7,rfl,st3⟩
   rw[show ((0:Int)+(j:Int))=(j:Int) by omega]
   refine⟨_,rfl,_,rfl,_,_,rfl,rfl,?_⟩
   simp only[show ((j:Int)+((1+i:Nat):Int))=((j+1+i:Nat):Int) by omega]
   have fam:∀k,j<k→k<j+1+i→Has ns wy H3 kvs j k∧Has ns wy H3 kvs k (j+1+i):=fun k h1 h2=>⟨st3.has j k h1 (by omega) (.inl (by omega)),st3.has k (j+1+i) h2 (by omega) (.inl (by omega))⟩
   refine⟨_,rfl,_,rfl,_,rfl,_,rfl,_,rfl,d,a,kvs,j,j+1+i,rfl,st3.hd,st3.sm.seq hS,by omega,by omega,n12,hns,w2,fam,fun al p ts H4 hC hG s4=>?_⟩
   refine⟨_,rfl,_,_,rfl,⟨by omega,by omega,by omega,by omega⟩,?_⟩
   rw[show ((wy:Int)-1).toNat=wy-1 by omega]
   refine ZaR (fun l σ H5=>∃ (kvs:List (List Key×V)) (v7:Option V),σ=[some (.ref a),some (.int wy),some (.ref d),some (.int ((1+i:Nat):Int)),some (.int (j:Int)),some (.int ((j+1+i:Nat):Int)),some (.ref al),v7]∧H5 d=some (.dT kvs)∧(∀b e,b<e→e≤ns.length→(e-b≤i∨(e-b=i+1∧b<j))→Has ns wy H5 kvs b e)∧(∀m,1≤m→m≤l→∃v p ts,Z3 kvs (Kb j (j+1+i) m)=some v∧ZeN H5 v p ts∧Gr ns wy j (j+1+i) m p ts)∧(∀b e m,Z3 kvs (Kb b e m)≠none→(e-b≤i∨(e-b=i+1∧b<j))∨(b=j∧e=j+1+i∧m≤l))∧kvs.length≤72*i+6*j+l∧Zn H H5∧ZeN H5 (.ref al) p ts)
    ⟨kvs,_,rfl,s4 _ _ st3.hd,fun b e h1 h2 h3=>(st3.has b e h1 h2 h3).mono fun a xs e=>s4 _ _ e,fun m h1 h2=>by omega,fun b e m h=>.inl (st3.only b e m h),by have:=st3.len;omega,st3.sm.trans s4,hC⟩ ?_ ?_
   ·rintro l σ H5 hll ⟨kvs5,v7',rfl,hd5,has5,cur5,only5,len5,s5,hC5⟩
    rw[show ((1:Int)+(l:Int))=((1+l:Nat):Int) by omega]
    have fam5:∀k,j<k→k<j+1+i→Has ns wy H5 kvs5 j k∧Has ns wy H5 kvs5 k (j+1+i):=fun k h1 h2=>⟨has5 j k h1 (by omega) (.inl (by omega)),has5 k (j+1+i) h2 (by omega) (.inl (by omega))⟩
    refine⟨_,rfl,_,rfl,_,rfl,_,rfl,_,rfl,d,al,kvs5,j,j+1+i,1+l,p,ts,rfl,hd5,by omega,by omega,by omega,by omega,hC5,hG,fam5,fun r p6 ts6 H6 hC6 hG6 s6=>?_⟩
    have hd6:=s6 _ _ hd5
    refine⟨_,rfl,_,rfl,_,rfl,_,rfl,(by show 3≤sizeLine;decide),fun k1 hk1=>?_⟩
    have s7:=Zc hk1 (.tup ((Kb j (j+1+i) (1+l)).map kV))
    have f7:(upd H6 k1 (.tup ((Kb j (j+1+i) (1+l)).map kV))) k1=some (.tup ((Kb j (j+1+i) (1+l)).map kV)):=Zb
    change Zhd _ _ _ (upd H6 k1 (.tup ((Kb j (j+1+i) (1+l)).map kV))) _
    generalize upd H6 k1 (.tup ((Kb j (j+1+i) (1+l)).map kV))=H7 at s7 f7 ⊢
    have hd7:=s7 _ _ hd6
    have hnone:Z3 kvs5 (Kb j (j+1+i) (1+l))=none:=by
     cases hx:Z3 kvs5 (Kb j (j+1+i) (1+l)) with
     | none=>rfl
     | some v =>
      rcases only5 j (j+1+i) (1+l) (by rw[hx];simp) with h|h<;>omega
    have s57:=s6.trans s7
    have keepT:∀a xs,H5 a=some (.tup xs)→(upd H7 d (.dT (kvs5++[(Kb j (j+1+i) (1+l),.ref r)]))) a=some (.tup xs):=fun a xs e=>Zio hd7 _ _ _ (s57 _ _ e)
    have keepT6:∀a xs,H6 a=some (.tup xs)→(upd H7 d (.dT (kvs5++[(Kb j (j+1+i) (1+l),.ref r)]))) a=some (.tup xs):=fun a xs e=>Zio hd7 _ _ _ (s7 _ _ e)
    have old:∀k v,Z3 kvs5 k=some v→Z3 (kvs5++[(Kb j (j+1+i) (1+l),V.ref r)]) k=some v:=fun k v h=>by rw[ZdZ,h];rfl
    refine⟨d,kvs5,k1,Kb j (j+1+i) (1+l),rfl,rfl,hd7,f7,hnone,ZM (by omega),?_⟩
    refine⟨_,_,rfl,Zb,fun b e h1 h2 h3 m m1 m2=>?_,fun m m1 m2=>?_,fun b e m h=>?_,by rw[Qe,Qh];omega,fun b o hb=>?_,hC5.mono keepT⟩
    ·obtain⟨v,p',ts',x1,x2,x3⟩:=has5 b e h1 h2 h3 m m1 m2
     exact⟨v,p',ts',old _ _ x1,x2.mono keepT,x3⟩
    ·by_cases hm:m≤l
     ·obtain⟨v,p',ts',x1,x2,x3⟩:=cur5 m m1 hm
      exact⟨v,p',ts',old _ _ x1,x2.mono keepT,x3⟩
     ·have em:m=1+l:=by omega
      subst em
      exact⟨.ref r,p6,ts6,by rw[ZdZ,hnone,if_pos rfl];rfl,hC6.mono keepT6,hG6⟩
    ·rw[ZdZ]at h
     by_cases hk:Kb j (j+1+i) (1+l)=Kb b e m
     ·obtain⟨x1,x2,x3⟩:=Znc hk
      exact .inr ⟨x1.symm,x2.symm,by omega⟩
     ·rw[if_neg hk]at h
      rcases only5 b e m (fun z=>h (by rw[z];rfl)) with h|h
      ·exact .inl h
      ·exact .inr ⟨h.1,h.2.1,by omega⟩
    ·rw[Zi (Zg hb st2.d0)];exact s57 _ _ (s5 b o hb)
   ·rintro σ H5 ⟨kvs5,v7',rfl,hd5,has5,cur5,only5,len5,s5,hC5⟩
    refine⟨kvs5,_,_,_,_,rfl,hd5,fun b e h1 h2 h3=>?_,fun b e m h=>?_,by omega,s5,st2.d0⟩
    ·by_cases hb:e-b≤i∨(e-b=i+1∧b<j)
     ·exact has5 b e h1 h2 hb
     ·have eb:b=j:=by omega
      have ee:e=j+1+i:=by omega
      subst eb ee
      exact fun m m1 m2=>cur5 m m1 (by omega)
    ·rcases only5 b e m h with h|h
     ·rcases h with h|h
      ·exact .inl h
      ·exact .inr ⟨h.1,by omega⟩
     ·exact .inr ⟨by omega,by omega⟩
  ·rintro σ H3 ⟨kvs,v4,v5,v6,v7,rfl,st3⟩
   refine⟨kvs,_,_,_,_,_,rfl,st3.hd,fun b e h1 h2 h3=>st3.has b e h1 h2 (by omega),fun b e m h=>?_,by have:=st3.len;omega,st3.sm,st3.d0⟩
   have:=st3.only b e m h
   omega
 ·rintro σ H2 ⟨kvs,v3,v4,v5,v6,v7,rfl,st2⟩
  exact⟨_,rfl,q d kvs H2 st2.hd (fun b e h1 h2=>st2.has b e h1 h2 (.inl (by omega))) st2.sm⟩
def ZjX(K:PySem.W.Frag):Sp:=fun vs H Q _=>∃ (a:Addr) (ns:List Int) (wy:Nat),vs=[.ref a,.int wy]∧SqL K H a (ns.map V.int)∧1≤ns.length∧ns.length≤12∧(∀v∈ns,0≤v∧v≤1000000000)∧2≤wy∧wy≤6 ∧
 ∀ (r:Addr) (x:V) (p:Int) (t:PT) (H':Hp),H r=none→H' r=some (.tup [.int p,x])→TV H' x t→Gr ns wy 0 ns.length 1 p [t]→Zn H H'→Q (.ref r) H'
theorem ZlL(T:Zat K mg)(f_least_groves':∀ns wy,Df P w K mg base 3 "least_groves" ["sizes", "ways"] (Zdy K ns wy)):Df P w K mg base 4 "near_plan" ["sizes", "ways"] (ZjX K):=by
 refine T.t_near_plan.df Zcr (fun vs H Q E h=>?_) (fun cdv f A outer s H vs Q E hr h=>?_)
 ·obtain⟨a,ns,wy,rfl,_⟩:=h
  rfl
 obtain⟨a,ns,wy,rfl,hS,n1,n12,hns,w2,w6,q⟩:=h
 have f_least_groves:=f_least_groves' ns wy
 refine⟨_,#[Zf,#[Zb8,#[ZJ,(ixD hr),#[Zu,f_least_groves,hr,#[Za,‹0›,#[Za,‹1›,#[Zd]]],(by rfl)],#[Zx,#[Za,#[Ze],#[Za,#[Zk,(ZaY K),(by rfl),T.b.n_len,Qw,#[Za,‹0›,#[Zd]]],#[Za,#[Ze],#[Zd]]]]]],#[gT,K,2,#[ZA,#[ZB,2,Zcr.nd,(Or.inl rfl)],#[ZA,#[ZB,3,Zcr.nd,(Or.inl rfl)],(@ZaP _)]]]],#[Zj,#[Zo,#[Zx,#[Za,‹2›,#[Za,#[ZJ,(ixT K),‹3›,#[Ze]],#[Zd]]]]]]],?_⟩
 have hl:(((ns.map V.int).length:Nat):Int)=(ns.length:Int):=by rw[Qa]
 refine⟨_,rfl,_,rfl,a,rfl,hS,n1,n12,hns,w2,w6,fun d kvs H1 hd hall s1=>?_⟩
 refine⟨_,rfl,a,_,rfl,.inl (s1.seq hS),(by show 3≤sizeLine;decide),fun k1 hk1=>?_⟩
 obtain⟨v,p,ts,hlk,⟨c,t,xs,rfl,hc,ht,tv⟩,hG⟩:=hall 0 ns.length (by omega) (Qd _) 1 (by omega) (by omega)
 have s2:=Zc hk1 (.tup ((Kb 0 ns.length 1).map kV))
 have f2:(upd H1 k1 (.tup ((Kb 0 ns.length 1).map kV))) k1=some (.tup ((Kb 0 ns.length 1).map kV)):=Zb
 rw[hl]
 change ZeL _ _ (upd H1 k1 (.tup ((Kb 0 ns.length 1).map kV))) _
 generalize upd H1 k1 (.tup ((Kb 0 ns.length 1).map kV))=H2 at s2 f2 ⊢
 refine⟨d,kvs,k1,Kb 0 ns.length 1,_,rfl,rfl,s2 _ _ hd,f2,hlk,c,_,rfl,SqT.of (s2 _ _ hc),rfl,_,_,rfl,_,_,rfl,rfl,?_⟩
 have g1:=hG.l1
 have g2:=hG.lm
 have s12:=s1.trans s2
 cases tv with
 | nil=>simp at g1
 | @cons x u xs us hx hxs =>
  have:us=[]:=List.eq_nil_of_length_eq_zero (by simp at g2;rw[g2];rfl)
  subst this
  refine⟨_,rfl,_,rfl,t,_,_,_,rfl,rfl,SqT.of (s2 _ _ ht),(Zbl (j:=0) rfl),(by show 2≤sizeLine;decide),fun r hr0=>?_⟩
  have s3:=Zc hr0 (.tup [.int p,x])
  exact q r x p u _ (s12.free hr0) Zb (hx.mono fun a xs e=>s3 _ _ (s2 _ _ e)) hG (s12.trans s3)
def Zkc:Sp:=fun vs H Q _=>∃ (b e wy:Nat),vs=[.int b,.int e,.int wy]∧b<e∧e≤12∧2≤wy∧wy≤6 ∧
 ∀ (r:Addr) (ls:List Addr) (Cn:List (List Nat)) (H':Hp),H' r=some (.lst (ls.map V.ref))→Rd H' ls (Cn.map toI)→(∀c,c∈Cn↔Zb3 b e wy c∧2≤c.length)→Cn.length≤2048→Zn H H'→Q (.ref r) H'
theorem Zhm{n:Nat}(h:n≤100000):n<sizeLine:=by rw[sizeLine_eq];omega
theorem Zlc(T:Zat K mg):Df P w K mg base 1 "_law_cuts" ["_law_begin", "_law_end", "_law_ways_here"] Zkc:=by
 refine T.t_l_cuts.df Zc2 (fun vs H Q E h=>?_) (fun cdv f A outer s H vs Q E hr h=>?_)
 ·obtain⟨b,e,wy,rfl,_⟩:=h
  rfl
 obtain⟨b,e,wy,rfl,hbe,he12,w2,w6,q⟩:=h
 refine⟨_,#[Zf,#[Zq,3,Zc2.nd,(Or.inl rfl),#[ZH,#[Za,#[ZH,#[Za,‹0›,#[Zd]]],#[Zd]]]],#[Zf,#[ZaJ,PassesOwn.never,#[ZaQ,rfl,T.b.n_range,#[Za,#[Zm,ZG,‹0›,#[Ze]],#[Za,‹1›,#[Zd]]]],#[ZB,4,Zc2.nd,(Or.inr rfl)],#[Zj,#[Zq,3,Zc2.nd,(Or.inl rfl),#[Zm,ZaB,‹3›,#[ZaD,Zhf,#[iL,K,‹3›],(fun _ _ _ _=>#[cg,5,Zhf]),(fun _ _ _ _=>(@Zix _ _ _ #[Zy,Zfq,#[Zk,(ZaY K),(Zaf Zhf rfl (by ac_rfl)),T.b.n_len,Qw,#[Za,#[cw,5,Zhf],#[Zd]]],#[cv,2,Zhf],(ZD _)])),(fun _ _ _ _=>#[Zm,ZaB,#[cw,5,Zhf],#[ZH,#[Za,#[cv,4,Zhf],#[Zd]]]])]]]]],#[Zj,#[Zo,#[ZaD,ZkH,#[iL,K,‹3›],(fun _ _ _ _=>#[cg,5,ZkH]),(fun _ _ _ _=>(@Zix _ _ _ #[Zy,ZcI,#[Zk,(ZaY K),(Zaf ZkH rfl (by ac_rfl)),T.b.n_len,Qw,#[Za,#[cw,5,ZkH],#[Zd]]],#[Ze],(ZD _)])),(fun _ _ _ _=>#[cw,5,ZkH])]]]]],?_⟩
 refine⟨_,rfl,(by show 1≤sizeLine;decide),fun l0 hl0=>⟨(by show 1≤sizeLine;decide),fun r0 hr0=>?_⟩⟩
 have s1:Zn H (upd (upd H l0 (.lst [.int (b:Int)])) r0 (.lst [.ref l0])):=(Zc hl0 _).trans (Zc hr0 _)
 have f1:(upd (upd H l0 (.lst [.int (b:Int)])) r0 (.lst [.ref l0])) r0=some (.lst ([l0].map V.ref)):=Zb
 have g1:Rd (upd (upd H l0 (.lst [.int (b:Int)])) r0 (.lst [.ref l0])) [l0] ([[b]].map toI):=⟨Zc hr0 _ _ _ Zb,trivial⟩
 generalize upd (upd H l0 (.lst [.int (b:Int)])) r0 (.lst [.ref l0])=H1 at s1 f1 g1 ⊢
 refine⟨_,rfl,_,_,rfl,rfl,_,rfl,_,_,rfl,⟨by omega,by omega,by omega,by omega⟩,?_⟩
 rw[show ((e:Int)-((b:Int)+1)).toNat=e-(b+1) by omega]
 refine ZaR (fun i σ H2=>∃ (r:Addr) (ls:List Addr) (Cn:List (List Nat)) (v4:Option V),σ=[some (.int b),some (.int e),some (.int wy),some (.ref r),v4]∧H2 r=some (.lst (ls.map V.ref))∧Rd H2 ls (Cn.map toI)∧(∀c,c∈Cn↔Zb3 b (b+1+i) wy c)∧Cn.length≤2 ^ i∧Zn H H2) ⟨r0,[l0],[[b]],_,rfl,f1,g1,fun c=>by rw[Nat.add_zero,Zfs (by omega),List.mem_singleton],Qd 1,s1⟩ ?_ ?_
 ·rintro i σ H2 hi ⟨r,ls,Cn,v4,rfl,hr2,rd2,hC,hlen,s2⟩
  rw[show ((b:Int)+1+(i:Int))=((b+1+i:Nat):Int) by omega]
  have hp2:2 ^ i≤2 ^ 10:=Nat.pow_le_pow_right (by omega) (by omega)
  have hCl:Cn.length≤1024:=QI hlen hp2
  have hls:ls.length=Cn.length:=by rw[rd2.len,Qa]
  refine⟨_,rfl,_,rfl,r,rfl,⟨_,SqL.of hr2⟩,fun D hD=>?_⟩
  refine ZeA (K:=K) (a:=r) (xs:=ls.map V.ref) (fun j ys σ H3=>(∃v:Option V,σ=[some (.int b),some (.int e),some (.int wy),some (.ref r),some (.int ((b+1+i:Nat):Int)),v])∧(∃ms:List Addr,ys=ms.map V.ref∧Rd H3 ms ((((Cn.take j).filter fun c=>decide (c.length<wy)).map (·++[b+1+i])).map toI)∧D ∉ ms∧ms.length≤j)∧j≤ls.length∧H3 D=some (.lst ys)∧Zn H2 H3) ?_ (fun _ _ _ _ h=>SqL.of (h.2.2.2.2 _ _ hr2)) ?_ ?_
  ·exact⟨⟨none,rfl⟩,⟨[],rfl,trivial,(fun h=>by cases h),Qd _⟩,Qm _,Zb,Zc hD _⟩
  ·rintro j x ys σ H3 hx ⟨⟨v,rfl⟩,⟨ms,rfl,rd3,hDm,hml⟩,hj,hD3,s3⟩
   rw[Qt]at hx
   cases hz:ls[j]? with
   | none=>rw[hz]at hx;cases hx
   | some l =>
    rw[hz]at hx
    cases hx
    have hjl:j<ls.length:=(Qi.mp hz).1
    obtain⟨d,hd1,hd⟩:=rd2.at hz
    rw[Qt]at hd1
    cases hc:Cn[j]? with
    | none=>rw[hc]at hd1;cases hd1
    | some c =>
     rw[hc]at hd1
     cases hd1
     have hd3:=s3 _ _ hd
     have hlc:((((toI c).map V.int).length:Nat):Int)=(c.length:Int):=by rw[Qa,Zc3]
     have hcw:c.length≤wy:=((hC c).mp (QB hc)).2.2.2
     have nDl:D≠l:=(Zg hd hD).symm
     refine⟨_,rfl,l,_,rfl,.inl (SqL.of hd3),_,rfl,_,_,rfl,rfl,_,rfl,?_⟩
     by_cases hk:c.length<wy
     ·refine Zgj (by rw[hlc];omega) ?_
      refine⟨_,rfl,_,rfl,(by show 1≤sizeLine;decide),fun l1 hl1=>?_⟩
      have s4:=Zc hl1 (.lst [.int ((b+1+i:Nat):Int)])
      have f4:(upd H3 l1 (.lst [.int ((b+1+i:Nat):Int)])) l1=some (.lst [.int ((b+1+i:Nat):Int)]):=Zb
      generalize upd H3 l1 (.lst [.int ((b+1+i:Nat):Int)])=H4 at s4 f4 ⊢
      refine⟨l,l1,_,_,rfl,rfl,s4 _ _ hd3,f4,(by rw[Qa,Zc3];exact Q3 (ZM (by show c.length+1≤1000;omega))),fun p hp=>?_⟩
      have ecat:(toI c).map V.int++[V.int ((b+1+i:Nat):Int)]=(toI (c++[b+1+i])).map V.int:=by unfold toI;rw[Qf,Qf];rfl
      rw[ecat]
      have s5:=Zc hp (.lst ((toI (c++[b+1+i])).map V.int))
      have hD4:=s4 _ _ hD3
      have hD5:=s5 _ _ hD4
      have nDp:D≠p:=Zg hD4 hp
      refine⟨hD5,(by rw[Qa];exact Zhm (by omega)),⟨_,rfl⟩,⟨ms++[p],by rw[Qf];rfl,?_,fun h=>?_,by rw[Qe,Qh];omega⟩,hjl,Zb,fun b' o hb=>?_⟩
      ·rw[Qv,hc,QaD,Qf,Qf]
       have ef:([c].filter fun c=>decide (c.length<wy))=[c]:=by simp[hk]
       show Rd _ _ (_++(([c].filter fun c=>decide (c.length<wy)).map (·++[b+1+i])).map toI)
       rw[ef]
       refine Rd.app (Rd.mono (fun l' hl' u hu=>?_) rd3) ⟨?_,trivial⟩
       ·rw[Zi (fun z:l'=D=>hDm (z ▸ hl'))];exact s5 _ _ (s4 _ _ hu)
       ·rw[Zi nDp.symm];exact Zb
      ·rcases Qr.mp h with h|h
       ·exact hDm h
       ·exact nDp (Qg.mp h)
      ·rw[Zi (Zg hb hD)];exact s5 _ _ (s4 _ _ (s3 b' o hb))
     ·refine Zd0 (by rw[hlc];omega) ⟨⟨_,rfl⟩,⟨ms,rfl,?_,hDm,by omega⟩,hjl,hD3,s3⟩
      rw[Qv,hc,QaD]
      have ef:([c].filter fun c=>decide (c.length<wy))=[]:=by simp[hk]
      show Rd _ _ ((((_++[c].filter fun c=>decide (c.length<wy))).map (·++[b+1+i])).map toI)
      rw[ef,QG]
      exact rd3
  rintro ys σ H3 ⟨⟨v,rfl⟩,⟨ms,rfl,rd3,hDm,hml⟩,_,hD3,s3⟩
  rw[Qa]at hml rd3
  rw[Qn (by omega)]at rd3
  refine⟨r,D,_,_,rfl,rfl,s3 _ _ hr2,hD3,(by rw[Qa,Qa];exact Q3 (Zhm (by omega))),fun r2 hr2'=>?_⟩
  rw[← Qf]
  have s4:=Zc hr2' (.lst ((ls++ms).map V.ref))
  refine⟨r2,ls++ms,Cn++(Cn.filter fun c=>decide (c.length<wy)).map (·++[b+1+i]),_,rfl,Zb,?_,fun c=>?_,?_,(s2.trans s3).trans s4⟩
  ·have em:(Cn++(Cn.filter fun c=>decide (c.length<wy)).map (·++[b+1+i])).map toI=Cn.map toI++((Cn.filter fun c=>decide (c.length<wy)).map (·++[b+1+i])).map toI:=Qf
   rw[em]
   exact Rd.app (Rd.mono (fun l _ u hu=>s4 _ _ (s3 _ _ hu)) rd2) (Rd.mono (fun l _ u hu=>s4 _ _ hu) rd3)
  ·rw[show b+1+(i+1)=b+1+i+1 by omega,Zjy (by omega),List.mem_append,hC c]
   refine or_congr Iff.rfl ⟨fun h=>?_,fun ⟨c0,e1,e2,e3⟩=>?_⟩
   ·obtain⟨c0,h0,rfl⟩:=Qz.mp h
    obtain⟨h1,h2⟩:=List.mem_filter.mp h0
    exact⟨c0,rfl,(hC c0).mp h1,of_decide_eq_true h2⟩
   ·rw[e1]
    exact Qz.mpr ⟨c0,List.mem_filter.mpr ⟨(hC c0).mpr e2,decide_eq_true e3⟩,rfl⟩
  ·rw[Qe,Qa,Nat.pow_succ]
   have:=List.length_filter_le (fun c=>decide (c.length<wy)) Cn
   omega
 ·rintro σ H2 ⟨r,ls,Cn,v4,rfl,hr2,rd2,hC,hlen,s2⟩
  rw[show b+1+(e-(b+1))=e by omega]at hC
  have hp2:2 ^ (e-(b+1))≤2 ^ 11:=Nat.pow_le_pow_right (by omega) (by omega)
  have hCl:Cn.length≤2048:=QI hlen hp2
  have hls:ls.length=Cn.length:=by rw[rd2.len,Qa]
  refine⟨_,rfl,r,rfl,⟨_,SqL.of hr2⟩,fun D hD=>?_⟩
  refine ZeA (K:=K) (a:=r) (xs:=ls.map V.ref) (fun j ys σ H3=>(∃v:Option V,σ=[some (.int b),some (.int e),some (.int wy),some (.ref r),v4,v])∧(∃ms:List Addr,ys=ms.map V.ref∧Rd H3 ms (((Cn.take j).filter fun c=>decide (1<c.length)).map toI)∧D ∉ ms∧ms.length≤j)∧j≤ls.length∧H3 D=some (.lst ys)∧Zn H2 H3) ?_ (fun _ _ _ _ h=>SqL.of (h.2.2.2.2 _ _ hr2)) ?_ ?_
  ·exact⟨⟨none,rfl⟩,⟨[],rfl,trivial,(fun h=>by cases h),Qd _⟩,Qm _,Zb,Zc hD _⟩
  ·rintro j x ys σ H3 hx ⟨⟨v,rfl⟩,⟨ms,rfl,rd3,hDm,hml⟩,hj,hD3,s3⟩
   rw[Qt]at hx
   cases hz:ls[j]? with
   | none=>rw[hz]at hx;cases hx
   | some l =>
    rw[hz]at hx
    cases hx
    have hjl:j<ls.length:=(Qi.mp hz).1
    obtain⟨d,hd1,hd⟩:=rd2.at hz
    rw[Qt]at hd1
    cases hc:Cn[j]? with
    | none=>rw[hc]at hd1;cases hd1
    | some c =>
     rw[hc]at hd1
     cases hd1
     have hd3:=s3 _ _ hd
     have hlc:((((toI c).map V.int).length:Nat):Int)=(c.length:Int):=by rw[Qa,Zc3]
     have nDl:D≠l:=(Zg hd hD).symm
     refine⟨_,rfl,l,_,rfl,.inl (SqL.of hd3),_,_,rfl,rfl,_,rfl,?_⟩
     by_cases hk:1<c.length
     ·refine Zgj (by rw[hlc];omega) ⟨_,rfl,hD3,(by rw[Qa];exact Zhm (by omega)),⟨_,rfl⟩,⟨ms++[l],by rw[Qf];rfl,?_,fun h=>?_,by rw[Qe,Qh];omega⟩,hjl,Zb,fun b' o hb=>?_⟩
      ·rw[Qv,hc,QaD,Qf]
       have ef:([c].filter fun c=>decide (1<c.length))=[c]:=by simp[hk]
       show Rd _ _ (_++([c].filter fun c=>decide (1<c.length)).map toI)
       rw[ef]
       refine Rd.app (Rd.mono (fun l' hl' u hu=>?_) rd3) ⟨?_,trivial⟩
       ·rw[Zi (fun z:l'=D=>hDm (z ▸ hl'))];exact hu
       ·rw[Zi nDl.symm];exact hd3
      ·rcases Qr.mp h with h|h
       ·exact hDm h
       ·exact nDl (Qg.mp h)
      ·rw[Zi (Zg hb hD)];exact s3 b' o hb
     ·refine Zd0 (by rw[hlc];omega) ⟨⟨_,rfl⟩,⟨ms,rfl,?_,hDm,by omega⟩,hjl,hD3,s3⟩
      rw[Qv,hc,QaD]
      have ef:([c].filter fun c=>decide (1<c.length))=[]:=by simp[hk]
      show Rd _ _ ((_++[c].filter fun c=>decide (1<c.length)).map toI)
      rw[ef,QG]
      exact rd3
  rintro ys σ H3 ⟨⟨v,rfl⟩,⟨ms,rfl,rd3,hDm,hml⟩,_,hD3,s3⟩
  rw[Qa,Qn (by omega)]at rd3
  refine q D ms _ H3 hD3 rd3 (fun c=>?_) (QI (List.length_filter_le _ _) hCl) (s2.trans s3)
  rw[List.mem_filter,hC c]
  exact and_congr Iff.rfl ⟨fun h=>of_decide_eq_true h,fun h=>decide_eq_true h⟩
def Kp(x y:Nat):List Key:=[.inl (x:Int),.inl (y:Int)]
theorem ZhE{b e b' e':Nat}(h:Kp b e=Kp b' e'):b=b'∧e=e':=by
 unfold Kp at h
 injection h with h1 h2
 injection h2 with h2 _
 injection h1 with h1
 injection h2 with h2
 omega
theorem Zlj(n:Nat):ZbE 0 n=Z6 0 n:=by
 unfold ZbE Z6
 rw[Nat.sub_zero]
 refine Qah fun i _=>?_
 omega
mutual
theorem ZhV{n:Nat}:∀t:PT,(∀k∈tLv t,0≤k∧k<(n:Int))→tOk n t
 | .leaf k,h=>h k (by simp[tLv])
 | .node l,h=>ZkR l h
theorem ZkR{n:Nat}:∀l:List PT,(∀k∈ZaO l,0≤k∧k<(n:Int))→Zbu n l
 | [],_=>trivial
 | t::r,h=>⟨ZhV t fun k hk=>h k (by show k∈tLv t++ZaO r;exact Qaq _ hk),ZkR r fun k hk=>h k (by show k∈tLv t++ZaO r;exact Qs _ hk)⟩
end
mutual
theorem ZeY{w:Nat}:∀t:PT,tPl w t→tGd t∧tLf t=(tLv t).length
 | .leaf k,_=>⟨⟨Qd 1,Qd 2⟩,rfl⟩
 | .node l,h=>by
  obtain⟨h1,h2,h3⟩:2≤l.length∧l.length≤w∧Zcz w l:=h
  obtain⟨g1,g2⟩:=Zkx l h3
  exact⟨Zgk g1 h1,g2⟩
theorem Zkx{w:Nat}:∀l:List PT,Zcz w l→ZcP l∧Zaq l=(ZaO l).length
 | [],_=>⟨trivial,rfl⟩
 | t::r,h=>by
  obtain⟨a1,a2⟩:=ZeY t h.1
  obtain⟨b1,b2⟩:=Zkx r h.2
  refine⟨⟨a1,b1⟩,?_⟩
  show tLf t+Zaq r=(tLv t++ZaO r).length
  rw[Qe,a2,b2]
end
theorem Znb{ns:List Int}{w:Nat}{p:Int}{t:PT}(hn:ns.length≤12)(g:Gr ns w 0 ns.length 1 p [t]):tLv t=ZbE 0 ns.length∧tPl w t∧tCo ns t=p∧tOk ns.length t∧tDp t<13∧tNo t≤30:=by
 have e1:tLv t=ZbE 0 ns.length:=by
  have h9:tLv t++[]=ZbE 0 ns.length:=g.nf.1
  rw[QG]at h9
  exact h9
 have e2:tPl w t:=g.nf.2.1
 have e3:tCo ns t=p:=by
  have h9:tCo ns t+0=p:=g.co
  omega
 obtain⟨⟨c1,c2⟩,c3⟩:=ZeY t e2
 rw[e1,Za1]at c3
 refine⟨e1,e2,e3,ZhV t fun k hk=>?_,by omega,by omega⟩
 rw[e1]at hk
 unfold ZbE at hk
 obtain⟨i,hi,rfl⟩:=Qz.mp hk
 have:=QJ.mp hi
 omega
def Zv(n b:Nat):List (Nat×Nat):=(List.range b).flatMap fun x=>(List.range (n-x)).map fun i=>(x,x+1+i)
theorem Zb1(n b:Nat):Zv n (b+1)=Zv n b++(List.range (n-b)).map fun i=>(b,b+1+i):=by
 unfold Zv
 rw[QaB,List.flatMap_append]
 simp
theorem ZbX(n:Nat):∀b,(Zv n b).length≤n*b
 | 0=>Qd 0
 | b+1=>by
  have:=ZbX n b
  rw[Zb1,Qe,Qa,QaH,Nat.mul_succ]
  omega
theorem Zba{n x y:Nat}:(x,y)∈Zv n n↔x<y∧y≤n:=by
 unfold Zv
 rw[List.mem_flatMap]
 constructor
 ·rintro⟨a,h1,h2⟩
  obtain⟨i,h3,h4⟩:=Qz.mp h2
  have a1:=QJ.mp h1
  have a2:=QJ.mp h3
  injection h4 with h5 h6
  omega
 ·rintro⟨h1,h2⟩
  exact⟨x,QJ.mpr (by omega),Qz.mpr ⟨y-x-1,QJ.mpr (by omega),by rw[show x+1+(y-x-1)=y by omega]⟩⟩
def ltP(p q:Nat×Nat):Prop:=p.1<q.1∨(p.1=q.1∧p.2<q.2)
theorem Zl8(n b:Nat):(Zv n b).Pairwise ltP:=by
 unfold Zv
 rw[List.pairwise_flatMap]
 refine⟨fun a _=>?_,?_⟩
 ·refine List.Pairwise.map _ (fun i j h=>.inr ⟨rfl,?_⟩) List.pairwise_lt_range
  show a+1+i<a+1+j
  omega
 ·refine List.pairwise_lt_range.imp fun {a c} h x hx y hy=>?_
  obtain⟨i,_,rfl⟩:=Qz.mp hx
  obtain⟨j,_,rfl⟩:=Qz.mp hy
  exact .inl h
def tri(pf:Nat→Nat→Int)(p:Nat×Nat):Int×Int×Int:=((p.1:Int),(p.2:Int),pf p.1 p.2)
def q3(e:Int×Int×Int):List Key:=[.inl e.1,.inl e.2.1,.inl e.2.2]
def q2(p:Nat×Nat):List Key:=Kp p.1 p.2
def ZnZ(K:PySem.W.Frag):Sp:=fun vs H Q _=>∃ (a:Addr) (ns:List Int) (wy:Nat),vs=[.ref a,.int wy]∧SqL K H a (ns.map V.int)∧1≤ns.length∧ns.length≤12∧(∀v∈ns,0≤v∧v≤1000000000)∧2≤wy∧wy≤6 ∧
 ∀ (r:Addr) (ts:ZaF) (pf:Nat→Nat→Int) (H':Hp),H r=none→H' r=some (.lst (Zl ts))→AtT H' ts→ts.map (·.2)=((Zv ns.length ns.length).map (tri pf)).map q3→(∀b e,b<e→e≤ns.length→∃t,Gr ns wy b e 1 (pf b e) [t])→Zn H H'→Q (.ref r) H'
theorem ZnA(T:Zat K mg)(f_least_groves':∀ns wy,Df P w K mg base 3 "least_groves" ["sizes", "ways"] (Zdy K ns wy)):Df P w K mg base 4 "prices_for" ["sizes", "ways"] (ZnZ K):=by
 refine T.t_prices_for.df Zb9 (fun vs H Q E h=>?_) (fun cdv f A outer s H vs Q E hr h=>?_)
 ·obtain⟨a,ns,wy,rfl,_⟩:=h
  rfl
 obtain⟨a,ns,wy,rfl,hS,n1,n12,hns,w2,w6,q⟩:=h
 have f_least_groves:=f_least_groves' ns wy
 refine⟨_,#[Zf,#[Zq,2,Zb9.nd,(Or.inr rfl),#[Zu,f_least_groves,hr,#[Za,‹0›,#[Za,‹1›,#[Zd]]],(by rfl)]],#[Zf,#[Zq,3,Zb9.nd,(Or.inr rfl),#[Zk,(ZaY K),(by rfl),T.b.n_len,Qw,#[Za,‹0›,#[Zd]]]],#[Zj,#[Zo,(@Zgf _ _ _ _ _ _ _ _ _ _ _ _ _ _ _ _ Zeu rfl rfl rfl #[Zbq,T.b.n_range,#[Za,#[pv,3,(Or.inr (Or.inl rfl))],#[Zd]]] (fun _ _ _ _=>#[cg,4,Zeu]) (fun _ _ _ _=>#[ZaQ,(Zaf Zeu rfl (by ac_rfl)),T.b.n_range,#[Za,#[Zm,ZG,#[cw,4,Zeu],#[Ze]],#[Za,#[Zm,ZG,#[cv,3,Zeu],#[Ze]],#[Zd]]]]) (fun _ _ _ _=>#[cg,5,Zeu]) (fun _ _ _ _=>#[Zx,#[Za,#[cw,4,Zeu],#[Za,#[cw,5,Zeu],#[Za,#[ZJ,(ixT K),#[ZJ,(ixD hr),#[cv,2,Zeu],#[Zx,#[Za,#[cw,4,Zeu],#[Za,#[cw,5,Zeu],#[Za,#[Ze],#[Zd]]]]]],#[Ze]],#[Zd]]]]]) (by intro _;rfl) (by intro _ _ _ _ _;rfl))]]]],?_⟩
 have hl:(((ns.map V.int).length:Nat):Int)=(ns.length:Int):=by rw[Qa]
 refine⟨_,rfl,_,rfl,a,rfl,hS,n1,n12,hns,w2,w6,fun d kvs H1 hd hall s1=>?_⟩
 refine⟨_,rfl,a,_,rfl,.inl (s1.seq hS),?_⟩
 simp only[hl]
 obtain⟨pf,hpf⟩:∃pf:Nat→Nat→Int,∀b e,b<e→e≤ns.length→∃ (c y:Addr) (t:PT),Z3 kvs (Kb b e 1)=some (.ref c)∧H1 c=some (.tup [.int (pf b e),.ref y])∧Gr ns wy b e 1 (pf b e) [t]:=by
  have hx:∀b e,b<e→e≤ns.length→∃p:Int,∃ (c y:Addr) (t:PT),Z3 kvs (Kb b e 1)=some (.ref c)∧H1 c=some (.tup [.int p,.ref y])∧Gr ns wy b e 1 p [t]:=fun b e h1 h2=>by
   obtain⟨v,p,ts,x1,⟨c,y,xs,rfl,x2,_,_⟩,x3⟩:=hall b e h1 h2 1 (Qd 1) (by omega)
   have l1:=x3.l1
   have l2:=x3.lm
   cases ts with
   | nil=>simp at l1
   | cons t r =>
    have:r=[]:=by simpa using l2
    subst this
    exact⟨p,c,y,t,x1,x2,x3⟩
  refine⟨fun b e=>if h:b<e∧e≤ns.length then Classical.choose (hx b e h.1 h.2) else 0,fun b e h1 h2=>?_⟩
  have e9:(if h:b<e∧e≤ns.length then Classical.choose (hx b e h.1 h.2) else 0)=Classical.choose (hx b e h1 h2):=dif_pos ⟨h1,h2⟩
  simp only[e9]
  exact Classical.choose_spec (hx b e h1 h2)
 refine⟨_,rfl,_,rfl,by omega,by omega,fun D hD=>?_⟩
 rw[Q6]
 refine Zd1 (fun b ys σ H2=>(∃v1 v2:Option V,σ=[some (.ref a),some (.int wy),some (.ref d),some (.int (ns.length:Int)),v1,v2])∧(∃ts:ZaF,ys=Zl ts∧AtT H2 ts∧ts.map (·.2)=((Zv ns.length b).map (tri pf)).map q3)∧b≤ns.length∧H2 D=some (.lst ys)∧Zn H1 H2) ?_ ?_ ?_
 ·exact⟨⟨none,none,rfl⟩,⟨[],rfl,(fun t h=>by cases h),rfl⟩,Qm _,Zb,Zc hD _⟩
 ·rintro b ys σ H2 hb ⟨⟨v1,v2,rfl⟩,⟨ts,rfl,hat,hE⟩,hb',hD2,s2⟩
  rw[show ((0:Int)+(b:Int))=(b:Int) by omega]
  refine⟨_,rfl,_,_,rfl,rfl,_,rfl,_,_,rfl,rfl,_,_,rfl,⟨by omega,by omega,by omega,by omega⟩,?_⟩
  rw[show ((ns.length:Int)+1-((b:Int)+1)).toNat=ns.length-b by omega]
  refine Zd3 (fun i ys σ H3=>(∃v2:Option V,σ=[some (.ref a),some (.int wy),some (.ref d),some (.int (ns.length:Int)),some (.int (b:Int)),v2])∧(∃ts:ZaF,ys=Zl ts∧AtT H3 ts∧ts.map (·.2)=((Zv ns.length b++(List.range i).map fun i=>(b,b+1+i)).map (tri pf)).map q3)∧i≤ns.length-b∧H3 D=some (.lst ys)∧Zn H1 H3) ⟨⟨_,rfl⟩,⟨ts,rfl,hat,by rw[hE];simp⟩,Qm _,hD2,s2⟩ ?_ ?_
  ·rintro i ys σ H3 hi ⟨⟨v2',rfl⟩,⟨ts3,rfl,hat3,hE3⟩,hi',hD3,s3⟩
   rw[show ((b:Int)+1+(i:Int))=((b+1+i:Nat):Int) by omega]
   obtain⟨c,y,t,x1,x2,x3⟩:=hpf b (b+1+i) (by omega) (by omega)
   have htl:ts3.length≤156:=by
    have h9:=congrArg List.length hE3
    rw[Qa,Qa,Qa,Qe,Qa,QaH]at h9
    have h8:=ZbX ns.length b
    have h7:ns.length*b≤12*12:=Nat.mul_le_mul n12 (by omega)
    omega
   refine⟨_,rfl,_,rfl,_,rfl,_,rfl,_,rfl,(by show 3≤sizeLine;decide),fun k1 hk1=>?_⟩
   have s4:=Zc hk1 (.tup ((Kb b (b+1+i) 1).map kV))
   have f4:(upd H3 k1 (.tup ((Kb b (b+1+i) 1).map kV))) k1=some (.tup ((Kb b (b+1+i) 1).map kV)):=Zb
   change ZeL _ _ (upd H3 k1 (.tup ((Kb b (b+1+i) 1).map kV))) _
   generalize upd H3 k1 (.tup ((Kb b (b+1+i) 1).map kV))=H4 at s4 f4 ⊢
   have s14:=s3.trans s4
   refine⟨d,kvs,k1,Kb b (b+1+i) 1,_,rfl,rfl,s14 _ _ hd,f4,x1,c,_,_,_,rfl,rfl,SqT.of (s14 _ _ x2),rfl,(by show 3≤sizeLine;decide),fun n hn=>?_⟩
   have sn:=Zc hn (.tup [.int (b:Int),.int ((b+1+i:Nat):Int),.int (pf b (b+1+i))])
   have hD4:=s4 _ _ hD3
   have hD5:=sn _ _ hD4
   have nDn:D≠n:=Zg hD4 hn
   refine⟨hD5,(by rw[ZV];exact ZM (by omega)),⟨_,rfl⟩,⟨ts3++[(n,q3 (tri pf (b,b+1+i)))],by unfold Zl;rw[Qf];rfl,fun t ht=>?_,?_⟩,by omega,Zb,fun b' o hb=>?_⟩
   ·rcases Qr.mp ht with ht|ht
    ·exact Zaa hD5 _ _ _ (sn _ _ (s4 _ _ (hat3 t ht)))
    ·rw[Qg.mp ht,Zi nDn.symm];exact Zb
   ·rw[Qf,hE3,QaB]
    simp[List.map_append]
   ·rw[Zi (Zg hb hD)];exact sn _ _ (s14 b' o hb)
  ·rintro ys σ H3 ⟨⟨v2',rfl⟩,⟨ts3,rfl,hat3,hE3⟩,_,hD3,s3⟩
   exact⟨⟨_,_,rfl⟩,⟨ts3,rfl,hat3,by rw[Zb1];exact hE3⟩,hb,hD3,s3⟩
 ·rintro ys σ H2 ⟨⟨v1,v2,rfl⟩,⟨ts,rfl,hat,hE⟩,_,hD2,s2⟩
  exact q D ts pf H2 (s1.free hD) hD2 hat hE (fun b e h1 h2=>by obtain⟨_,_,t,_,_,g⟩:=hpf b e h1 h2;exact⟨t,g⟩) (s1.trans s2)
def ZjM:Sp:=fun vs H Q _=>∃ (n:Nat),vs=[.int n]∧n≤12 ∧
 ∀ (r:Addr) (ts:ZaF) (H':Hp),H r=none→H' r=some (.lst (Zl ts))→AtT H' ts→ts.map (·.2)=(Zv n n).map q2→Zn H H'→Q (.ref r) H'
theorem Zlt(T:Zat K mg):Df P w K mg base 1 "_law_stretches" ["_law_many_here"] ZjM:=by
 refine T.t_l_stretches.df ZbL (fun vs H Q E h=>?_) (fun cdv f A outer s H vs Q E hr h=>?_)
 ·obtain⟨n,rfl,_⟩:=h
  rfl
 obtain⟨n,rfl,n12,q⟩:=h
 refine⟨_,#[Zf,#[Zq,1,ZbL.nd,(Or.inl rfl),#[ZH,#[Zd]]],#[Zf,#[ZaJ,PassesOwn.never,#[Zbq,T.b.n_range,#[Za,‹0›,#[Zd]]],#[ZB,2,ZbL.nd,(Or.inr rfl)],#[Zj,#[Zbk,#[ZcX,QC,Qae,Qaf,ZiK,‹1›,#[Za,#[ZaD,Zl4,#[ZaQ,rfl,T.b.n_range,#[Za,#[Zm,ZG,#[pv,2,(Or.inr (Or.inl rfl))],#[Ze]],#[Za,#[Zm,ZG,‹0›,#[Ze]],#[Zd]]]],(fun _ _ _ _=>#[cg,3,Zl4]),(fun _ _ _ _=>(@ZaE _)),(fun _ _ _ _=>#[Zx,#[Za,#[cv,2,Zl4],#[Za,#[cw,3,Zl4],#[Zd]]]])],#[Zd]]]]]],#[Zj,#[Zo,‹1›]]]],?_⟩
 refine⟨(by show 0≤sizeLine;decide),fun fo hfo=>?_⟩
 have s1:=Zc hfo (.lst [])
 have f1:(upd H fo (.lst [])) fo=some (.lst (Zl [])):=Zb
 generalize upd H fo (.lst [])=H1 at s1 f1 ⊢
 refine⟨_,rfl,_,rfl,by omega,by omega,?_⟩
 rw[Q6]
 refine ZaR (fun b σ H2=>∃ (v2:Option V) (ts:ZaF),σ=[some (.int (n:Int)),some (.ref fo),v2]∧H2 fo=some (.lst (Zl ts))∧AtT H2 ts∧ts.map (·.2)=(Zv n b).map q2∧Zn H H2) ⟨_,[],rfl,f1,(fun t h=>by cases h),rfl,s1⟩ ?_ ?_
 ·rintro b σ H2 hb ⟨v2,ts,rfl,f2,hat,hE,s2⟩
  rw[show ((0:Int)+(b:Int))=(b:Int) by omega]
  have htl:ts.length≤144:=by
   have h9:=congrArg List.length hE
   rw[Qa,Qa]at h9
   have h8:=ZbX n b
   have h7:n*b≤12*12:=Nat.mul_le_mul n12 (by omega)
   omega
  refine⟨_,rfl,.inl ⟨rfl,_,SqL.of f2⟩,_,rfl,_,_,rfl,rfl,_,rfl,_,_,rfl,rfl,_,_,rfl,⟨by omega,by omega,by omega,by omega⟩,fun D hD=>?_⟩
  rw[show ((n:Int)+1-((b:Int)+1)).toNat=n-b by omega]
  have nfD:fo≠D:=Zg f2 hD
  refine Zdf (fun i ys σ H3=>(∃v:Option V,σ=[some (.int (n:Int)),some (.ref fo),some (.int (b:Int)),v])∧(∃us:ZaF,ys=Zl us∧AtT H3 us∧us.length=i∧us.map (·.2)=((List.range i).map fun i=>(b,b+1+i)).map q2)∧i≤n-b∧H3 D=some (.lst ys)∧Zn H2 H3) ?_ ?_ ?_
  ·exact⟨⟨none,rfl⟩,⟨[],rfl,(fun t h=>by cases h),rfl,rfl⟩,Qm _,Zb,Zc hD _⟩
  ·rintro i ys σ H3 hi ⟨⟨v,rfl⟩,⟨us,rfl,hau,hul,hEu⟩,hi',hD3,s3⟩
   rw[show ((b:Int)+1+(i:Int))=((b+1+i:Nat):Int) by omega]
   refine⟨_,rfl,_,rfl,(by show 2≤sizeLine;decide),fun m hm=>?_⟩
   have sn:=Zc hm (.tup [.int (b:Int),.int ((b+1+i:Nat):Int)])
   have hD4:=sn _ _ hD3
   have nDm:D≠m:=Zg hD3 hm
   refine⟨hD4,(by rw[ZV,hul];exact ZM (by omega)),⟨_,rfl⟩,⟨us++[(m,q2 (b,b+1+i))],by unfold Zl;rw[Qf];rfl,fun t ht=>?_,by rw[Qe,Qh];omega,?_⟩,by omega,Zb,fun b' o hb=>?_⟩
   ·rcases Qr.mp ht with ht|ht
    ·exact Zaa hD4 _ _ _ (sn _ _ (hau t ht))
    ·rw[Qg.mp ht,Zi nDm.symm];exact Zb
   ·rw[Qf,hEu,QaB,Qf,Qf]
    rfl
   ·rw[Zi (Zg hb hD)];exact sn _ _ (s3 b' o hb)
  rintro ys σ H3 ⟨⟨v,rfl⟩,⟨us,rfl,hau,hul,hEu⟩,_,hD3,s3⟩
  have f3:=s3 _ _ f2
  refine⟨fo,D,_,_,rfl,rfl,f3,hD3,(by rw[ZV,ZV];exact Q3 (ZM (by omega))),?_⟩
  have e9:Zl ts++Zl us=Zl (ts++us):=by unfold Zl;rw[Qf]
  rw[e9]
  refine⟨_,ts++us,rfl,Zb,fun t ht=>?_,?_,fun b' o hb=>by rw[Zi (Zg hb hfo)];exact s3 _ _ (s2 b' o hb)⟩
  ·rcases Qr.mp ht with ht|ht
   ·exact Zaa f3 _ _ _ (s3 _ _ (hat t ht))
   ·exact Zaa f3 _ _ _ (hau t ht)
  ·rw[Qf,hE,hEu,Zb1,Qf]
 ·rintro σ H2 ⟨v2,ts,rfl,f2,hat,hE,s2⟩
  exact⟨_,rfl,q fo ts H2 hfo f2 hat hE s2⟩
theorem Zed{n:Nat}(h:n≤12):(Zv n n).length≤144:=by
 have h8:=ZbX n n
 have h7:n*n≤12*12:=Nat.mul_le_mul h h
 omega
theorem Zn0{fs:List Int}{k:Int}(h:k ∉ fs):((fs.map PyData.int).any fun e=>PyData.eqv e (.int k))=false:=by
 rw[List.any_eq_false]
 intro e he
 obtain⟨x,hx,rfl⟩:=Qz.mp he
 have:x≠k:=fun z=>h (z ▸ hx)
 simp[PyData.eqv,this]
theorem Zcs{n d:Nat}(h:d<n):¬ (HT.sIx n 0 none=0∧HT.sIx n n (some (d:Int))=n):=by
 rw[HT.sIx_nat,HT.sIx_none];omega
theorem ZfW{n d:Nat}(h:d<n):¬ (HT.sIx n 0 (some ((d:Int)+1))=0∧HT.sIx n n none=n):=by
 have e:(d:Int)+1=((d+1:Nat):Int):=by omega
 rw[e,HT.sIx_nat,HT.sIx_none];omega
theorem Zmr{c A B:Prop}[Decidable c](hc:¬ c)(h:A):if (!decide c)=true then A else B:=by
 rw[if_pos (by rw[decide_eq_false hc];rfl)];exact h
mutual
def okD(w:Nat):PyData→Prop
 | .int _=>True
 | .tuple l=>2≤l.length∧l.length≤w∧Zby w l
 | _=>False
def Zby(w:Nat):List PyData→Prop
 | []=>True
 | d::r=>okD w d∧Zby w r
end
mutual
def lvD:PyData→List Int
 | .int k=>[k]
 | .tuple l=>Zbm l
 | _=>[]
def Zbm:List PyData→List Int
 | []=>[]
 | d::r=>lvD d++Zbm r
end
mutual
def lfD:PyData→Nat
 | .list l=>Zab l
 | .tuple l=>Zab l
 | _=>1
def Zab:List PyData→Nat
 | []=>0
 | d::r=>lfD d+Zab r
end
mutual
def ndD:PyData→Nat
 | .list l=>ZbV l+1
 | .tuple l=>ZbV l+1
 | _=>1
def ZbV:List PyData→Nat
 | []=>0
 | d::r=>ndD d+ZbV r
end
theorem ZcY:∀a b:List PyData,Zbm (a++b)=Zbm a++Zbm b
 | [],b=>rfl
 | d::r,b=>by show lvD d++Zbm (r++b)=(lvD d++Zbm r)++Zbm b;rw[ZcY r b,Q7]
theorem Zar:∀a b:List PyData,Zab (a++b)=Zab a+Zab b
 | [],b=>by show Zab b=0+Zab b;omega
 | d::r,b=>by show lfD d+Zab (r++b)=lfD d+Zab r+Zab b;rw[Zar r b];omega
theorem Zdx:∀a b:List PyData,ZbV (a++b)=ZbV a+ZbV b
 | [],b=>by show ZbV b=0+ZbV b;omega
 | d::r,b=>by show ndD d+ZbV (r++b)=ndD d+ZbV r+ZbV b;rw[Zdx r b];omega
theorem Zch(w:Nat):∀a b:List PyData,Zby w (a++b)↔Zby w a∧Zby w b
 | [],b=>by show Zby w b↔True∧Zby w b;simp
 | d::r,b=>by show okD w d∧Zby w (r++b)↔(okD w d∧Zby w r)∧Zby w b;rw[Zch w r b,and_assoc]
mutual
theorem Znh:∀d:PyData,(lvD d).length≤lfD d
 | .int k=>Qd 1
 | .tuple l=>ZkN l
 | .none=>Qm _
 | .bool _=>Qm _
 | .str _=>Qm _
 | .list _=>Qm _
 | .dict _=>Qm _
theorem ZkN:∀l:List PyData,(Zbm l).length≤Zab l
 | []=>Qd 0
 | d::r=>by
  have:=Znh d
  have:=ZkN r
  show (lvD d++Zbm r).length≤lfD d+Zab r
  rw[Qe];omega
end
theorem ZjH(d:PyData):1≤ndD d:=by cases d<;>(first|exact Qd 1|exact Qan 1 _)
def InR(n:Nat)(l:List Int):Prop:=∀k∈l,0≤k∧k<(n:Int)
theorem ZhY{n:Nat}{l:List Int}(nd:l.Nodup)(h:InR n l):l.length≤n:=by
 have:=List.Nodup.length_le_of_subset nd (l₂:=(List.range n).map fun i:Nat=>(i:Int)) fun k hk=>by
  obtain⟨h1,h2⟩:=h k hk
  exact Qz.mpr ⟨k.toNat,QJ.mpr (by omega),by omega⟩
 simpa using this
def Zg2:Sp:=fun vs H Q _=>∃ (x:V) (d:PyData),vs=[x]∧DH H x d∧Q (.bl (ZS d)) H
theorem Zid(T:Zat K mg):Df P w K mg base 1 "is_number" ["thing"] Zg2:=by
 refine T.t_is_number.df Zdt (fun vs H Q E h=>?_) (fun cdv f A outer s H vs Q E hr h=>?_)
 ·obtain⟨x,d,rfl,_⟩:=h
  rfl
 obtain⟨x,d,rfl,hd,q⟩:=h
 refine⟨_,#[Zj,#[Zo,#[Zdb,#[Zk,(Zcy K),(by rfl),T.b.n_isinstance,boot_isinstance,#[Za,‹0›,#[Za,#[Zbg,T.b.n_int,boot_int,(by rfl)],#[Zd]]]],(@ZdP _ _ _ _ _ (@Zhl _ _ _ _ #[Zk,(Zcy K),(by rfl),T.b.n_isinstance,boot_isinstance,#[Za,‹0›,#[Za,#[Zbg,T.b.n_bool,boot_bool,(by rfl)],#[Zd]]]]))]]],?_⟩
 refine⟨_,rfl,_, "int",_,_,rfl,hd.ty,hd.kI K,_,rfl,?_⟩
 cases hI:ZS d with
 | true =>
  have hB:Zct d=false:=by cases d<;>first|rfl|cases hI
  rw[hI]at q
  refine Z9 ⟨_,rfl,_, "bool",_,_,rfl,hd.ty,hd.kB K,_,rfl,?_⟩
  rw[hB];exact q
 | false =>
  rw[hI]at q
  cases hB:Zct d with
  | true =>
   refine Z9 ⟨_,rfl,_, "bool",_,_,rfl,hd.ty,hd.kB K,_,rfl,?_⟩
   rw[hB];exact q
  | false=>exact ZaG q
def Znp(n:Nat):Sp:=fun vs H Q _=>∃ (a fo:Addr) (ns fs:List Int) (wy:Nat) (x:V) (d:PyData),vs=[.ref a,.int wy,x,.ref fo]∧H a=some (.lst (ns.map V.int))∧H fo=some (.lst (fs.map V.int))∧a≠fo∧ns.length≤100∧DH (off fo H) x d∧d.depth<n∧fs.Nodup∧InR ns.length fs ∧
 ∀ (b:Bool) (fs':List Int) (H':Hp),H' fo=some (.lst (fs'.map V.int))→(∀c o,H c=some o→c≠fo→H' c=some o)→fs'.Nodup→InR ns.length fs'→(b=true↔okD wy d∧(fs++lvD d).Nodup∧InR ns.length (lvD d))→(b=true→fs'=fs++lvD d)→Q (.bl b) H'
theorem Zna(fs:List Int)(k:Int):((fs.map PyData.int).any fun e=>PyData.eqv e (.int k))=decide (k∈fs):=by
 by_cases h:k∈fs
 ·rw[decide_eq_true h,List.any_eq_true]
  exact⟨.int k,Qz.mpr ⟨k,h,rfl⟩,by simp[PyData.eqv]⟩
 ·rw[decide_eq_false h,Zn0 h]
theorem Zet:∀ {l:List PyData} {i:Nat} {d:PyData},l[i]? = some d→d.depth≤PyData.depthAll l
 | [],i,d,h=>by simp at h
 | a::r,0,d,h=>by
  have:a=d:=by simpa using h
  subst this
  show a.depth≤max a.depth (PyData.depthAll r)
  omega
 | a::r,i+1,d,h=>by
  have:=Zet (l:=r) (i:=i) (by simpa using h)
  show d.depth≤max a.depth (PyData.depthAll r)
  omega
theorem Zmp(T:Zat K mg)(f_is_number:Df P w K mg base 1 "is_number" ["thing"] Zg2):∀n:Nat,Df P w K mg base (n+1) "finds_rows" ["sizes", "ways", "thing", "found"] (Znp n)
 | 0=>by
  refine T.t_finds_rows.df Zb7 (fun vs H Q E h=>?_) (fun cdv f A outer s H vs Q E hr h=>?_)
  ·obtain⟨a,fo,ns,fs,wy,x,d,rfl,_⟩:=h
   rfl
  obtain⟨a,fo,ns,fs,wy,x,d,rfl,hS,hF,naf,n12,hT,hdp,_⟩:=h
  exact absurd hdp (by omega)
 | n+1=>by
  have f_finds_rows:=Zmp T f_is_number n
  refine T.t_finds_rows.df Zb7 (fun vs H Q E h=>?_) (fun cdv f A outer s H vs Q E hr h=>?_)
  ·obtain⟨a,fo,ns,fs,wy,x,d,rfl,_⟩:=h
   rfl
  obtain⟨a,fo,ns,fs,wy,x,d,rfl,hS,hF,naf,n12,hT,hdp,nd,inr,q⟩:=h
  refine⟨_,#[Zf,#[Z0,#[Zak,#[Zu,f_is_number,hr,#[Za,‹2›,#[Zd]],(by rfl)]],#[Zf,#[Z0,(@PW.pt _ _ _ #[ZcN,#[Zy,Zfq,‹2›,#[Ze],(ZD _)],#[ZcN,#[Zy,Zmt,‹2›,#[Zk,(ZaY K),(by rfl),T.b.n_len,Qw,#[Za,‹0›,#[Zd]]],(ZD _)],#[Zcv,#[Zy,(inD K hr),‹2›,‹3›,(by with_unfolding_all rfl)]]]]),#[Zj,#[Zo,#[Zag]]],#[ZK]],#[Zf,#[Zbk,#[ZcX,QC,QP,QR,ZaS,‹3›,#[Za,‹2›,#[Zd]]]],#[Zj,#[Zo,#[Zag]]]]],#[ZK]],#[Zf,#[Z0,(@PW.pt _ _ _ #[ZcN,#[Za9,#[Zak,#[Zk,(Zcy K),(by rfl),T.b.n_isinstance,boot_isinstance,#[Za,‹2›,#[Za,#[Zbg,T.b.n_tuple,boot_tuple,(by rfl)],#[Zd]]]]]],#[ZcN,#[Zy,Zfq,#[Zk,(ZaY K),(by rfl),T.b.n_len,Qw,#[Za,‹2›,#[Zd]]],#[Ze],(ZD _)],#[Zcv,#[Zy,ZcI,#[Zk,(ZaY K),(by rfl),T.b.n_len,Qw,#[Za,‹2›,#[Zd]]],‹1›,(ZD _)]]]]),#[Zj,#[Zo,#[Zag]]],#[ZK]],#[Zf,#[ZaJ,PassesOwn.never,(@iT _ K _ _ _ ‹2› (by rfl)),#[ZB,4,Zb7.nd,(Or.inl rfl)],#[Zj,#[Z0,#[Za9,#[Zak,#[Zu,f_finds_rows,hr,#[Za,‹0›,#[Za,‹1›,#[Za,‹4›,#[Za,‹3›,#[Zd]]]]],(by rfl)]]],#[Zj,#[Zo,#[Zag]]],#[ZK]]]],#[Zj,#[Zo,#[Zag]]]]]],?_⟩
  have hD:DH H x d:=hT.on
  have fl:=ZhY nd inr
  have hls:(((ns.map V.int).length:Nat):Int)=(ns.length:Int):=by rw[Qa]
  refine⟨_,rfl,x,d,rfl,hD,_,rfl,?_⟩
  cases hI:ZS d with
  | true =>
   obtain⟨k,rfl,rfl⟩:=hD.int_inv hI
   have no:¬ (0≤k∧k<(ns.length:Int))∨k∈fs→Q (.bl false) H:=fun h=>q false fs H hF (fun c o hc _=>hc) nd inr ⟨fun z=>(by cases z),fun ⟨_,z1,z2⟩=>by
    rcases h with h|h
    ·exact absurd (z2 k (by show k∈[k];simp)) h
    ·have:=(List.nodup_append.mp z1).2.2 k h k (by show k∈[k];simp)
     exact absurd rfl this⟩ (fun z=>(by cases z))
   refine Z9 ⟨_,rfl,_,_,rfl,rfl,_,rfl,?_⟩
   by_cases h1:k<0
   ·exact Zgj h1 (Z9 (no (.inl (by omega))))
   refine Zd0 h1 ⟨_,rfl,_,rfl,a,_,rfl,.inl (SqL.of hS),_,_,rfl,rfl,_,rfl,?_⟩
   by_cases h2:k≥(((ns.map V.int).length:Nat):Int)
   ·exact Zgj h2 (Z9 (no (.inl (by rw[hls]at h2;omega))))
   refine Zd0 h2 ⟨_,rfl,_,rfl,fo,_,fs.map PyData.int,.int k,rfl,SqL.of hF,Zdv fs,.int k,Zez fs,(by simp[SeqAt.shaped,PyData.canLay0,PyData.depth]),(by simp[PyData.depth]),_,rfl,?_⟩
   rw[Zna]
   by_cases h3:k∈fs
   ·exact Zgj h3 (no (.inr h3))
   refine Zd0 h3 ⟨_,rfl,.inl ⟨rfl,_,SqL.of hF⟩,_,rfl,fo,_,_,rfl,rfl,hF,(by rw[Qa];exact ZM (by omega)),?_⟩
   rw[hls]at h2
   have nd2:(fs++[k]).Nodup:=List.nodup_append.mpr ⟨nd,by simp,fun x hx y hy e=>h3 (by rw[Qg.mp hy]at e;exact e ▸ hx)⟩
   have in2:InR ns.length (fs++[k]):=fun z hz=>by
    rcases Qr.mp hz with hz|hz
    ·exact inr z hz
    ·rw[Qg.mp hz];omega
   refine q true (fs++[k]) _ ?_ (fun c o hc nc=>by rw[Zi nc];exact hc) nd2 in2 ⟨fun _=>⟨trivial,nd2,fun z hz=>in2 z (Qs _ hz)⟩,fun _=>rfl⟩ (fun _=>rfl)
   rw[Zb,Qf];rfl
  | false =>
   refine ZaG ?_
   refine⟨_,rfl,_, "tuple",_,_,rfl,hD.ty,hD.kT K,_,rfl,?_⟩
   cases hTu:Zcn d with
   | false =>
    refine Z9 (Z9 (q false fs H hF (fun c o hc _=>hc) nd inr ⟨fun z=>(by cases z),fun ⟨z,_⟩=>?_⟩ (fun z=>(by cases z))))
    cases d with
    | int _=>cases hI
    | tuple _=>cases hTu
    | none=>exact z.elim
    | bool _=>exact z.elim
    | str _=>exact z.elim
    | list _=>exact z.elim
    | dict _=>exact z.elim
   | true =>
    obtain⟨b,xs,ds,rfl,rfl,hb,hs⟩:=hT.tup_inv hTu
    have hb':=Zb4 _ _ hb
    have hxl:=hs.length
    have no:(¬ (2≤ds.length∧ds.length≤wy))→Q (.bl false) H:=fun h=>q false fs H hF (fun c o hc _=>hc) nd inr ⟨fun z=>(by cases z),fun ⟨z,_⟩=>absurd ⟨z.1,z.2.1⟩ h⟩ (fun z=>(by cases z))
    refine ZaG ⟨_,rfl,b,_,rfl,.inr (SqT.of hb'),_,_,rfl,rfl,_,rfl,?_⟩
    by_cases h1:((xs.length:Nat):Int)<2
    ·exact Zgj h1 (Z9 (no (by omega)))
    refine Zd0 h1 ⟨_,rfl,b,_,rfl,.inr (SqT.of hb'),_,rfl,_,_,rfl,rfl,_,rfl,?_⟩
    by_cases h2:((xs.length:Nat):Int)>(wy:Int)
    ·exact Zgj h2 (no (by omega))
    refine Zd0 h2 ?_
    refine⟨_,rfl,b,rfl,⟨_,SqT.of hb'⟩,?_⟩
    have nbf:b≠fo:=fun z=>by rw[z]at hb;unfold off at hb;rw[if_pos rfl]at hb;cases hb
    refine Zh6 (K:=K) (a:=b) (xs:=xs) (fun i σ H2=>∃ (fs2:List Int) (v:Option V),σ=[some (.ref a),some (.int wy),some (.ref b),some (.ref fo),v]∧i≤xs.length∧H2 fo=some (.lst (fs2.map V.int))∧fs2=fs++Zbm (ds.take i)∧fs2.Nodup∧InR ns.length fs2∧Zby wy (ds.take i)∧(∀c o,H c=some o→c≠fo→H2 c=some o)) ⟨fs,_,rfl,Qm _,hF,by rw[Qal];show fs=fs++[];rw[QG],nd,inr,by rw[Qal];trivial,fun c o hc _=>hc⟩ (fun _ _ _ _ ⟨_,_,_,_,_,_,_,_,_,k2⟩=>SqT.of (k2 _ _ hb' nbf)) ?_ ?_
    ·rintro i z σ H2 hz ⟨fs2,v,rfl,hi,hF2,e2,nd2,in2,ok2,k2⟩
     obtain⟨dz,hdz,hv⟩:=hs.get hz
     have hil:=(Qi.mp hz).1
     have hdd:PyData.depthAll ds+1<n+1:=by
      have:(PyData.tuple ds).depth=PyData.depthAll ds+1:=by simp[PyData.depth]
      omega
     have hd2:=Zet hdz
     have elv:Zbm (ds.take (i+1))=Zbm (ds.take i)++lvD dz:=by rw[Qv,hdz,ZcY];show _++(lvD dz++[])=_;rw[QG]
     have eok:Zby wy (ds.take (i+1))↔Zby wy (ds.take i)∧okD wy dz:=by rw[Qv,hdz,Zch];show _∧(okD wy dz∧True)↔_;rw[and_true]
     have esp:Zbm ds=Zbm (ds.take (i+1))++Zbm (ds.drop (i+1)):=by rw[← ZcY,QU]
     have esok:Zby wy ds↔Zby wy (ds.take (i+1))∧Zby wy (ds.drop (i+1)):=by rw[← Zch,QU]
     refine⟨_,rfl,_,rfl,_,rfl,_,rfl,a,fo,ns,fs2,wy,z,dz,rfl,k2 _ _ hS naf,hF2,naf,n12,hv.mono (Zan k2),by omega,nd2,in2,fun bo fs3 H3 hF3 k3 nd3 in3 hbo he3=>⟨_,rfl,?_⟩⟩
     have k03:∀c o,H c=some o→c≠fo→H3 c=some o:=fun c o hc nc=>k3 c o (k2 c o hc nc) nc
     cases bo with
     | false =>
      refine Z9 (q false fs3 H3 hF3 k03 nd3 in3 ⟨fun z=>(by cases z),fun ⟨z1,z2,z3⟩=>?_⟩ (fun z=>(by cases z)))
      have z1:2≤ds.length∧ds.length≤wy∧Zby wy ds:=z1
      have z2:(fs++Zbm ds).Nodup:=z2
      have z3:InR ns.length (Zbm ds):=z3
      have hok:=(eok.mp (esok.mp z1.2.2).1).2
      rw[esp,elv,← Q7,← Q7,← e2]at z2
      have hnd:=(List.nodup_append.mp z2).1
      have hin:InR ns.length (lvD dz):=fun k hk=>z3 k (by rw[esp,elv];exact Qaq _ (Qs _ hk))
      have:=hbo.mpr ⟨hok,hnd,hin⟩
      cases this
     | true =>
      obtain⟨y1,y2,y3⟩:=hbo.mp rfl
      have e3:=he3 rfl
      exact ZaG ⟨fs3,_,rfl,hil,hF3,by rw[e3,e2,elv,Q7],nd3,in3,eok.mpr ⟨ok2,y1⟩,k03⟩
    ·rintro σ H2 ⟨fs2,v,rfl,hi,hF2,e2,nd2,in2,ok2,k2⟩
     rw[hxl,Qn (Qd _)]at e2 ok2
     exact q true fs2 H2 hF2 k2 nd2 in2 ⟨fun _=>⟨⟨by omega,by omega,ok2⟩,by show (fs++Zbm ds).Nodup;rw[← e2];exact nd2,fun k hk=>in2 k (by rw[e2];exact Qs _ hk)⟩,fun _=>rfl⟩ (fun _=>e2)
def Zkp(n wy:Nat)(d:PyData):Prop:=okD wy d∧(lvD d).Nodup∧InR n (lvD d)∧(lvD d).length=n
theorem ZgK{n:Nat}{l:List Int}:l.Perm (Z6 0 n)↔l.Nodup∧InR n l∧l.length=n:=by
 have e:∀k,k∈Z6 0 n↔0≤k∧k<(n:Int):=fun k=>by
  unfold Z6
  rw[List.mem_map]
  constructor
  ·rintro⟨i,hi,rfl⟩;have:=QJ.mp hi;omega
  ·rintro⟨h1,h2⟩;exact⟨k.toNat,QJ.mpr (by omega),by omega⟩
 have nd0:(Z6 0 n).Nodup:=by unfold Z6;exact QaI.mpr (List.nodup_range.imp fun h g=>h (by omega))
 constructor
 ·intro h
  exact⟨h.nodup_iff.mpr nd0,fun k hk=>(e k).mp (h.mem_iff.mp hk),by rw[h.length_eq,ZbQ]⟩
 ·rintro⟨h1,h2,h3⟩
  refine(List.perm_ext_iff_of_nodup h1 nd0).mpr fun k=>⟨fun hk=>(e k).mpr (h2 k hk),fun hk=>?_⟩
  by_cases hm:k∈l
  ·exact hm
  ·have hk:=(e k).mp hk
   have:=ZhY (n:=n) (l:=k::l) (List.nodup_cons.mpr ⟨hm,h1⟩) (fun z hz=>by
    rcases QK.mp hz with rfl|hz
    ·exact hk
    ·exact h2 z hz)
   rw[QD]at this
   omega
theorem Zfo:∀A B:List Int,PyData.eqvAll (A.map PyData.int) (B.map PyData.int)=decide (A=B)
 | [],[]=>by simp[PyData.eqvAll]
 | [],b::B=>by simp[PyData.eqvAll]
 | a::A,[]=>by simp[PyData.eqvAll]
 | a::A,b::B=>by
  simp only[List.map_cons,PyData.eqvAll,PyData.eqv,Zfo A B]
  by_cases h:a=b<;>by_cases g:A=B<;>simp[h,g]
theorem Zih{ms ks:List Int}{n:Nat}(p:ms.Perm ks)(h:ms.Pairwise (·≤·)):ms=Z6 0 n↔ks.Perm (Z6 0 n):=by
 constructor
 ·intro e;rw[← e];exact p.symm
 ·intro e
  have nd0:(Z6 0 n).Pairwise (·≤·):=by
   unfold Z6
   exact QaI.mpr (List.pairwise_lt_range.imp fun h=>by omega)
  exact List.Perm.eq_of_pairwise (fun a b _ _ h1 h2=>Int.le_antisymm h1 h2) h nd0 (p.trans e)
theorem ZkW{l:List PyData}(h:l≠[]):∃u,l=l.dropLast++[u]:=⟨l.getLast h,(List.dropLast_concat_getLast h).symm⟩
theorem ZkC{H:Hp}{xs:List V}{l:List PyData}(h:DHs H xs l)(n:l≠[]):∃x u,xs[xs.length-1]? = some x∧DH H x u∧DHs H xs.dropLast l.dropLast∧l=l.dropLast++[u]:=by
 have hl:=h.length
 have lp:0<l.length:=Qai.mpr n
 have h1:xs[xs.length-1]? = some xs[xs.length-1]:=Qc (by omega)
 obtain⟨d,hd,hv⟩:=h.get h1
 refine⟨_,d,h1,hv,?_,?_⟩
 ·rw[Qap,Qap,hl]
  exact h.take _
 ·obtain⟨u,e⟩:=ZkW n
  have e2:l[l.length-1]? = some u:=by
   have e3:(l.dropLast++[u])[l.dropLast.length]? = some u:=by simp
   rw[← e,Qas]at e3
   exact e3
  rw[hl,e2]at hd
  cases hd
  exact e
theorem Zdd:∀a b:List PyData,PyData.canLayAll0 (a++b)=(PyData.canLayAll0 a&&PyData.canLayAll0 b)
 | [],b=>by simp[PyData.canLayAll0]
 | d::r,b=>by simp[PyData.canLayAll0,Zdd r b,Bool.and_assoc]
theorem Zdj:∀a b:List PyData,PyData.depthAll (a++b)=max (PyData.depthAll a) (PyData.depthAll b)
 | [],b=>by simp[PyData.depthAll]
 | d::r,b=>by
  show max d.depth (PyData.depthAll (r++b))=max (max d.depth (PyData.depthAll r)) (PyData.depthAll b)
  rw[Zdj r b];omega
theorem Zle(l:List PyData):(if true=true then !PyData.eqv (.list l) (.list []) else PyData.eqv (.list l) (.list [])) = !l.isEmpty:=by
 cases l with
 | nil=>ac_rfl
 | cons t r=>simp[PyData.eqv,PyData.eqvAll]
theorem ZfA:∀l:List PyData,l.length≤ZbV l
 | []=>Qd 0
 | d::r=>by have:=ZfA r;have:=ZjH d;show r.length+1≤ndD d+ZbV r;omega
def Zmd(K:PySem.W.Frag):Sp:=fun vs H Q _=>∃ (a:Addr) (ns:List Int) (wy:Nat) (x:V) (d:PyData),vs=[.ref a,.int wy,x]∧H a=some (.lst (ns.map V.int))∧ns.length≤100∧DH H x d∧d.canLay0=true∧d.depth≤40∧lfD d<64∧ndD d≤100000 ∧
 ∀ (b:Bool) (H':Hp),(b=true↔Zkp ns.length wy d)→Zn H H'→Q (.bl b) H'
theorem ZiD(T:Zat K mg):Df P w K mg base 1 "_law_is_plan" ["_law_sizes_here", "_law_ways_here", "_law_thing"] (Zmd K):=by
 refine T.t_l_is_plan.df ZbF (fun vs H Q E h=>?_) (fun cdv f A outer s H vs Q E hr h=>?_)
 ·obtain⟨a,ns,wy,x,t,rfl,_⟩:=h
  rfl
 obtain⟨a,ns,wy,x,d,rfl,hS,hn,hT,hlay,hdp,hlf,hno,q⟩:=h
 refine⟨_,#[Zf,#[Zq,3,ZbF.nd,(Or.inl rfl),#[ZH,#[Zd]]],#[Zf,#[Zq,4,ZbF.nd,(Or.inl rfl),#[ZH,#[Za,‹2›,#[Zd]]]],#[Zf,(@ZcJ _ _ _ _ _ _ PassesOwn.never #[Zy,#[neD,K,hr],‹4›,#[ZH,#[Zd]],(ZD _)] #[Zf,#[Zq,5,ZbF.nd,(Or.inl rfl),(@Zhg _ _ _ _ _ _ _ _ _ QC PySem.F.slot_list_pop PySem.F.type_list_pop Zg1 ‹4› (by rfl) (by rfl))],#[Zj,#[Z0,#[Zak,#[Zk,(Zcy K),(by rfl),T.b.n_isinstance,boot_isinstance,#[Za,‹5›,#[Za,#[Zbg,T.b.n_tuple,boot_tuple,(by rfl)],#[Zd]]]]],#[Zf,#[Z0,#[Za9,(@ZkD _ _ _ _ _ _ _ _ _ _ _ _ Zmi Zmi #[Ze] #[Zk,(ZaY K),(by rfl),T.b.n_len,Qw,#[Za,‹5›,#[Zd]]] ‹1› (by with_unfolding_all rfl))],#[Zj,#[Zo,#[Zag]]],#[ZK]],#[Zj,#[Zbk,#[ZcX,QC,Qae,Qaf,(ZmV K),‹4›,#[Za,‹5›,#[Zd]]]]]],#[Zj,#[Z0,(@PW.pt _ _ _ #[ZcN,#[Za9,#[Zak,#[Zk,(Zcy K),(by rfl),T.b.n_isinstance,boot_isinstance,#[Za,‹5›,#[Za,#[Zbg,T.b.n_int,boot_int,(by rfl)],#[Zd]]]]]],#[Zcv,#[Zak,#[Zk,(Zcy K),(by rfl),T.b.n_isinstance,boot_isinstance,#[Za,‹5›,#[Za,#[Zbg,T.b.n_bool,boot_bool,(by rfl)],#[Zd]]]]]]]),#[Zj,#[Zo,#[Zag]]],#[Zj,#[Zbk,#[ZcX,QC,QP,QR,ZaS,‹3›,#[Za,‹5›,#[Zd]]]]]]]]]]),#[Zj,#[Zo,#[Zcm,(@eqD _ K _ hr (by rfl)),#[Zk,(Zoi K),(by rfl),T.b.n_sorted,boot_sorted,#[Za,‹3›,#[Zd]]],#[ZR,ZhS,(by rfl),T.b.n_list,boot_list,#[Za,#[ZR,Zlo,(by rfl),T.b.n_range,boot_range,#[Za,#[Zk,(ZaY K),(by rfl),T.b.n_len,Qw,#[Za,‹0›,#[Zd]]],#[Zd]]],#[Zd]]],(ZD _)]]]]]],?_⟩
 refine⟨(by show 0≤sizeLine;decide),fun f hf=>⟨_,rfl,(by show 1≤sizeLine;decide),fun wa hwa=>?_⟩⟩
 have hwH:H wa=none:=(Zc hf (.lst [])).free hwa
 have nfw:f≠wa:=Zg (H:=upd H f (.lst [])) Zb hwa
 have s0:Zn H (upd (upd H f (.lst [])) wa (.lst [x])):=(Zc hf _).trans (Zc hwa _)
 refine⟨fun m σ H2=>∃ (xs:List V) (l:List PyData) (ks:List Int) (v3:Option V),σ=[some (.ref a),some (.int wy),some x,some (.ref f),some (.ref wa),v3]∧H2 wa=some (.lst xs)∧DHs H xs l∧PyData.canLayAll0 l=true∧PyData.depthAll l≤40∧H2 f=some (.lst (ks.map V.int))∧(okD wy d↔Zby wy l)∧(Zby wy l→(lvD d).Perm (ks++Zbm l))∧ks.length+Zab l<64∧ZbV l≤100000∧Zn H H2∧m=ZbV l,
  ⟨_,[x],[d],[],none,rfl,Zb,.cons hT .nil,by simp[PyData.canLayAll0,hlay],?_,?_,?_,?_,?_,?_,s0,rfl⟩,?_⟩
 ·show max d.depth 0≤40;omega
 ·rw[Zi nfw];exact Zb
 ·show okD wy d↔okD wy d∧True;rw[and_true]
 ·intro _;show (lvD d).Perm (lvD d++[]);rw[QG]
 ·show 0+(lfD d+0)<64;omega
 ·show ndD d+0≤100000;omega
 rintro m σ H2 ⟨xs,l,ks,v3,rfl,hw2,hT2,lay2,dp2,hf2,hok,hpm,hlf2,hnd2,s2,rfl⟩
 refine⟨_,rfl,(by show 0≤sizeLine;decide),fun e he=>?_⟩
 have se:=Zc he (.lst [])
 refine⟨.list l,.list [],.lst (SqL.of (se _ _ hw2)) (hT2.mono (s2.trans se)).dv,.lst (SqL.of Zb) .nil,?_,(by ac_rfl),_,rfl,?_⟩
 ·simp[SeqAt.shaped,PyData.canLay0,PyData.depth,lay2];omega
 rw[Zle]
 have hw3:=se _ _ hw2
 have hf3:=se _ _ hf2
 have s3:=s2.trans se
 generalize upd H2 e (.lst [])=H3 at hw3 hf3 s3 ⊢
 cases hl:l.isEmpty with
 | true =>
  have e0:l=[]:=List.isEmpty_iff.mp hl
  subst e0
  have hpm':(lvD d).Perm ks:=by
   have h9:(lvD d).Perm (ks++[]):=hpm trivial
   rw[QG]at h9
   exact h9
  have okd:okD wy d:=hok.mpr trivial
  have hls:(((ns.map V.int).length:Nat):Int)=(ns.length:Int):=by rw[Qa]
  have hkl:ks.length<64:=by omega
  refine ZaG ⟨_,rfl,f,ks,rfl,SqL.of hf3,hkl,fun so ms hso pm pw=>?_⟩
  have s4:=Zc hso (.lst (ms.map V.int))
  have f4:(upd H3 so (.lst (ms.map V.int))) so=some (.lst (ms.map V.int)):=Zb
  generalize upd H3 so (.lst (ms.map V.int))=H4 at s4 f4 ⊢
  refine⟨_,rfl,a,_,rfl,.inl (SqL.of ((s3.trans s4) _ _ hS)),?_⟩
  simp only[hls]
  refine⟨_,rfl,fun rg hrg=>⟨rg,0,_,rfl,Zb,by omega,by omega,by omega,by omega,by omega,fun tr htr=>?_⟩⟩
  rw[show (((ns.length:Int)-0).toNat)=ns.length by omega]
  have s5:Zn H4 (upd (upd H4 rg (.rng 0 (ns.length:Int))) tr (.lst ((Z6 0 ns.length).map V.int))):=(Zc hrg _).trans (Zc htr _)
  have f5:(upd (upd H4 rg (.rng 0 (ns.length:Int))) tr (.lst ((Z6 0 ns.length).map V.int))) tr=some (.lst ((Z6 0 ns.length).map V.int)):=Zb
  generalize upd (upd H4 rg (.rng 0 (ns.length:Int))) tr (.lst ((Z6 0 ns.length).map V.int))=H5 at s5 f5 ⊢
  refine⟨_,_,.lst (SqL.of (s5 _ _ f4)) (Zdv _),.lst (SqL.of f5) (Zdv _),ZcL _,ZcL _,?_⟩
  rw[if_neg (by decide)]
  have ee:PyData.eqv (.list (ms.map PyData.int)) (.list ((Z6 0 ns.length).map PyData.int))=decide (ms=Z6 0 ns.length):=by rw[← Zfo];simp[PyData.eqv]
  rw[ee]
  refine q _ H5 ⟨fun z=>?_,fun z=>decide_eq_true ?_⟩ ((s3.trans s4).trans s5)
  ·have z:=(Zih pm pw).mp (of_decide_eq_true z)
   obtain⟨z1,z2,z3⟩:=ZgK.mp (hpm'.trans z)
   exact⟨okd,z1,z2,z3⟩
  ·exact(Zih pm pw).mpr (hpm'.symm.trans (ZgK.mpr z.2))
 | false =>
  have lne:l≠[]:=fun z=>by rw[z]at hl;cases hl
  obtain⟨y,u,hy,hu,hTd,el⟩:=ZkC hT2 lne
  have layd:PyData.canLayAll0 l.dropLast=true∧u.canLay0=true:=by
   have:=lay2
   rw[el,Zdd]at this
   simpa [PyData.canLayAll0] using this
  have dpd:PyData.depthAll l.dropLast≤40∧u.depth≤40:=by
   have:=dp2
   rw[el,Zdj]at this
   have e9:PyData.depthAll [u]=u.depth:=by show max u.depth 0=_;omega
   rw[e9]at this
   omega
  have eok:Zby wy l↔Zby wy l.dropLast∧okD wy u:=by
   have:=Zch wy l.dropLast [u]
   rw[← el]at this
   rw[this];show _∧(okD wy u∧True)↔_;rw[and_true]
  have lvd:Zbm l=Zbm l.dropLast++lvD u:=by
   have:Zbm (l.dropLast++[u])=_:=ZcY _ _
   rw[← el]at this;rw[this];show _++(lvD u++[])=_;rw[QG]
  have lfd:Zab l=Zab l.dropLast+lfD u:=by
   have:Zab (l.dropLast++[u])=_:=Zar _ _
   rw[← el]at this;rw[this];show _+(lfD u+0)=_;omega
  have nod:ZbV l=ZbV l.dropLast+ndD u:=by
   have:ZbV (l.dropLast++[u])=_:=Zdx _ _
   rw[← el]at this;rw[this];show _+(ndD u+0)=_;omega
  have hup:=ZjH u
  refine Z9 ⟨_,fun σ' H' h=>h,?_⟩
  refine⟨_,rfl,.inl ⟨rfl,_,SqL.of hw3⟩,wa,xs,y,rfl,rfl,hw3,hy,?_⟩
  have hw4:(upd H3 wa (.lst xs.dropLast)) wa=some (.lst xs.dropLast):=Zb
  have hf4:(upd H3 wa (.lst xs.dropLast)) f=some (.lst (ks.map V.int)):=by rw[Zi nfw];exact hf3
  have s4:Zn H (upd H3 wa (.lst xs.dropLast)):=fun b o h=>by rw[Zi (Zg h hwH)];exact s3 b o h
  generalize upd H3 wa (.lst xs.dropLast)=H4 at hw4 hf4 s4 ⊢
  have hu4:=hu.mono s4
  have no:¬ okD wy u→Q (.bl false) H4:=fun h=>q false H4 ⟨fun z=>(by cases z),fun z=>absurd (eok.mp (hok.mp z.1)).2 h⟩ s4
  refine⟨_,rfl,_, "tuple",_,_,rfl,hu4.ty,hu4.kT K,_,rfl,?_⟩
  cases hTu:Zcn u with
  | true =>
   obtain⟨b,ys,ds,rfl,rfl,hb,hs⟩:=hu.tup_inv hTu
   have hb4:=s4 _ _ hb
   have l2:=hs.length
   refine Z9 ⟨_,rfl,b,ys,rfl,.inr (SqT.of hb4),_,_,rfl,rfl,_,rfl,?_⟩
   by_cases h2:¬ (2:Int)≤((ys.length:Nat):Int)
   ·refine Zd0 h2 ⟨_,rfl,Z9 (no fun z=>?_)⟩
    have:2≤ds.length:=z.1
    omega
   have h2:=Decidable.not_not.mp h2
   refine Zgj h2 ⟨_,rfl,_,_,rfl,rfl,_,rfl,?_⟩
   by_cases h3:¬ ((ys.length:Nat):Int)≤(wy:Int)
   ·refine Zmr h3 (no fun z=>?_)
    have:ds.length≤wy:=z.2.1
    omega
   have h3:=Decidable.not_not.mp h3
   refine Zfe h3 ?_
   have l1:=hTd.length
   have l3:=ZfA l.dropLast
   have l4:=ZfA ds
   have e1:ndD (.tuple ds)=ZbV ds+1:=rfl
   have e2:lfD (.tuple ds)=Zab ds:=rfl
   have e3:(PyData.tuple ds).depth=PyData.depthAll ds+1:=by simp[PyData.depth]
   have e4:PyData.canLayAll0 ds=true:=by simpa [PyData.canLay0] using layd.2
   have e5:okD wy (.tuple ds)↔Zby wy ds:=⟨fun z=>z.2.2,fun z=>⟨by omega,by omega,z⟩⟩
   refine⟨_,rfl,.inl ⟨rfl,_,SqL.of hw4⟩,_,rfl,wa,b,_,_,rfl,rfl,hw4,hb4,by rw[sizeLine_eq];omega,_,?_,xs.dropLast++ys,l.dropLast++ds,ks,_,rfl,Zb,hTd.app hs,?_,?_,?_,?_,?_,?_,?_,?_,rfl⟩
   ·rw[Zdx];omega
   ·rw[Zdd,layd.1,e4];rfl
   ·rw[Zdj];omega
   ·rw[Zi nfw];exact hf4
   ·rw[hok,eok,Zch,e5]
   ·intro z
    rw[Zch]at z
    have:=hpm (eok.mpr ⟨z.1,e5.mpr z.2⟩)
    rw[lvd]at this
    rw[ZcY];exact this
   ·rw[Zar];omega
   ·rw[Zdx];omega
   ·intro c o h
    rw[Zi (Zg h hwH)];exact s4 c o h
  | false =>
   refine ZaG ?_
   refine⟨_,rfl,_, "int",_,_,rfl,hu4.ty,hu4.kI K,_,rfl,?_⟩
   cases hI:ZS u with
   | false =>
    have nok:¬ okD wy u:=fun z=>by
     cases u with
     | int _=>cases hI
     | tuple _=>cases hTu
     | none=>exact z
     | bool _=>exact z
     | str _=>exact z
     | list _=>exact z
     | dict _=>exact z
    cases hB:Zct u with
    | false=>exact Z9 (Z9 (no nok))
    | true =>
     refine ZaG ⟨_,rfl,_, "bool",_,_,rfl,hu4.ty,hu4.kB K,_,rfl,?_⟩
     rw[hB]
     exact Z9 (no nok)
   | true =>
    obtain⟨k,rfl,rfl⟩:=hu.int_inv hI
    refine ZaG ⟨_,rfl,_, "bool",_,_,rfl,.int k,ZgP K,_,rfl,ZaG ?_⟩
    have e1:ndD (.int k)=1:=rfl
    have e2:lfD (.int k)=1:=rfl
    refine⟨_,rfl,.inl ⟨rfl,_,SqL.of hf4⟩,_,rfl,f,_,_,rfl,rfl,hf4,(by rw[Qa];exact ZM (by omega)),_,?_,xs.dropLast,l.dropLast,ks++[k],_,rfl,?_,hTd,layd.1,dpd.1,?_,?_,?_,?_,?_,?_,rfl⟩
    ·omega
    ·rw[Zi nfw.symm];exact hw4
    ·rw[Zb,Qf];rfl
    ·rw[hok,eok];exact⟨fun z=>z.1,fun z=>⟨z,trivial⟩⟩
    ·intro z
     refine(hpm (eok.mpr ⟨z,trivial⟩)).trans ?_
     rw[lvd,Q7]
     exact List.Perm.append_left _ List.perm_append_comm
    ·rw[Qe,Qh];omega
    ·omega
    ·intro c o h
     rw[Zi (Zg h hf)];exact s4 c o h
structure Gd (D:Nat) (d:PyData):Prop where
 dp:d.depth≤D
 lay:d.canLay0=true
 sh:d.intsShort 22=true
 shw:d.showable=true
theorem Gd.mono{D D':Nat}{d:PyData}(h:Gd D d)(l:D≤D'):Gd D' d:=⟨QI h.dp l,h.lay,h.sh,h.shw⟩
theorem Zf0{D:Nat}:∀ {ds:List PyData},(∀d∈ds,Gd D d)→PyData.depthAll ds≤D∧PyData.canLayAll0 ds=true∧PyData.intsShortAll 22 ds=true∧PyData.showableAll ds=true
 | [],_=>⟨Qm _,rfl,rfl,rfl⟩
 | d::r,h=>by
  obtain⟨a,b,c,e⟩:=Zf0 (ds:=r) fun x hx=>h x (Ql _ hx)
  obtain⟨a',b',c',e'⟩:=h d (Qu ..)
  refine⟨?_,by simp[PyData.canLayAll0,b,b'],by simp[PyData.intsShortAll,c,c'],by simp[PyData.showableAll,e,e']⟩
  show max d.depth (PyData.depthAll r)≤D
  omega
theorem Zb0{D:Nat}{ds:List PyData}(h:∀d∈ds,Gd D d):Gd (D+1) (.list ds):=by
 obtain⟨a,b,c,e⟩:=Zf0 h
 refine⟨by simp[PyData.depth];exact a,by simpa [PyData.canLay0] using b,by simpa [PyData.intsShort] using c,by simpa [PyData.showable] using e⟩
theorem Za4{D:Nat}{ds:List PyData}(h:∀d∈ds,Gd D d):Gd (D+1) (.tuple ds):=by
 obtain⟨a,b,c,e⟩:=Zf0 h
 refine⟨by simp[PyData.depth];exact a,by simpa [PyData.canLay0] using b,by simpa [PyData.intsShort] using c,by simpa [PyData.showable] using e⟩
theorem Zm0{ds:List PyData}(a:PyData.canLayAll0 ds=true)(b:PyData.intsShortAll 22 ds=true)(c:PyData.showableAll ds=true):∀d∈ds,d.canLay0=true∧d.intsShort 22=true∧d.showable=true:=by
 induction ds with
 | nil=>intro d hd;cases hd
 | cons x r ih =>
  simp only[PyData.canLayAll0,PyData.intsShortAll,PyData.showableAll,Bool.and_eq_true]at a b c
  intro d hd
  rcases QK.mp hd with rfl|hd
  ·exact⟨a.1,b.1,c.1⟩
  ·exact ih a.2 b.2 c.2 d hd
theorem Gd.parts{D:Nat}{ds:List PyData}(h:Gd D (.tuple ds)):1≤D∧∀d∈ds,Gd (D-1) d:=by
 have hd:PyData.depthAll ds+1≤D:=by have:=h.dp;simpa [PyData.depth] using this
 refine⟨by omega,fun d hdm=>?_⟩
 obtain⟨a,b,c⟩:=Zm0 (by simpa [PyData.canLay0] using h.lay) (by simpa [PyData.intsShort] using h.sh) (by simpa [PyData.showable] using h.shw) d hdm
 obtain⟨i,hi,e⟩:=Qax hdm
 have:=Zet (l:=ds) (i:=i) (d:=d) (by rw[Qc hi,e])
 exact⟨by omega,a,b,c⟩
theorem ZbU:∀a b:List PyData,PyData.weightAll (a++b)=PyData.weightAll a+PyData.weightAll b
 | [],b=>by simp[PyData.weightAll]
 | d::r,b=>by
  show d.weight+1+PyData.weightAll (r++b)=d.weight+1+PyData.weightAll r+PyData.weightAll b
  rw[ZbU r b];omega
theorem ZjJ:∀a:List PyData,PyData.weightAll a.reverse=PyData.weightAll a
 | []=>rfl
 | d::r=>by
  rw[QV,ZbU,ZjJ r]
  show PyData.weightAll r+(d.weight+1+0)=d.weight+1+PyData.weightAll r
  omega
theorem Zki:∀a:List PyData,Zab a.reverse=Zab a
 | []=>rfl
 | d::r=>by
  rw[QV,Zar,Zki r]
  show Zab r+(lfD d+0)=lfD d+Zab r
  omega
theorem ZmT(a:List PyData)(k:Nat):PyData.weightAll (a.take k)+PyData.weightAll (a.drop k)=PyData.weightAll a:=by rw[← ZbU,QU]
theorem Zne(a:List PyData)(k:Nat):Zab (a.take k)+Zab (a.drop k)=Zab a:=by rw[← Zar,QU]
mutual
theorem Zmj:∀d:PyData,ndD d≤d.weight+1
 | .list l=>by have:=Zho l;show ZbV l+1≤PyData.weightAll l+1;omega
 | .tuple l=>by have:=Zho l;show ZbV l+1≤PyData.weightAll l+1;omega
 | .none=>Qan 1 _
 | .bool _=>Qan 1 _
 | .int _=>Qan 1 _
 | .str _=>Qan 1 _
 | .dict _=>Qan 1 _
theorem Zho:∀l:List PyData,ZbV l≤PyData.weightAll l
 | []=>Qd 0
 | d::r=>by
  have:=Zmj d
  have:=Zho r
  show ndD d+ZbV r≤d.weight+1+PyData.weightAll r
  omega
end
def ZbO:PyData→List Nat→Prop
 | _,[]=>True
 | .tuple l,i::ps=>∃d,l[i]? = some d∧ZbO d ps
 | _,_::_=>False
def Zbj:PyData→List Nat→PyData
 | d,[]=>d
 | .tuple l,i::ps=>Zbj (l.getD i .none) ps
 | d,_::_=>d
def ZbY:PyData→List Nat→PyData→PyData
 | _,[],e=>e
 | .tuple l,i::ps,e=>.tuple (l.take i++[ZbY (l.getD i .none) ps e]++l.drop (i+1))
 | d,_::_,_=>d
theorem Zc6{l:List PyData}{i:Nat}{d:PyData}(h:l[i]? = some d):l.getD i .none=d:=by rw[QL,h];rfl
theorem Zgb{l:List PyData}{i:Nat}{d:PyData}(h:l[i]? = some d):l=l.take i++[d]++l.drop (i+1):=by
 obtain⟨hi,e⟩:=Qi.mp h
 rw[Q7,← e]
 show l=l.take i++(l[i]::l.drop (i+1))
 rw[← List.drop_eq_getElem_cons hi,QU]
theorem ZgX:∀ (ps:List Nat) {d e:PyData} {D E:Nat},ZbO d ps→Gd D d→Gd E e→lfD (ZbY d ps e)+lfD (Zbj d ps)=lfD d+lfD e∧(ZbY d ps e).weight+(Zbj d ps).weight=d.weight+e.weight∧Gd (max D (ps.length+E)) (ZbY d ps e)∧ps.length≤D∧Gd (D-ps.length) (Zbj d ps)
 | [],d,e,D,E,_,hd,he=>⟨Nat.add_comm _ _,Nat.add_comm _ _,he.mono (by simp;omega),Qm _,hd⟩
 | i::ps,d,e,D,E,hp,hd,he=>by
  cases d with
  | tuple l =>
   obtain⟨u,hu,hp⟩:=(show ∃d,l[i]? = some d∧ZbO d ps from hp)
   obtain⟨d1,hg⟩:=hd.parts
   have hug:=hg u (QB hu)
   obtain⟨a,b,c,f,g⟩:=ZgX ps hp hug he
   have es:=Zgb hu
   have e1:Zab l=Zab (l.take i)+lfD u+Zab (l.drop (i+1)):=by
    have:=congrArg Zab es
    rw[Zar,Zar]at this
    rw[this];show _+(lfD u+0)+_=_;omega
   have e2:PyData.weightAll l=PyData.weightAll (l.take i)+(u.weight+1)+PyData.weightAll (l.drop (i+1)):=by
    have:=congrArg PyData.weightAll es
    rw[ZbU,ZbU]at this
    rw[this];show _+(u.weight+1+0)+_=_;omega
   have pd:Zbj (.tuple l) (i::ps)=Zbj u ps:=by show Zbj (l.getD i .none) ps=_;rw[Zc6 hu]
   have qd:ZbY (.tuple l) (i::ps) e=.tuple (l.take i++[ZbY u ps e]++l.drop (i+1)):=by show PyData.tuple (l.take i++[ZbY (l.getD i .none) ps e]++l.drop (i+1))=_;rw[Zc6 hu]
   rw[pd,qd]
   refine⟨?_,?_,?_,by rw[QD];omega,?_⟩
   ·show Zab (l.take i++[ZbY u ps e]++l.drop (i+1))+_=Zab l+_
    rw[Zar,Zar,e1]
    show _+(lfD (ZbY u ps e)+0)+_+_=_
    omega
   ·show PyData.weightAll (l.take i++[ZbY u ps e]++l.drop (i+1))+_=PyData.weightAll l+_
    rw[ZbU,ZbU,e2]
    show _+((ZbY u ps e).weight+1+0)+_+_=_
    omega
   ·have:=Za4 (D:=max (D-1) (ps.length+E)) (ds:=l.take i++[ZbY u ps e]++l.drop (i+1)) fun x hx=>by
     rcases Qr.mp hx with hx|hx
     ·rcases Qr.mp hx with hx|hx
      ·exact(hg x (QO hx)).mono (by omega)
      ·rw[Qg.mp hx];exact c
     ·exact(hg x (QW hx)).mono (by omega)
    exact this.mono (by rw[QD];omega)
   ·exact g.mono (by rw[QD];omega)
  | _=>exact(show False from hp).elim
theorem Ze2:∀ {ps:List Nat} {d:PyData} {l:List PyData} {i:Nat} {u:PyData},ZbO d ps→Zbj d ps=.tuple l→l[i]? = some u→ZbO d (ps++[i])∧Zbj d (ps++[i])=u
 | [],d,l,i,u,_,h,hu=>by
  have h:d=.tuple l:=h
  subst h
  exact⟨⟨u,hu,trivial⟩,by show Zbj (l.getD i .none) []=u;rw[Zc6 hu];rfl⟩
 | j::ps,d,l,i,u,hp,h,hu=>by
  cases d with
  | tuple m =>
   obtain⟨v,hv,hp⟩:=(show ∃d,m[j]? = some d∧ZbO d ps from hp)
   have h:Zbj (m.getD j .none) ps=.tuple l:=h
   rw[Zc6 hv]at h
   obtain⟨a,b⟩:=Ze2 hp h hu
   refine⟨⟨v,hv,a⟩,?_⟩
   show Zbj (m.getD j .none) (ps++[i])=u
   rw[Zc6 hv];exact b
  | _=>exact(show False from hp).elim
mutual
theorem TV.dh{H:Hp}:∀ {x:V} {t:PT},TV H x t→DH H x (toD t)
 | _,_,.leaf k=>.int k
 | _,_,.node h hs=>.tup h hs.dh
theorem TVs.dh{H:Hp}:∀ {xs:List V} {l:List PT},TVs H xs l→DHs H xs (Zad l)
 | _,_,.nil=>.nil
 | _,_,.cons h hs=>.cons h.dh hs.dh
end
mutual
theorem Zh2:∀t:PT,lfD (toD t)=tLf t
 | .leaf k=>rfl
 | .node l=>Zgc l
theorem Zgc:∀l:List PT,Zab (Zad l)=Zaq l
 | []=>rfl
 | t::r=>by show lfD (toD t)+Zab (Zad r)=tLf t+Zaq r;rw[Zh2 t,Zgc r]
end
mutual
theorem Zgz:∀d:PyData,d.intsShort 13=true→d.intsShort 22=true
 | .none,_=>rfl
 | .bool _,_=>rfl
 | .str _,_=>rfl
 | .dict _,_=>rfl
 | .int i,h=>by
  simp only[PyData.intsShort,decide_eq_true_eq]at h ⊢
  omega
 | .list l,h=>ZdW l h
 | .tuple l,h=>ZdW l h
theorem ZdW:∀l:List PyData,PyData.intsShortAll 13 l=true→PyData.intsShortAll 22 l=true
 | [],_=>rfl
 | d::r,h=>by
  simp only[PyData.intsShortAll,Bool.and_eq_true]at h ⊢
  exact⟨Zgz d h.1,ZdW r h.2⟩
end
theorem Zlv{n:Nat}{t:PT}(hn:n≤1000)(hok:tOk n t):Gd (tDp t) (toD t)∧(toD t).weight+1≤42*tNo t:=by
 obtain⟨a,b,c,d,e⟩:=ZgE hn t hok
 exact⟨⟨by rw[b];exact Qd _,a,Zgz _ d,e⟩,c⟩
structure Th (L W D:Nat) (d:PyData):Prop where
 lf:lfD d≤L
 wt:d.weight≤W
 gd:Gd D d
theorem Th.mono{L W D L' W' D':Nat}{d:PyData}(h:Th L W D d)(a:L≤L')(b:W≤W')(c:D≤D'):Th L' W' D' d:=⟨QI h.lf a,QI h.wt b,h.gd.mono c⟩
theorem Zco{i:Int}(h:i.natAbs<10 ^ 21):Th 1 72 0 (.int i):=by
 have hlog:i.natAbs.log2<70:=by
  by_cases e:i.natAbs=0
  ·rw[e];decide
  ·exact(Nat.log2_lt e).mpr (Qy h (by decide))
 refine⟨Qd 1,?_,by simp[PyData.depth],by simp[PyData.canLay0],?_,?_⟩
 ·simp only[PyData.weight]
  split<;>omega
 ·simp only[PyData.intsShort]
  have e:=int_text_length_le10 (k:=21) (by decide) h
  exact decide_eq_true (by show (Str.ofString (toString i)).length≤22;rw[PySem.ofString_length];exact e)
 ·simp only[PyData.showable]
  exact decide_eq_true (by omega)
def toN(c:List Nat):List Int:=c.map fun x:Nat=>(x:Int)
def ZkO(n:Nat):Sp:=fun vs H Q _=>∃ (p:Addr) (lp:List V) (x y:V) (pl:Addr) (ps:List Nat) (d e:PyData),vs=[x,.ref pl,y]∧H p=some (.lst lp)∧DH (off p H) x d∧H pl=some (.lst ((toN ps).map V.int))∧DH (off p H) y e∧ZbO d ps∧ps.length<n∧ps.length≤100∧(ZbY d ps e).weight≤100000∧d.weight≤100000 ∧
 ∀ (z:V) (H':Hp),DH (off p H') z (ZbY d ps e)→Zn H H'→Q z H'
theorem ZdL:∀l:List PyData,l.length≤PyData.weightAll l
 | []=>Qd 0
 | d::r=>by have:=ZdL r;show r.length+1≤d.weight+1+PyData.weightAll r;omega
theorem Zkk:∀ {l:List PyData} {i:Nat} {d:PyData},l[i]? = some d→d.weight+1≤PyData.weightAll l
 | [],i,d,h=>by simp at h
 | a::r,0,d,h=>by
  have:a=d:=by simpa using h
  subst this
  show a.weight+1≤a.weight+1+PyData.weightAll r
  omega
 | a::r,i+1,d,h=>by
  have:=Zkk (l:=r) (i:=i) (by simpa using h)
  show d.weight+1≤a.weight+1+PyData.weightAll r
  omega
theorem DHs.getR{H:Hp}:∀ {xs:List V} {ds:List PyData},DHs H xs ds→∀ {i:Nat} {d:PyData},ds[i]? = some d→∃x,xs[i]? = some x∧DH H x d
 | _,_,.nil,i,d,h=>by simp at h
 | _,_,.cons hd _,0,d,h=>by
  simp only[List.getElem?_cons_zero,Option.some.injEq]at h
  subst h
  exact⟨_,rfl,hd⟩
 | _,_,.cons _ hs,i+1,d,h=>by
  obtain⟨x,e,hd⟩:=DHs.getR hs (i:=i) (by simpa using h)
  exact⟨x,by simpa using e,hd⟩
theorem Zh5(T:Zat K mg):∀n:Nat,Df P w K mg base (n+1) "_law_put" ["_law_tree", "_law_path", "_law_new"] (ZkO n)
 | 0=>by
  refine T.t_l_put.df ZeE (fun vs H Q E h=>?_) (fun cdv f A outer s H vs Q E hr h=>?_)
  ·obtain⟨p,lp,x,y,pl,ps,d,e,rfl,_⟩:=h
   rfl
  obtain⟨p,lp,x,y,pl,ps,d,e,rfl,_,_,_,_,_,hn,_⟩:=h
  exact absurd hn (by omega)
 | n+1=>by
  have f_l_put:=Zh5 T n
  refine T.t_l_put.df ZeE (fun vs H Q E h=>?_) (fun cdv f A outer s H vs Q E hr h=>?_)
  ·obtain⟨p,lp,x,y,pl,ps,d,e,rfl,_⟩:=h
   rfl
  obtain⟨p,lp,x,y,pl,ps,d,e,rfl,hlp,hd,hp,he,hok,hn,h100,hw,hwd,q⟩:=h
  refine⟨_,#[Zf,#[Z0,#[Zy,(@eqD _ K _ hr (by rfl)),‹1›,#[ZH,#[Zd]],(ZD _)],#[Zj,#[Zo,‹2›]],#[ZK]],#[Zf,#[Zq,3,ZeE.nd,(Or.inl rfl),#[ZJ,(ixL K),‹1›,#[Ze]]],#[Zj,#[Zo,#[Zm,(@ZkM _ K (by rfl)),#[Zm,(@ZkM _ K (by rfl)),#[ZF,(slT K),‹0›,#[ZL],#[Zz,‹3›]],#[Zx,#[Za,#[Zu,f_l_put,hr,#[Za,#[ZJ,(ixT K),‹0›,‹3›],#[Za,#[ZF,(slL K),‹1›,#[Zz,#[Ze]],#[ZL]],#[Za,‹2›,#[Zd]]]],(by rfl)],#[Zd]]]],#[ZF,(slT K),‹0›,#[Zz,#[Zm,ZG,‹3›,#[Ze]]],#[ZL]]]]]]],?_⟩
  refine⟨_,rfl,(by show 0≤sizeLine;decide),fun e0 he0=>?_⟩
  have s1:=Zc he0 (.lst [])
  refine⟨.list ((toN ps).map PyData.int),.list [],.lst (SqL.of (s1 _ _ hp)) (Zdv _),.lst (SqL.of Zb) .nil,ZcL _,(by ac_rfl),_,rfl,?_⟩
  rw[ZlD]
  have hp1:=s1 _ _ hp
  generalize upd H e0 (.lst [])=H1 at s1 hp1 ⊢
  cases ps with
  | nil=>exact Z9 ⟨_,rfl,q y H1 (he.mono (Zp s1)) s1⟩
  | cons i ps =>
   refine ZaG ?_
   cases d with
   | tuple l =>
    obtain⟨u,hu,hok⟩:=(show ∃d,l[i]? = some d∧ZbO d ps from hok)
    obtain⟨b,xs,ds,rfl,edl,hb,hs⟩:=hd.tup_inv rfl
    cases edl
    obtain⟨xu,hxu,hxd⟩:=DHs.getR hs hu
    have hil:=(Qi.mp hu).1
    have hxl:=hs.length
    have hxi:i<xs.length:=by omega
    have hll:l.length≤100000:=QI (ZdL l) hwd
    have qd:ZbY (.tuple l) (i::ps) e=.tuple (l.take i++[ZbY u ps e]++l.drop (i+1)):=by show PyData.tuple (l.take i++[ZbY (l.getD i .none) ps e]++l.drop (i+1))=_;rw[Zc6 hu]
    rw[qd]at q hw
    have hb1:=s1 _ _ (Zb4 _ _ hb)
    refine⟨_,rfl,pl,_,0,_,rfl,rfl,SqL.of hp1,Zbl (show ((toN (i::ps)).map V.int)[0]? = some (V.int (i:Int)) from rfl),?_⟩
    refine⟨_,rfl,_,rfl,_,rfl,b,xs,rfl,SqT.of hb1,Zcs hxi,fun p1 hp1'=>?_⟩
    have s2:=Zc hp1' (.tup (ZY xs none (some (i:Int))))
    have f2:(upd H1 p1 (.tup (ZY xs none (some (i:Int))))) p1=some (.tup (ZY xs none (some (i:Int)))):=Zb
    generalize upd H1 p1 (.tup (ZY xs none (some (i:Int))))=H2 at s2 f2 ⊢
    rw[ZbI]at f2
    have s02:=s1.trans s2
    refine⟨_,rfl,_,rfl,b,xs,_,_,rfl,rfl,SqT.of (s2 _ _ hb1),Zbl hxu,_,rfl,_,rfl,pl,_,rfl,SqL.of (s2 _ _ hp1),fun p2 hp2=>?_⟩
    have s3:=Zc hp2 (.lst (ZY ((toN (i::ps)).map V.int) (some 1) none))
    have f3:(upd H2 p2 (.lst (ZY ((toN (i::ps)).map V.int) (some 1) none))) p2=some (.lst (ZY ((toN (i::ps)).map V.int) (some 1) none)):=Zb
    generalize upd H2 p2 (.lst (ZY ((toN (i::ps)).map V.int) (some 1) none))=H3 at s3 f3 ⊢
    rw[Zc5]at f3
    have f3:H3 p2=some (.lst ((toN ps).map V.int)):=f3
    have s03:=s02.trans s3
    have wu:=Zkk hu
    have hwu:u.weight≤100000:=by
     have:(PyData.tuple l).weight=PyData.weightAll l:=rfl
     omega
    have hwp:(ZbY u ps e).weight≤100000:=by
     have:(PyData.tuple (l.take i++[ZbY u ps e]++l.drop (i+1))).weight=PyData.weightAll (l.take i++[ZbY u ps e]++l.drop (i+1)):=rfl
     rw[this,ZbU,ZbU]at hw
     have:PyData.weightAll [ZbY u ps e]=(ZbY u ps e).weight+1:=rfl
     omega
    refine⟨_,rfl,p,lp,xu,y,p2,ps,u,e,rfl,s03 _ _ hlp,hxd.mono (Zp s03),f3,he.mono (Zp s03),hok,by rw[QD]at hn;omega,by rw[QD]at h100;omega,hwp,hwu,fun z H4 hz s4=>?_⟩
    refine⟨(by show 1≤sizeLine;decide),fun p3 hp3=>?_⟩
    have s5:=Zc hp3 (.tup [z])
    have f5:(upd H4 p3 (.tup [z])) p3=some (.tup [z]):=Zb
    generalize upd H4 p3 (.tup [z])=H5 at s5 f5 ⊢
    have s25:=(s3.trans s4).trans s5
    refine Zdm (s25 _ _ f2) f5 (by rw[Qk,Qh,sizeLine_eq];omega) fun r6 H6 s6 h6=>?_
    have s26:Zn H2 H6:=fun c o hc=>s6 _ _ (s25 c o hc)
    refine⟨_,rfl,_,rfl,_,_,rfl,rfl,_,rfl,b,xs,rfl,SqT.of ((s2.trans s26) _ _ hb1),ZfW hxi,fun p7 hp7=>?_⟩
    have s7:=Zc hp7 (.tup (ZY xs (some ((i:Int)+1)) none))
    have f7:(upd H6 p7 (.tup (ZY xs (some ((i:Int)+1)) none))) p7=some (.tup (ZY xs (some ((i:Int)+1)) none)):=Zb
    generalize upd H6 p7 (.tup (ZY xs (some ((i:Int)+1)) none))=H7 at s7 f7 ⊢
    rw[show (i:Int)+1=((i+1:Nat):Int) by omega,Zck]at f7
    refine Zdm (s7 _ _ h6) f7 (by rw[Qe,Qk,QA,Qh,sizeLine_eq];omega) fun r8 H8 s8 h8=>?_
    have s68:Zn H6 H8:=fun c o hc=>s8 _ _ (s7 c o hc)
    have s28:=s26.trans s68
    have s08:=s02.trans s28
    have nrp:r8≠p:=fun z=>by rw[z,s08 _ _ hlp]at h8;cases h8
    refine q (.ref r8) H8 (.tup (Zal h8 nrp) (((hs.mono (Zp s08)).take i).app (.cons ?_ .nil) |>.app ((hs.mono (Zp s08)).drop (i+1)))) s08
    exact hz.mono (Zp (fun c o hc=>s68 _ _ (s6 _ _ (s5 c o hc))))
   | none=>exact(show False from hok).elim
   | bool _=>exact(show False from hok).elim
   | int _=>exact(show False from hok).elim
   | str _=>exact(show False from hok).elim
   | list _=>exact(show False from hok).elim
   | dict _=>exact(show False from hok).elim
theorem Zj7(l:List PyData):(if true=true then !PyData.eqv (.tuple l) (.tuple []) else PyData.eqv (.tuple l) (.tuple [])) = !l.isEmpty:=by
 cases l with
 | nil=>ac_rfl
 | cons t r=>simp[PyData.eqv,PyData.eqvAll]
theorem Zee{xs:List V}{k:Int}(h0:0≤k)(h:k<(xs.length:Int)):∃v∈xs,atI xs k=some v:=by
 have hk:k.toNat<xs.length:=by omega
 have ek:k=((k.toNat:Nat):Int):=by omega
 have q:atI xs ((k.toNat:Nat):Int)=some xs[k.toNat]:=Zbl (Qc hk)
 rw[← ek]at q
 exact⟨_,Q5 hk,q⟩
theorem ZfX{d:PyData}{ps:List Nat}{L W D:Nat}(h:Th L W D d)(hp:ZbO d ps):ps.length≤D∧Gd (D-ps.length) (Zbj d ps)∧lfD (Zbj d ps)≤L∧(Zbj d ps).weight≤W:=by
 obtain⟨a,b,_,f,g⟩:=ZgX (e:=.list []) (E:=1) ps hp h.gd (Zb0 (D:=0) fun d hd=>by cases hd)
 have h1:=h.lf
 have h2:=h.wt
 have e1:lfD (.list [])=0:=rfl
 have e2:(PyData.list []).weight=0:=rfl
 exact⟨f,g,by omega,by omega⟩
theorem DHs.rev{H:Hp}:∀ {xs:List V} {ds:List PyData},DHs H xs ds→DHs H xs.reverse ds.reverse
 | _,_,.nil=>.nil
 | _,_,.cons a b=>by rw[QV,QV];exact(DHs.rev b).app (.cons a .nil)
structure Eb (u e:PyData) (D:Nat):Prop where
 lf:lfD e≤2*lfD u+2
 wt:e.weight≤2*u.weight+400
 gd:Gd (D+2) e
def Zf9:Sp:=fun vs H Q _=>∃ (p:Addr) (c:Int) (x:V) (m L W D:Nat) (d:PyData),vs=[.ref p,x,.int m]∧ZZ H p c∧c<2 ^ 40∧DH (off p H) x d∧m≤20∧Th L W D d∧W≤20000∧D≤30 ∧
 ∀ (z:V) (d':PyData) (c':Int) (H':Hp),DH (off p H') z d'→Th (2*L+2) (2*W+400) (D+2) d'→ZZ H' p c'→c≤c'→c'≤c+100→But p H H'→Q z H'
theorem Zja(T:Zat K mg)(f_l_pick:Df P w K mg base 2 "_law_pick" ["_law_left_here", "_law_many_here"] Zcx)(f_l_put:Df P w K mg base 61 "_law_put" ["_law_tree", "_law_path", "_law_new"] (ZkO 60)):Df P w K mg base 62 "_law_spoilt" ["_law_left_here", "_law_tree", "_law_many_here"] Zf9:=by
 refine T.t_l_spoilt.df Zas (fun vs H Q E h=>?_) (fun cdv f A outer s H vs Q E hr h=>?_)
 ·obtain⟨p,c,x,m,L,W,D,d,rfl,_⟩:=h
  rfl
 obtain⟨p,c,x,m,L,W,D,d,rfl,hL,c40,hd,hm,hth,hW,hD,q⟩:=h
 refine⟨_,#[Zf,#[Zq,3,Zas.nd,(Or.inl rfl),#[ZH,#[Zd]]],#[Zf,#[Zq,4,Zas.nd,(Or.inl rfl),‹1›],(@Zci _ _ _ _ _ (@ZcJ _ _ _ _ _ _ PassesOwn.never (@PW.pt _ _ _ (@ZeK _ _ _ _ _ _ _ #[Zak,#[Zk,(Zcy K),(by rfl),T.b.n_isinstance,boot_isinstance,#[Za,‹4›,#[Za,#[Zbg,T.b.n_tuple,boot_tuple,(by rfl)],#[Zd]]]]] (@ZeK _ _ _ _ _ _ _ #[Zy,#[neD,K,hr],‹4›,#[Zx,#[Zd]],(ZD _)] (@ZfZ _ _ _ _ #[Zy,ZcI,#[Zu,f_l_pick,hr,#[Za,‹0›,#[Za,#[Ze],#[Zd]]],(by rfl)],#[Ze],(ZD _)])))) #[Zf,#[Zbk,#[ZcX,QC,QP,QR,ZaS,‹3›,#[Za,#[Zu,f_l_pick,hr,#[Za,‹0›,#[Za,#[Zk,(ZaY K),(by rfl),T.b.n_len,Qw,#[Za,‹4›,#[Zd]]],#[Zd]]],(by rfl)],#[Zd]]]],#[Zj,#[Zq,4,Zas.nd,(Or.inl rfl),#[ZJ,(ixT K),‹4›,#[ZJ,(ixL K),‹3›,#[ZeB,Zdh,#[Ze]]]]]]]) #[Zf,#[Zq,5,Zas.nd,(Or.inl rfl),#[ZH,#[Za,(@Zf1 _ _ _),#[Za,#[Zag],#[Za,#[Zag],#[Za,#[ZeB,Zdh,#[Ze]],#[Za,‹2›,#[Za,#[Ze],#[Za,#[Zm,Za2,‹2›,#[Ze]],#[Za,(@ZjU _ _ _ _),#[Za,#[ZH,#[Zd]],#[Za,#[Zx,#[Zd]],#[Za,#[Zx,#[Za,‹4›,#[Zd]]],#[Za,#[ZH,#[Za,‹4›,#[Zd]]],#[Za,#[Zx,#[Za,‹4›,#[Za,‹4›,#[Zd]]]],#[Za,#[Zx,#[Za,#[Ze],#[Za,#[Ze],#[Zd]]]],#[Za,#[Zm,ZeI,#[Ze],#[Ze]],#[Zd]]]]]]]]]]]]]]]]]],(@Zci _ _ _ _ _ #[Zq,6,Zas.nd,(Or.inl rfl),#[ZJ,(ixL K),‹5›,#[Zu,f_l_pick,hr,#[Za,‹0›,#[Za,#[Ze],#[Zd]]],(by rfl)]]] (@Zci _ _ _ _ _ #[Z0,(@PW.pt _ _ _ (@ZeK _ _ _ _ _ _ _ #[Zak,#[Zk,(Zcy K),(by rfl),T.b.n_isinstance,boot_isinstance,#[Za,‹4›,#[Za,#[Zbg,T.b.n_tuple,boot_tuple,(by rfl)],#[Zd]]]]] (@ZeK _ _ _ _ _ _ _ #[Zy,ZcI,#[Zk,(ZaY K),(by rfl),T.b.n_len,Qw,#[Za,‹4›,#[Zd]]],#[Ze],(ZD _)] (@ZfZ _ _ _ _ #[Zy,ZcI,#[Zu,f_l_pick,hr,#[Za,‹0›,#[Za,#[Ze],#[Zd]]],(by rfl)],#[Ze],(ZD _)])))),#[Zf,#[Zq,7,Zas.nd,(Or.inl rfl),#[ZH,#[Za,#[ZR,(ZkA K),(by rfl),T.b.n_list,boot_list,#[Za,‹4›,#[Zd]]],#[Za,#[ZF,(slT K),‹4›,#[Zz,#[Ze]],#[ZL]],#[Za,#[Zm,(@ZkM _ K (by rfl)),‹4›,#[Zx,#[Za,‹2›,#[Zd]]]],#[Za,(@ZdT _ _ _ _ _ _ _ _ _ _ _ _ (Zn4 K) ‹4› #[ZL] #[ZL] #[Zz,#[ZeB,Zdh,#[Ze]]]),#[Za,#[ZF,(slT K),‹4›,#[ZL],#[Zz,#[Ze]]],#[Za,#[Zx,#[Za,#[ZJ,(ixT K),‹4›,#[Ze]],#[Za,#[ZF,(slT K),‹4›,#[Zz,#[Ze]],#[ZL]],#[Zd]]]],#[Za,#[Zm,(@ZkM _ K (by rfl)),‹4›,#[ZF,(slT K),‹4›,#[ZL],#[Zz,#[Ze]]]],#[Zd]]]]]]]]]],#[Zj,#[Zq,6,Zas.nd,(Or.inl rfl),#[ZJ,(ixL K),‹7›,#[Zu,f_l_pick,hr,#[Za,‹0›,#[Za,#[Ze],#[Zd]]],(by rfl)]]]]],#[ZK]] #[Zj,#[Zo,#[Zu,f_l_put,hr,#[Za,‹1›,#[Za,‹3›,#[Za,‹6›,#[Zd]]]],(by rfl)]]]))])]],?_⟩
 have c0:=hL.ge
 refine⟨(by show 0≤sizeLine;decide),fun pl hpl=>?_⟩
 have npp:p≠pl:=by obtain⟨o,ho⟩:=hL.here;exact Zg ho hpl
 refine⟨_,rfl,?_⟩
 refine⟨fun σ H2=>∃ (ps:List Nat) (y:V) (c2:Int) (v5 v6 v7:Option V),σ=[some (.ref p),some x,some (.int m),some (.ref pl),some y,v5,v6,v7]∧H2 pl=some (.lst ((toN ps).map V.int))∧DH (off p H) y (Zbj d ps)∧ZbO d ps∧ZZ H2 p c2∧c≤c2∧c2≤c+2*D+2∧(∀b o,H b=some o→b≠p→H2 b=some o),?_,?_⟩
 ·refine⟨fun k σ H2=>∃ (ps:List Nat) (y:V) (c2:Int) (v5 v6 v7:Option V),σ=[some (.ref p),some x,some (.int m),some (.ref pl),some y,v5,v6,v7]∧H2 pl=some (.lst ((toN ps).map V.int))∧DH (off p H) y (Zbj d ps)∧ZbO d ps∧ZZ H2 p c2∧c≤c2∧c2≤c+2*ps.length∧(∀b o,H b=some o→b≠p→H2 b=some o)∧k=D-ps.length,⟨_,[],x,c,none,none,none,rfl,Zb,hd,trivial,hL.new hpl,by omega,by simp,fun b o hb nb=>by rw[Zi (Zg hb hpl)];exact hb,rfl⟩,?_⟩
  rintro k σ H2 ⟨ps,y,c2,v5,v6,v7,rfl,hpl2,hy,hok,L2,b1,b2,k2,rfl⟩
  obtain⟨g1,g2,g3,g4⟩:=ZfX hth hok
  have sm:Zn (off p H) H2:=fun b o hb=>by
   have nb:b≠p:=fun z=>by rw[z]at hb;unfold off at hb;rw[if_pos rfl]at hb;cases hb
   exact k2 b o (Zb4 _ _ hb) nb
  have hy2:=hy.mono sm
  refine⟨_,rfl,_, "tuple",_,_,rfl,hy2.ty,hy2.kT K,_,rfl,?_⟩
  cases hTu:Zcn (Zbj d ps) with
  | false=>exact ZaG ⟨ps,y,c2,_,_,_,rfl,hpl2,hy,hok,L2,b1,by omega,k2⟩
  | true =>
   obtain⟨b,xs,ds,rfl,epd,hb,hs⟩:=hy.tup_inv hTu
   have hb2:=sm _ _ hb
   rw[epd]at g2
   refine Z9 ⟨_,rfl,(by show 0≤sizeLine;decide),fun e0 he0=>?_⟩
   have s3:=Zc he0 (.tup [])
   have g2l:=g2.lay
   have g2d:=g2.dp
   refine⟨.tuple ds,.tuple [],.tup (SqT.of (s3 _ _ hb2)) ((hs.mono sm).mono s3).dv,.tup (SqT.of Zb) .nil,by simp[SeqAt.shaped,g2l];omega,(by ac_rfl),_,rfl,?_⟩
   rw[Zj7]
   have L3:=L2.same s3
   have hpl3:=s3 _ _ hpl2
   have k3:∀b o,H b=some o→b≠p→(upd H2 e0 (.tup [])) b=some o:=fun b o hb nb=>s3 _ _ (k2 b o hb nb)
   have hb3:=s3 _ _ hb2
   generalize upd H2 e0 (.tup [])=H3 at L3 hpl3 k3 hb3 ⊢
   cases hE:ds.isEmpty with
   | true=>exact ZaG ⟨ps,_,c2,_,_,_,rfl,hpl3,hy,hok,L3,b1,by omega,k3⟩
   | false =>
    have dne:ds≠[]:=fun z=>by rw[z]at hE;cases hE
    have dlen:=Qai.mpr dne
    have hxl:=hs.length
    have hgp:=g2.parts
    have dl:ds.length≤20000:=by
     have h9:=ZdL ds
     rw[epd]at g4
     have:(PyData.tuple ds).weight=PyData.weightAll ds:=rfl
     omega
    refine Z9 ⟨_,rfl,p,c2,4,rfl,L3,by omega,by decide,by decide,fun r H4 r0 r1 L4 B4=>⟨_,_,rfl,rfl,_,rfl,ZcD (fun hgt=>?_) (fun hle=>⟨ps,_,c2+1,_,_,_,rfl,B4 _ _ hpl3 npp.symm,hy,hok,L4,by omega,by omega,fun b o hb nb=>B4 _ _ (k3 b o hb nb) nb⟩)⟩⟩
    have hpl4:=B4 _ _ hpl3 npp.symm
    have nbp:b≠p:=fun z=>by rw[z]at hb;unfold off at hb;rw[if_pos rfl]at hb;cases hb
    have hb4:=B4 _ _ hb3 nbp
    refine⟨_,fun σ' H' h=>h,?_⟩
    refine⟨_,rfl,.inl ⟨rfl,_,SqL.of hpl4⟩,_,rfl,_,rfl,b,_,rfl,.inr (SqT.of hb4),p,c2+1,_,rfl,L4,by omega,by omega,by omega,fun k H5 k0 k1 L5 B5=>?_⟩
    have hpl5:=B5 _ _ hpl4 npp.symm
    obtain⟨i,rfl⟩:∃i:Nat,k=(i:Int):=⟨k.toNat,by omega⟩
    have hil:i<ds.length:=by omega
    have hdi:ds[i]? = some ds[i]:=Qc hil
    obtain⟨xi,hxi,hxd⟩:=DHs.getR hs hdi
    obtain⟨ok2,pd2⟩:=Ze2 hok epd hdi
    refine⟨pl,_,_,rfl,rfl,hpl5,by rw[Qa];unfold toN;rw[Qa,sizeLine_eq];omega,?_⟩
    have hpl6:(upd H5 pl (.lst ((toN ps).map V.int++[.int (i:Int)]))) pl=some (.lst ((toN (ps++[i])).map V.int)):=by rw[Zb];unfold toN;rw[Qf,Qf];rfl
    have L6:=L5.at (o:=.lst ((toN ps).map V.int++[.int (i:Int)])) npp
    have k6:∀b o,H b=some o→b≠p→(upd H5 pl (.lst ((toN ps).map V.int++[.int (i:Int)]))) b=some o:=fun b o hb nb=>by rw[Zi (Zg hb hpl)];exact B5 _ _ (B4 _ _ (k3 b o hb nb) nb) nb
    have hb6:(upd H5 pl (.lst ((toN ps).map V.int++[.int (i:Int)]))) b=some (.tup xs):=k6 _ _ (Zb4 _ _ hb) nbp
    generalize upd H5 pl (.lst ((toN ps).map V.int++[.int (i:Int)]))=H6 at hpl6 L6 k6 hb6 ⊢
    have hlast:atI ((toN (ps++[i])).map V.int) (-1)=some (.int (i:Int)):=Zl2 (by
     unfold toN;rw[Qf,Qf];simp) (by unfold toN;simp)
    refine⟨_,rfl,_,rfl,_,rfl,pl,_,_,_,rfl,rfl,SqL.of hpl6,hlast,b,xs,_,_,rfl,rfl,SqT.of hb6,Zbl hxi,_,?_,ps++[i],xi,c2+1+1,_,_,_,rfl,hpl6,by rw[pd2];exact hxd,ok2,L6,by omega,?_,k6,rfl⟩
    ·obtain⟨g1',_⟩:=ZfX hth ok2
     rw[Qe,Qh]at g1' ⊢
     omega
    ·rw[Qe,Qh];omega
 ·rintro σ H2 ⟨ps,y,c2,v5,v6,v7,rfl,hpl2,hy,hok,L2,b1,b2,k2⟩
  obtain⟨g1,g2,g3,g4⟩:=ZfX hth hok
  generalize hu:Zbj d ps=u at hy g2 g3 g4
  have sm:Zn (off p H) (off p H2):=Zan k2
  obtain⟨op,hop⟩:∃o,H2 p=some o:=L2.here
  have nw:∀ {H':Hp} {a:Addr},Zn H2 H'→H' a=none→a≠p:=fun s h z=>by rw[z]at h;rw[s _ _ hop]at h;cases h
  refine⟨_,rfl,_,rfl,_,rfl,_,_,rfl,rfl,(by show 0≤sizeLine;decide),fun a1 h1=>⟨(by show 0≤sizeLine;decide),fun a2 h2=>?_⟩⟩
  have s1:=Zc h1 (.lst [])
  have f1:(upd H2 a1 (.lst [])) a1=some (.lst []):=Zb
  generalize upd H2 a1 (.lst [])=G1 at s1 f1 h2 ⊢
  have s2:=Zc h2 (.tup [])
  have f2:(upd G1 a2 (.tup [])) a2=some (.tup []):=Zb
  generalize upd G1 a2 (.tup [])=G2 at s2 f2 ⊢
  refine⟨_,rfl,(by show 1≤sizeLine;decide),fun a3 h3=>?_⟩
  have s3:=Zc h3 (.tup [y])
  have f3:(upd G2 a3 (.tup [y])) a3=some (.tup [y]):=Zb
  generalize upd G2 a3 (.tup [y])=G3 at s3 f3 ⊢
  refine⟨_,rfl,(by show 1≤sizeLine;decide),fun a4 h4=>?_⟩
  have s4:=Zc h4 (.lst [y])
  have f4:(upd G3 a4 (.lst [y])) a4=some (.lst [y]):=Zb
  generalize upd G3 a4 (.lst [y])=G4 at s4 f4 ⊢
  refine⟨_,rfl,_,rfl,(by show 2≤sizeLine;decide),fun a5 h5=>?_⟩
  have s5:=Zc h5 (.tup [y,y])
  have f5:(upd G4 a5 (.tup [y,y])) a5=some (.tup [y,y]):=Zb
  generalize upd G4 a5 (.tup [y,y])=G5 at s5 f5 ⊢
  refine⟨(by show 2≤sizeLine;decide),fun a6 h6=>?_⟩
  have s6:=Zc h6 (.tup [.int 0,.int 1])
  have f6:(upd G5 a6 (.tup [.int 0,.int 1])) a6=some (.tup [.int 0,.int 1]):=Zb
  generalize upd G5 a6 (.tup [.int 0,.int 1])=G6 at s6 f6 ⊢
  refine⟨_,_,rfl,rfl,⟨by decide,by decide,by decide⟩,(by show 15≤sizeLine;decide),fun od hod=>?_⟩
  have s7:=Zc hod (.lst [.non,.bl true,.bl false,.int (-1),.int (m:Int),.int 0,.int ((m:Int)-1),.str "0",.ref a1,.ref a2,.ref a3,.ref a4,.ref a5,.ref a6,.int (10 ^ Int.toNat 20)])
  have f7:(upd G6 od (.lst [.non,.bl true,.bl false,.int (-1),.int (m:Int),.int 0,.int ((m:Int)-1),.str "0",.ref a1,.ref a2,.ref a3,.ref a4,.ref a5,.ref a6,.int (10 ^ Int.toNat 20)])) od=some (.lst [.non,.bl true,.bl false,.int (-1),.int (m:Int),.int 0,.int ((m:Int)-1),.str "0",.ref a1,.ref a2,.ref a3,.ref a4,.ref a5,.ref a6,.int (10 ^ Int.toNat 20)]):=Zb
  generalize upd G6 od (.lst [.non,.bl true,.bl false,.int (-1),.int (m:Int),.int 0,.int ((m:Int)-1),.str "0",.ref a1,.ref a2,.ref a3,.ref a4,.ref a5,.ref a6,.int (10 ^ Int.toNat 20)])=G7 at s7 f7 ⊢
  have s67:=s7
  have s57:=s6.trans s67
  have s47:=s5.trans s57
  have s37:=s4.trans s47
  have s27:=s3.trans s37
  have s17:=s2.trans s27
  have s07:=s1.trans s17
  have k7:∀b o,H b=some o→b≠p→G7 b=some o:=fun b o hb nb=>s07 _ _ (k2 b o hb nb)
  have sm7:Zn (off p H) (off p G7):=Zan k7
  have hy7:=hy.mono sm7
  have oddB:∀v∈([.non,.bl true,.bl false,.int (-1),.int (m:Int),.int 0,.int ((m:Int)-1),.str "0",.ref a1,.ref a2,.ref a3,.ref a4,.ref a5,.ref a6,.int (10 ^ Int.toNat 20)]:List V),∃e,DH (off p G7) v e∧Eb u e (D-ps.length):=fun v hv=>by
   have tI:∀i:Int,i.natAbs<10 ^ 21→Eb u (.int i) (D-ps.length):=fun i hi=>by
    obtain⟨t1,t2,t3⟩:=Zco hi
    exact⟨by omega,by omega,t3.mono (by omega)⟩
   have n1:=nw (Zn.refl _) h1
   have n2:=nw s1 h2
   have n3:=nw (s1.trans s2) h3
   have n4:=nw ((s1.trans s2).trans s3) h4
   have n5:=nw (((s1.trans s2).trans s3).trans s4) h5
   have n6:=nw ((((s1.trans s2).trans s3).trans s4).trans s5) h6
   simp only[List.mem_cons,List.not_mem_nil,or_false]at hv
   rcases hv with rfl|rfl|rfl|rfl|rfl|rfl|rfl|rfl|rfl|rfl|rfl|rfl|rfl|rfl|rfl
   ·exact⟨.none,.non,by show 1≤_;omega,by show 0≤_;omega,Qm _,rfl,rfl,rfl⟩
   ·exact⟨_,.bl true,by show 1≤_;omega,by show 0≤_;omega,Qm _,rfl,rfl,rfl⟩
   ·exact⟨_,.bl false,by show 1≤_;omega,by show 0≤_;omega,Qm _,rfl,rfl,rfl⟩
   ·exact⟨_,.int _,tI _ (by decide)⟩
   ·exact⟨_,.int _,tI _ (by omega)⟩
   ·exact⟨_,.int _,tI _ (by decide)⟩
   ·exact⟨_,.int _,tI _ (by omega)⟩
   ·exact⟨_,.str _,by show 1≤_;omega,by show 1≤_;omega,Qm _,by ac_rfl,rfl,rfl⟩
   ·exact⟨.list [],.lst (Zal (s17 _ _ f1) n1) .nil,by show 0≤_;omega,by show 0≤_;omega,(Zb0 (D:=0) fun d hd=>by cases hd).mono (by omega)⟩
   ·exact⟨.tuple [],.tup (Zal (s27 _ _ f2) n2) .nil,by show 0≤_;omega,by show 0≤_;omega,(Za4 (D:=0) fun d hd=>by cases hd).mono (by omega)⟩
   ·exact⟨.tuple [u],.tup (Zal (s37 _ _ f3) n3) (.cons hy7 .nil),by show lfD u+0≤_;omega,by show u.weight+1+0≤_;omega,(Za4 (D:=D-ps.length) fun d hd=>by rw[Qg.mp hd];exact g2).mono (by omega)⟩
   ·exact⟨.list [u],.lst (Zal (s47 _ _ f4) n4) (.cons hy7 .nil),by show lfD u+0≤_;omega,by show u.weight+1+0≤_;omega,(Zb0 (D:=D-ps.length) fun d hd=>by rw[Qg.mp hd];exact g2).mono (by omega)⟩
   ·exact⟨.tuple [u,u],.tup (Zal (s57 _ _ f5) n5) (.cons hy7 (.cons hy7 .nil)),by show lfD u+(lfD u+0)≤_;omega,by show u.weight+1+(u.weight+1+0)≤_;omega,(Za4 (D:=D-ps.length) fun d hd=>by
     simp only[List.mem_cons,List.not_mem_nil,or_false]at hd
     rcases hd with rfl|rfl<;>exact g2).mono (by omega)⟩
   ·refine⟨.tuple [.int 0,.int 1],.tup (Zal (s67 _ _ f6) n6) (.cons (.int 0) (.cons (.int 1) .nil)),by show 1+(1+0)≤_;omega,?_,(Za4 (D:=0) fun d hd=>?_).mono (by omega)⟩
    ·have:(PyData.tuple [.int 0,.int 1]).weight≤10:=by decide
     omega
    ·simp only[List.mem_cons,List.not_mem_nil,or_false]at hd
     rcases hd with rfl|rfl
     ·exact(Zco (i:=0) (by decide)).gd
     ·exact(Zco (i:=1) (by decide)).gd
   ·exact⟨_,.int _,tI _ (by decide)⟩
  have L7:=L2.same s07
  have hpl7:=s07 _ _ hpl2
  have mid:∀ (z:V) (e:PyData),True:=fun _ _=>trivial
  clear mid
  refine⟨fun σ H3=>∃ (z:V) (e:PyData) (c3:Int) (v5 v7:Option V),σ=[some (.ref p),some x,some (.int m),some (.ref pl),some y,v5,some z,v7]∧DH (off p H3) z e∧Eb u e (D-ps.length)∧H3 pl=some (.lst ((toN ps).map V.int))∧ZZ H3 p c3∧c≤c3∧c3≤c+2*D+3∧(∀b o,H b=some o→b≠p→H3 b=some o),?_,?_⟩
  ·refine⟨_,rfl,_,rfl,p,c2,15,rfl,L7,by omega,by decide,by decide,fun k H8 k0 k1 L8 B8=>?_⟩
   have nod:od≠p:=nw ((((((s1.trans s2).trans s3).trans s4).trans s5).trans s6)) hod
   obtain⟨v,hv,hat⟩:=Zee (xs:=[.non,.bl true,.bl false,.int (-1),.int (m:Int),.int 0,.int ((m:Int)-1),.str "0",.ref a1,.ref a2,.ref a3,.ref a4,.ref a5,.ref a6,.int (10 ^ Int.toNat 20)]) k0 k1
   obtain⟨e,he,heb⟩:=oddB v hv
   exact⟨od,_,_,v,rfl,rfl,SqL.of (B8 _ _ f7 nod),hat,v,e,c2+1,_,_,rfl,he.mono (Zan B8),heb,B8 _ _ hpl7 npp.symm,L8,by omega,by omega,fun b o hb nb=>B8 _ _ (k7 b o hb nb) nb⟩
  clear oddB f7 s67 s57 s47 s37 s27 s17 s07 k7 sm7 hy7 L7 hpl7 s7 hod f6 f5 f4 f3 f2 f1
  rintro σ H3 ⟨z,e,c3,v5,v7,rfl,hz,heb,hpl3,L3,b3,b4,k3⟩
  refine⟨fun σ H4=>∃ (z:V) (e:PyData) (c4:Int) (v5 v7:Option V),σ=[some (.ref p),some x,some (.int m),some (.ref pl),some y,v5,some z,v7]∧DH (off p H4) z e∧Eb u e (D-ps.length)∧H4 pl=some (.lst ((toN ps).map V.int))∧ZZ H4 p c4∧c≤c4∧c4≤c+2*D+5∧(∀b o,H b=some o→b≠p→H4 b=some o),?_,?_⟩
  ·have hy3:=hy.mono (Zan k3)
   have hyH:=hy3.on
   refine⟨_,rfl,_, "tuple",_,_,rfl,hyH.ty,hyH.kT K,_,rfl,?_⟩
   cases hTu:Zcn u with
   | false=>exact ZaG ⟨z,e,c3,_,_,rfl,hz,heb,hpl3,L3,by omega,by omega,k3⟩
   | true =>
    obtain⟨b,xs,ds,rfl,rfl,hb,hs⟩:=hy.tup_inv hTu
    have nbp:b≠p:=fun z=>by rw[z]at hb;unfold off at hb;rw[if_pos rfl]at hb;cases hb
    have hb3:=k3 _ _ (Zb4 _ _ hb) nbp
    have hxl:=hs.length
    refine Z9 ⟨_,rfl,b,_,rfl,.inr (SqT.of hb3),_,_,rfl,rfl,_,rfl,ZcD (fun hgt=>?_) (fun hle=>⟨z,e,c3,_,_,rfl,hz,heb,hpl3,L3,by omega,by omega,k3⟩)⟩
    have hgt:=of_decide_eq_true hgt
    have h1l:1<xs.length:=by omega
    refine⟨_,rfl,p,c3,3,rfl,L3,by omega,by decide,by decide,fun r H4 r0 r1 L4 B4=>⟨_,_,rfl,rfl,_,rfl,ZcD (fun hgt2=>?_) (fun hle=>⟨z,e,c3+1,_,_,rfl,hz.mono (Zan B4),heb,B4 _ _ hpl3 npp.symm,L4,by omega,by omega,fun b o hb nb=>B4 _ _ (k3 b o hb nb) nb⟩)⟩⟩
    have k4:∀b o,H b=some o→b≠p→H4 b=some o:=fun b o hb nb=>B4 _ _ (k3 b o hb nb) nb
    have hb4:=B4 _ _ hb3 nbp
    have hpl4:=B4 _ _ hpl3 npp.symm
    have dl:ds.length≤20000:=by
     have h9:=ZdL ds
     have:(PyData.tuple ds).weight=PyData.weightAll ds:=rfl
     omega
    obtain⟨op4,hop4⟩:∃o,H4 p=some o:=L4.here
    have nw4:∀ {H':Hp} {a:Addr},Zn H4 H'→H' a=none→a≠p:=fun s h z=>by rw[z]at h;rw[s _ _ hop4]at h;cases h
    obtain⟨gp0,gp⟩:=g2.parts
    refine⟨_,rfl,b,_,rfl,.inr (SqT.of hb4),fun a1 h1=>?_⟩
    have s1:=Zc h1 (.lst xs)
    have f1:(upd H4 a1 (.lst xs)) a1=some (.lst xs):=Zb
    generalize upd H4 a1 (.lst xs)=G1 at s1 f1 ⊢
    refine⟨_,rfl,_,rfl,b,xs,rfl,SqT.of (s1 _ _ hb4),ZfW (d:=0) (by omega),fun a2 h2=>?_⟩
    have s2:=Zc h2 (.tup (ZY xs (some 1) none))
    have f2:(upd G1 a2 (.tup (ZY xs (some 1) none))) a2=some (.tup (ZY xs (some 1) none)):=Zb
    generalize upd G1 a2 (.tup (ZY xs (some 1) none))=G2 at s2 f2 ⊢
    rw[Zc5]at f2
    have s02:=s1.trans s2
    refine⟨_,rfl,_,rfl,(by show 1≤sizeLine;decide),fun a3 h3=>?_⟩
    have s3:=Zc h3 (.tup [.int (m:Int)])
    have f3:(upd G2 a3 (.tup [.int (m:Int)])) a3=some (.tup [.int (m:Int)]):=Zb
    generalize upd G2 a3 (.tup [.int (m:Int)])=G3 at s3 f3 ⊢
    have s03:=s02.trans s3
    refine Zdm (s03 _ _ hb4) f3 (by rw[Qh,sizeLine_eq];omega) fun a4 G4 s4 f4=>?_
    have s04:Zn H4 G4:=fun c o hc=>s4 c o (s03 c o hc)
    refine⟨_,rfl,_,rfl,_,rfl,_,rfl,b,xs,rfl,SqT.of (s04 _ _ hb4),rfl,rfl,rfl,fun a5 h5=>?_⟩
    have s5:=Zc h5 (.tup xs.reverse)
    have f5:(upd G4 a5 (.tup xs.reverse)) a5=some (.tup xs.reverse):=Zb
    generalize upd G4 a5 (.tup xs.reverse)=G5 at s5 f5 ⊢
    have s05:=s04.trans s5
    refine⟨_,rfl,_,rfl,b,xs,rfl,SqT.of (s05 _ _ hb4),Zcs (d:=1) h1l,fun a6 h6=>?_⟩
    have s6:=Zc h6 (.tup (ZY xs none (some 1)))
    have f6:(upd G5 a6 (.tup (ZY xs none (some 1)))) a6=some (.tup (ZY xs none (some 1))):=Zb
    generalize upd G5 a6 (.tup (ZY xs none (some 1)))=G6 at s6 f6 ⊢
    rw[show (1:Int)=((1:Nat):Int) from rfl,ZbI]at f6
    have s06:=s05.trans s6
    have hi0:0<ds.length:=by omega
    have hd0:ds[0]? = some ds[0]:=Qc hi0
    obtain⟨x0,hx0,hxd0⟩:=DHs.getR hs hd0
    refine⟨_,rfl,b,xs,0,x0,rfl,rfl,SqT.of (s06 _ _ hb4),Zbl (j:=0) hx0,_,rfl,_,rfl,b,xs,rfl,SqT.of (s06 _ _ hb4),ZfW (d:=0) (by omega),fun a7 h7=>?_⟩
    have s7:=Zc h7 (.tup (ZY xs (some 1) none))
    have f7:(upd G6 a7 (.tup (ZY xs (some 1) none))) a7=some (.tup (ZY xs (some 1) none)):=Zb
    generalize upd G6 a7 (.tup (ZY xs (some 1) none))=G7 at s7 f7 ⊢
    rw[Zc5]at f7
    have s07:=s06.trans s7
    refine⟨(by show 2≤sizeLine;decide),fun a8 h8=>?_⟩
    have s8:=Zc h8 (.tup [x0,.ref a7])
    have f8:(upd G7 a8 (.tup [x0,.ref a7])) a8=some (.tup [x0,.ref a7]):=Zb
    generalize upd G7 a8 (.tup [x0,.ref a7])=G8 at s8 f8 ⊢
    have s08:=s07.trans s8
    refine⟨_,rfl,_,rfl,_,rfl,b,xs,rfl,SqT.of (s08 _ _ hb4),Zcs (d:=1) h1l,fun a9 h9=>?_⟩
    have s9:=Zc h9 (.tup (ZY xs none (some 1)))
    have f9:(upd G8 a9 (.tup (ZY xs none (some 1)))) a9=some (.tup (ZY xs none (some 1))):=Zb
    generalize upd G8 a9 (.tup (ZY xs none (some 1)))=G9 at s9 f9 ⊢
    rw[show (1:Int)=((1:Nat):Int) from rfl,ZbI]at f9
    have s09:=s08.trans s9
    refine Zdm (s09 _ _ hb4) f9 (by rw[Qk,sizeLine_eq];omega) fun aA GA sA fA=>?_
    have sA:Zn G9 GA:=fun c o hc=>sA c o hc
    have s0A:=s09.trans sA
    refine⟨(by show 7≤sizeLine;decide),fun so hso=>?_⟩
    have sB:=Zc hso (.lst [.ref a1,.ref a2,.ref a4,.ref a5,.ref a6,.ref a8,.ref aA])
    have fB:(upd GA so (.lst [.ref a1,.ref a2,.ref a4,.ref a5,.ref a6,.ref a8,.ref aA])) so=some (.lst [.ref a1,.ref a2,.ref a4,.ref a5,.ref a6,.ref a8,.ref aA]):=Zb
    have nso:so≠p:=nw4 s0A hso
    generalize upd GA so (.lst [.ref a1,.ref a2,.ref a4,.ref a5,.ref a6,.ref a8,.ref aA])=GB at sB fB ⊢
    have s0B:=s0A.trans sB
    have sAB:=sB
    have s9B:=sA.trans sB
    have s8B:=s9.trans s9B
    have s7B:=s8.trans s8B
    have s6B:=s7.trans s7B
    have s5B:=s6.trans s6B
    have s4B:=s5.trans s5B
    have s3B:Zn G3 GB:=fun c o hc=>s4B _ _ (s4 c o hc)
    have s2B:=s3.trans s3B
    have s1B:=s2.trans s2B
    have tp:∀ {G':Hp} {a:Addr} {l:List V},Zn H4 G'→G' a=some (.tup l)→a≠p:=fun s h z=>by
     obtain⟨_,_,hl,_⟩:=L4
     rw[z,s _ _ hl]at h;cases h
    have kB:∀b o,H b=some o→b≠p→GB b=some o:=fun b o hb nb=>s0B _ _ (k4 b o hb nb)
    have smB:Zn (off p H) (off p GB):=Zan kB
    have hsB:=hs.mono smB
    have hxB:=hxd0.mono smB
    have wds:(PyData.tuple ds).weight=PyData.weightAll ds:=rfl
    have lds:lfD (.tuple ds)=Zab ds:=rfl
    have wc:=ZmT ds 1
    have lc:=Zne ds 1
    have etl:ds.drop 1=ds.tail:=List.drop_one
    have extl:xs.drop 1=xs.tail:=List.drop_one
    have w0:=Zkk hd0
    have l0:lfD ds[0]≤Zab ds:=by
     have:=congrArg Zab (Zgb hd0)
     rw[Zar,Zar]at this
     have e9:Zab [ds[0]]=lfD ds[0]+0:=rfl
     omega
    have dd:D-ps.length-1+1=D-ps.length:=by omega
    have someB:∀v∈([.ref a1,.ref a2,.ref a4,.ref a5,.ref a6,.ref a8,.ref aA]:List V),∃e,DH (off p GB) v e∧Eb (.tuple ds) e (D-ps.length):=fun v hv=>by
     simp only[List.mem_cons,List.not_mem_nil,or_false]at hv
     rcases hv with rfl|rfl|rfl|rfl|rfl|rfl|rfl
     ·exact⟨.list ds,.lst (Zal (s1B _ _ f1) (nw4 (Zn.refl _) h1)) hsB,by show Zab ds≤_;omega,by show PyData.weightAll ds≤_;omega,(Zb0 gp).mono (by omega)⟩
     ·refine⟨.tuple (ds.drop 1),.tup (Zal (s2B _ _ f2) (tp s02 f2)) (by rw[← extl];exact hsB.drop 1),by show Zab (ds.drop 1)≤_;omega,by show PyData.weightAll (ds.drop 1)≤_;omega,(Za4 fun d hd=>gp d (QW hd)).mono (by omega)⟩
     ·refine⟨.tuple (ds++[.int m]),.tup (Zal (s4B _ _ f4) (tp s04 f4)) (hsB.app (.cons (.int _) .nil)),?_,?_,(Za4 fun d hd=>?_).mono (by omega:D-ps.length-1+1≤_)⟩
      ·show Zab (ds++[.int m])≤_
       rw[Zar]
       have:Zab [.int (m:Int)]=1:=rfl
       omega
      ·show PyData.weightAll (ds++[.int m])≤_
       rw[ZbU]
       have t2:=(Zco (i:=(m:Int)) (by omega)).wt
       have:PyData.weightAll [.int (m:Int)]=(PyData.int (m:Int)).weight+1+0:=rfl
       omega
      ·rcases Qr.mp hd with hd|hd
       ·exact gp d hd
       ·rw[Qg.mp hd]
        exact(Zco (i:=(m:Int)) (by omega)).gd.mono (Qm _)
     ·exact⟨.tuple ds.reverse,.tup (Zal (s5B _ _ f5) (tp s05 f5)) (DHs.rev hsB),by show Zab ds.reverse≤_;rw[Zki];omega,by show PyData.weightAll ds.reverse≤_;rw[ZjJ];omega,(Za4 fun d hd=>gp d (List.mem_reverse.mp hd)).mono (by omega)⟩
     ·refine⟨.tuple (ds.take 1),.tup (Zal (s6B _ _ f6) (tp s06 f6)) (hsB.take 1),by show Zab (ds.take 1)≤_;omega,by show PyData.weightAll (ds.take 1)≤_;omega,(Za4 fun d hd=>gp d (QO hd)).mono (by omega)⟩
     ·have h7':=Zal (s7B _ _ f7) (tp s07 f7)
      refine⟨.tuple [ds[0],.tuple (ds.drop 1)],.tup (Zal (s8B _ _ f8) (tp s08 f8)) (.cons hxB (.cons (.tup h7' (by rw[← extl];exact hsB.drop 1)) .nil)),?_,?_,(Za4 (D:=D-ps.length) fun d hd=>?_).mono (by omega)⟩
      ·show lfD ds[0]+(Zab (ds.drop 1)+0)≤_
       omega
      ·show (ds[0]).weight+1+(PyData.weightAll (ds.drop 1)+1+0)≤_
       omega
      ·simp only[List.mem_cons,List.not_mem_nil,or_false]at hd
       rcases hd with rfl|rfl
       ·exact(gp _ (Q5 hi0)).mono (by omega)
       ·exact(Za4 fun d hd=>gp d (QW hd)).mono (by omega)
     ·refine⟨.tuple (ds++ds.take 1),.tup (Zal (sAB _ _ fA) (tp s0A fA)) (hsB.app (hsB.take 1)),?_,?_,(Za4 fun d hd=>?_).mono (by omega:D-ps.length-1+1≤_)⟩
      ·show Zab (ds++ds.take 1)≤_
       rw[Zar];omega
      ·show PyData.weightAll (ds++ds.take 1)≤_
       rw[ZbU];omega
      ·rcases Qr.mp hd with hd|hd
       ·exact gp d hd
       ·exact gp d (QO hd)
    have LB:=L4.same s0B
    refine⟨_,rfl,_,rfl,p,c3+1,7,rfl,LB,by omega,by decide,by decide,fun k H8 k0 k1 L8 B8=>?_⟩
    obtain⟨v,hv,hat⟩:=Zee (xs:=[.ref a1,.ref a2,.ref a4,.ref a5,.ref a6,.ref a8,.ref aA]) k0 k1
    obtain⟨e2,he2,heb2⟩:=someB v hv
    exact⟨so,_,_,v,rfl,rfl,SqL.of (B8 _ _ fB nso),hat,v,e2,c3+1+1,_,_,rfl,he2.mono (Zan B8),heb2,B8 _ _ (s0B _ _ hpl4) npp.symm,L8,by omega,by omega,fun b o hb nb=>B8 _ _ (kB b o hb nb) nb⟩
  ·rintro σ H4 ⟨z,e,c4,v5,v7,rfl,hz,heb,hpl4,L4,b5,b6,k4⟩
   obtain⟨la,lb,hlp,_⟩:=id L4
   obtain⟨w1,w2,w3,_,_⟩:=ZgX (e:=e) ps hok hth.gd heb.gd
   rw[hu]at w1 w2
   have t1:=hth.lf
   have t2:=hth.wt
   have t3:=heb.lf
   have t4:=heb.wt
   refine⟨_,rfl,_,rfl,_,rfl,p,_,x,z,pl,ps,d,e,rfl,hlp,hd.mono (Zan k4),hpl4,hz,hok,by omega,by omega,by omega,by omega,fun z' H5 hz' s5=>?_⟩
   refine q z' _ c4 H5 hz' ⟨?_,?_,w3.mono ?_⟩ (L4.same s5) (by omega) (by omega) fun b o hb nb=>s5 _ _ (k4 b o hb nb)
   ·omega
   ·omega
   ·omega
theorem Zkh{K:PySem.W.Frag}{a:Addr}{xs:List V}{k:Nat}{D:Addr}{σ:L2.St}{H1:Hp}{g:TG}{te:TE}{Q:VK}(Pv:Nat→List V→L2.St→Hp→Prop)(h0:Pv 0 [] (σ++List.replicate k none) (upd H1 D (.lst [])))
  (hl:∀i ys σ H,Pv i ys σ H→SqT K H a xs)
  (hs:∀i x ys σ H,xs[i]? = some x→Pv i ys σ H→g x σ H fun σ4 H4=>te σ4 H4 fun y H6=>H6 D=some (.lst ys)∧ys.length<sizeLine∧Pv (i+1) (ys++[y]) σ4 (upd H6 D (.lst (ys++[y]))))
  (hd:∀ys σ H,Pv xs.length ys σ H→Q (.ref D) H):ZdM (Itt K a) D k σ H1 g ZdV te Q:=by
 refine⟨fun i m ys σ H=>m=xs.length-i∧i≤xs.length∧Pv i ys σ H,⟨xs.length,by simp,Qm _,h0⟩,?_⟩
 rintro i m ys σ H ⟨rfl,hi,p⟩
 have q1:=hl i ys σ H p
 by_cases hlt:i<xs.length
 ·refine .inr ⟨⟨xs,xs[i],q1,Qc hlt⟩,Pv (i+1),fun ys' σ' H' p'=>⟨xs.length-(i+1),by omega,rfl,hlt,p'⟩,fun x H' y=>?_⟩
  obtain⟨rfl,e⟩:=y
  simp only[ZdV,↓reduceIte]
  exact hs i x ys σ _ (e xs q1) p
 ·have e:i=xs.length:=by omega
  exact .inl ⟨⟨xs,q1,by omega⟩,hd ys σ H (e ▸ p)⟩
def ZgY:Key→PyData
 | .inl i=>.int i
 | .inr s=>.str s
def tD(k:List Key):PyData:=.tuple (k.map ZgY)
theorem Zfz{K:PySem.W.Frag}{H:Hp}:∀ks:List Key,DVs K H (ks.map kV) (ks.map ZgY)
 | []=>.nil
 | .inl i::r=>.cons (.int i) (Zfz r)
 | .inr s::r=>.cons (.str s) (Zfz r)
theorem ZdE{K:PySem.W.Frag}{H:Hp}:∀ts:ZaF,AtT H ts→DVs K H (Zl ts) (ts.map fun t=>tD t.2)
 | [],_=>.nil
 | t::r,h=>.cons (.tup (SqT.of (h t (by simp))) (Zfz t.2)) (ZdE r fun x hx=>h x (Ql _ hx))
def ZcC:List Int→Int
 | []=>0
 | [x]=>x
 | x::y::r=>min x (ZcC (y::r))
theorem Zbo:∀l:List Int,l≠[]→ZcC l∈l∧∀a∈l,ZcC l≤a
 | [],h=>absurd rfl h
 | [x],_=>⟨List.mem_singleton.mpr rfl,fun a h=>by rw[Qg.mp h];exact QS _⟩
 | x::y::r,_=>by
  obtain⟨a,b⟩:=Zbo (y::r) (by simp)
  show min x (ZcC (y::r))∈_∧∀a∈_,min x (ZcC (y::r))≤a
  refine⟨?_,fun c hc=>?_⟩
  ·by_cases h:x≤ZcC (y::r)
   ·rw[Int.min_eq_left h];exact Qu ..
   ·rw[Int.min_eq_right (by omega)];exact Ql _ a
  ·rcases QK.mp hc with rfl|hc
   ·omega
   ·have:=b c hc;omega
theorem Zdl{l:List Int}{M:Int}(h:M∈l)(g:∀a∈l,M≤a):M=ZcC l:=by
 have hne:l≠[]:=fun z=>by rw[z]at h;cases h
 obtain⟨a,b⟩:=Zbo l hne
 exact Int.le_antisymm (g _ a) (b _ h)
def ZeQ(b e:Nat):List Nat:=(List.range (e-b-1)).map fun i=>b+1+i
theorem ZaH{b e m:Nat}:m∈ZeQ b e↔b<m∧m<e:=by
 unfold ZeQ
 rw[List.mem_map]
 constructor
 ·rintro⟨i,hi,rfl⟩
  have:=QJ.mp hi
  omega
 ·rintro⟨h1,h2⟩
  exact⟨m-b-1,QJ.mpr (by omega),by omega⟩
def psF(g c:Nat→Nat→Int)(b e:Nat):List Int:=(ZeQ b e).map fun m=>g b m+c m e
def Z2(g:Nat→Nat→Int):Nat→Nat→Nat→Int
 | 0,b,e=>g b e
 | k+1,b,e=>ZcC (g b e::psF g (Z2 g k) b e)
def ZbZ(ns:List Int)(g:Nat→Nat→Int)(wy b e:Nat):Int:=if e-b=1 then 0 else seg ns b e+ZcC (psF g (Z2 g (wy-2)) b e)
theorem Zfk{g g' c c':Nat→Nat→Int}{b e:Nat}(h:∀m,b<m→m<e→g b m=g' b m∧c m e=c' m e):psF g c b e=psF g' c' b e:=by
 unfold psF
 exact Qah fun m hm=>by obtain⟨h1,h2⟩:=ZaH.mp hm;rw[(h m h1 h2).1,(h m h1 h2).2]
theorem ZeF{g g':Nat→Nat→Int}:∀ (k b e:Nat),(∀x y,b≤x→x<y→y≤e→g x y=g' x y)→b<e→Z2 g k b e=Z2 g' k b e
 | 0,b,e,h,hb=>h b e (Qd _) hb (Qd _)
 | k+1,b,e,h,hb=>by
  show ZcC (g b e::psF g (Z2 g k) b e)=ZcC (g' b e::psF g' (Z2 g' k) b e)
  rw[h b e (Qd _) hb (Qd _),Zfk fun m h1 h2=>⟨h b m (Qd _) h1 (Q3 h2),ZeF k m e (fun x y a1 a2 a3=>h x y (by omega) a2 a3) h2⟩]
theorem Zj9{ns:List Int}{w n:Nat}{pf c:Nat→Nat→Int}(hP:∀b e,b<e→e≤n→∃t,Gr ns w b e 1 (pf b e) [t])(m:Nat)(hm:2≤m)(b e:Nat)(hbe:b+1<e)(he:e≤n)(hC:∀k,b<k→k<e→∃u,Gr ns w k e (m-1) (c k e) u){M:Int}(hM:M∈psF pf c b e)(hle:∀a∈psF pf c b e,M≤a):∃ts,Gc ns w b e m M ts:=by
 obtain⟨mid,hmid,rfl⟩:=Qz.mp hM
 obtain⟨h1,h2⟩:=ZaH.mp hmid
 obtain⟨t,g1⟩:=hP b mid h1 (by omega)
 obtain⟨u,g2⟩:=hC mid h1 h2
 refine⟨[t]++u,Zjz hm h1 h2 g1 g2 (fun k q1 q2 u1 u2 k1 k2 f1 f2=>?_) fun k k1 k2=>?_⟩
 ·obtain⟨t',g1'⟩:=hP b k k1 (by omega)
  obtain⟨u',g2'⟩:=hC k k1 k2
  rw[Zbb f1 g1',Zbb f2 g2']
  exact hle _ (Qz.mpr ⟨k,ZaH.mpr ⟨k1,k2⟩,rfl⟩)
 ·obtain⟨t',g1'⟩:=hP b k k1 (by omega)
  obtain⟨u',g2'⟩:=hC k k1 k2
  exact⟨_,_,_,_,g1',g2'⟩
theorem Zim{ns:List Int}{w n:Nat}{pf:Nat→Nat→Int}(hP:∀b e,b<e→e≤n→∃t,Gr ns w b e 1 (pf b e) [t]):∀ (k b e:Nat),b<e→e≤n→∃ts,Gr ns w b e (k+1) (Z2 pf k b e) ts
 | 0,b,e,hb,he=>by obtain⟨t,g⟩:=hP b e hb he;exact⟨[t],g⟩
 | k+1,b,e,hb,he=>by
  obtain⟨t,g0⟩:=hP b e hb he
  show ∃ts,Gr ns w b e (k+1+1) (ZcC (pf b e::psF pf (Z2 pf k) b e)) ts
  by_cases h1:e=b+1
  ·subst h1
   have:psF pf (Z2 pf k) b (b+1)=[]:=by unfold psF ZeQ;rw[show b+1-b-1=0 by omega];rfl
   rw[this]
   exact⟨[t],Zkf g0 (by omega)⟩
  ·have hne:psF pf (Z2 pf k) b e≠[]:=by
    have:pf b (b+1)+Z2 pf k (b+1) e∈psF pf (Z2 pf k) b e:=Qz.mpr ⟨b+1,ZaH.mpr ⟨by omega,by omega⟩,rfl⟩
    exact fun z=>by rw[z]at this;cases this
   obtain⟨c1,c2⟩:=Zbo _ hne
   obtain⟨ts,gc⟩:=Zj9 hP (k+1+1) (by omega) b e (by omega) he (fun m a1 a2=>by obtain⟨u,hu⟩:=Zim hP k m e a2 he;exact⟨u,hu⟩) c1 c2
   obtain⟨b1,b2⟩:=Zit (m:=k+1+1) (by omega) g0 gc
   by_cases hlt:ZcC (psF pf (Z2 pf k) b e)<pf b e
   ·refine⟨ts,?_⟩
    have:ZcC (pf b e::psF pf (Z2 pf k) b e)=ZcC (psF pf (Z2 pf k) b e):=(Zdl (Ql _ c1) fun a ha=>by
     rcases QK.mp ha with rfl|ha
     ·omega
     ·exact c2 a ha).symm
    rw[this];exact b1 hlt
   ·refine⟨[t],?_⟩
    have:ZcC (pf b e::psF pf (Z2 pf k) b e)=pf b e:=(Zdl (Qu ..) fun a ha=>by
     rcases QK.mp ha with rfl|ha
     ·exact QS _
     ·have:=c2 a ha;omega).symm
    rw[this];exact b2 hlt
theorem ZlP{ns:List Int}{w:Nat}{pf:Nat→Nat→Int}(h0:∀v∈ns,0≤v)(w2:2≤w)(hP:∀b e,b<e→e≤ns.length→∃t,Gr ns w b e 1 (pf b e) [t]){b e:Nat}(hb:b<e)(he:e≤ns.length):ZbZ ns pf w b e=pf b e:=by
 unfold ZbZ
 obtain⟨t,g⟩:=hP b e hb he
 by_cases h1:e-b=1
 ·rw[if_pos h1]
  have:e=b+1:=by omega
  subst this
  exact Zbb (ZhW h0 w b 1 (Qd 1)) g
 ·rw[if_neg h1]
  have hne:psF pf (Z2 pf (w-2)) b e≠[]:=by
   have:pf b (b+1)+Z2 pf (w-2) (b+1) e∈psF pf (Z2 pf (w-2)) b e:=Qz.mpr ⟨b+1,ZaH.mpr ⟨by omega,by omega⟩,rfl⟩
   exact fun z=>by rw[z]at this;cases this
  obtain⟨c1,c2⟩:=Zbo _ hne
  obtain⟨ts,gc⟩:=Zj9 hP w w2 b e (by omega) he (fun m a1 a2=>by
   obtain⟨u,hu⟩:=Zim hP (w-2) m e a2 he
   rw[show w-2+1=w-1 by omega]at hu
   exact⟨u,hu⟩) c1 c2
  have:=Zbb (Ziz gc (by omega) he) g
  omega
def Zam(n:Nat)(g:Nat→Nat→Int):List (List Key×V):=(Zv n n).map fun p=>(q2 p,V.int (g p.1 p.2))
theorem Zef(n:Nat):(Zv n n).Nodup:=(Zl8 n n).imp fun {a b} h e=>by
 subst e
 rcases h with h|⟨_,h⟩<;>exact QX _ h
theorem ZhJ{g:Nat→Nat→Int}:∀ {l:List (Nat×Nat)} {p:Nat×Nat},p∈l→Z3 (l.map fun p=>(q2 p,V.int (g p.1 p.2))) (q2 p)=some (.int (g p.1 p.2))
 | [],p,h=>by cases h
 | a::l,p,h=>by
  unfold Z3
  rw[QE,List.find?_cons]
  by_cases e:a=p
  ·subst e;simp
  ·have:¬ q2 a=q2 p:=fun z=>e (by obtain⟨h1,h2⟩:=ZhE z;exact Prod.ext h1 h2)
   simp only[this,decide_false]
   exact ZhJ ((QK.mp h).resolve_left fun z=>e z.symm)
theorem Zev{g:Nat→Nat→Int}:∀ {l:List (Nat×Nat)} {p:Nat×Nat},p ∉ l→Z3 (l.map fun p=>(q2 p,V.int (g p.1 p.2))) (q2 p)=none
 | [],p,_=>rfl
 | a::l,p,h=>by
  unfold Z3
  rw[QE,List.find?_cons]
  have:¬ q2 a=q2 p:=fun z=>h (by obtain⟨h1,h2⟩:=ZhE z;rw[show a=p from Prod.ext h1 h2];exact Qu ..)
  simp only[this,decide_false]
  exact Zev fun z=>h (Ql _ z)
theorem ZcA{n b e:Nat}(g:Nat→Nat→Int)(hb:b<e)(he:e≤n):Z3 (Zam n g) (Kp b e)=some (.int (g b e)):=ZhJ (p:=(b,e)) (Zba.mpr ⟨hb,he⟩)
theorem Zep(b e:Nat):(ZeQ b e).length=e-b-1:=by unfold ZeQ;rw[Qa,QaH]
def ZjY:Sp:=fun vs H Q _=>∃ (n:Nat),vs=[.int n]∧n≤12 ∧
 ∀ (r:Addr) (ts:ZaF) (H':Hp),H r=none→H' r=some (.lst (Zl ts))→AtT H' ts→ts.map (·.2)=(Zv n n).map q2→Zn H H'→Q (.ref r) H'
theorem Zl3(T:Zat K mg):Df P w K mg base 1 "stretches_of" ["many"] ZjY:=by
 refine T.t_stretches_of.df Zd7 (fun vs H Q E h=>?_) (fun cdv f A outer s H vs Q E hr h=>?_)
 ·obtain⟨n,rfl,_⟩:=h
  rfl
 obtain⟨n,rfl,n12,q⟩:=h
 refine⟨_,#[Zj,#[Zo,(@Zgf _ _ _ _ _ _ _ _ _ _ _ _ _ _ _ _ Zf4 rfl rfl rfl #[Zbq,T.b.n_range,#[Za,#[pv,0,(Or.inr (Or.inl rfl))],#[Zd]]] (fun _ _ _ _=>#[cg,1,Zf4]) (fun _ _ _ _=>#[ZaQ,(Zaf Zf4 rfl (by ac_rfl)),T.b.n_range,#[Za,#[Zm,ZG,#[cw,1,Zf4],#[Ze]],#[Za,#[Zm,ZG,#[cv,0,Zf4],#[Ze]],#[Zd]]]]) (fun _ _ _ _=>#[cg,2,Zf4]) (fun _ _ _ _=>#[Zx,#[Za,#[cw,1,Zf4],#[Za,#[cw,2,Zf4],#[Zd]]]]) (by intro _;rfl) (by intro _ _ _ _ _;rfl))]],?_⟩
 refine⟨_,rfl,_,rfl,by omega,by omega,fun D hD=>?_⟩
 rw[Q6]
 refine Zd1 (fun b ys σ H2=>(∃v1 v2:Option V,σ=[some (.int (n:Int)),v1,v2])∧(∃ts:ZaF,ys=Zl ts∧AtT H2 ts∧ts.map (·.2)=(Zv n b).map q2)∧b≤n∧H2 D=some (.lst ys)∧Zn H H2) ?_ ?_ ?_
 ·exact⟨⟨none,none,rfl⟩,⟨[],rfl,(fun t h=>by cases h),rfl⟩,Qm _,Zb,Zc hD _⟩
 ·rintro b ys σ H2 hb ⟨⟨v1,v2,rfl⟩,⟨ts,rfl,hat,hE⟩,hb',hD2,s2⟩
  rw[show ((0:Int)+(b:Int))=(b:Int) by omega]
  refine⟨_,rfl,_,_,rfl,rfl,_,rfl,_,_,rfl,rfl,_,_,rfl,⟨by omega,by omega,by omega,by omega⟩,?_⟩
  rw[show ((n:Int)+1-((b:Int)+1)).toNat=n-b by omega]
  refine Zd3 (fun i ys σ H3=>(∃v2:Option V,σ=[some (.int (n:Int)),some (.int (b:Int)),v2])∧(∃ts:ZaF,ys=Zl ts∧AtT H3 ts∧ts.map (·.2)=(Zv n b++(List.range i).map fun i=>(b,b+1+i)).map q2)∧i≤n-b∧H3 D=some (.lst ys)∧Zn H H3) ⟨⟨_,rfl⟩,⟨ts,rfl,hat,by rw[hE];simp⟩,Qm _,hD2,s2⟩ ?_ ?_
  ·rintro i ys σ H3 hi ⟨⟨v2',rfl⟩,⟨ts3,rfl,hat3,hE3⟩,hi',hD3,s3⟩
   rw[show ((b:Int)+1+(i:Int))=((b+1+i:Nat):Int) by omega]
   have htl:ts3.length≤156:=by
    have h9:=congrArg List.length hE3
    rw[Qa,Qa,Qe,Qa,QaH]at h9
    have h8:=ZbX n b
    have h7:n*b≤12*12:=Nat.mul_le_mul n12 (by omega)
    omega
   refine⟨_,rfl,_,rfl,(by show 2≤sizeLine;decide),fun m hm=>?_⟩
   have sn:=Zc hm (.tup [.int (b:Int),.int ((b+1+i:Nat):Int)])
   have hD5:=sn _ _ hD3
   have nDn:D≠m:=Zg hD3 hm
   refine⟨hD5,(by rw[ZV];exact ZM (by omega)),⟨_,rfl⟩,⟨ts3++[(m,q2 (b,b+1+i))],by unfold Zl;rw[Qf];rfl,fun t ht=>?_,?_⟩,by omega,Zb,fun b' o hb=>?_⟩
   ·rcases Qr.mp ht with ht|ht
    ·exact Zaa hD5 _ _ _ (sn _ _ (hat3 t ht))
    ·rw[Qg.mp ht,Zi nDn.symm];exact Zb
   ·rw[Qf,hE3,QaB]
    simp[List.map_append]
   ·rw[Zi (Zg hb hD)];exact sn _ _ (s3 b' o hb)
  ·rintro ys σ H3 ⟨⟨v2',rfl⟩,⟨ts3,rfl,hat3,hE3⟩,_,hD3,s3⟩
   exact⟨⟨_,_,rfl⟩,⟨ts3,rfl,hat3,by rw[Zb1];exact hE3⟩,hb,hD3,s3⟩
 ·rintro ys σ H2 ⟨⟨v1,v2,rfl⟩,⟨ts,rfl,hat,hE⟩,_,hD2,s2⟩
  exact q D ts H2 hD hD2 hat hE s2
def Zk9:Sp:=fun vs H Q _=>∃ (d c:Addr) (k1 k2:List (List Key×V)) (b e:Nat) (g u:Nat→Nat→Int),vs=[.ref d,.ref c,.int b,.int e]∧L2.Rd H d (.dT k1)∧L2.Rd H c (.dT k2)∧b<e∧e≤12∧(∀m,b<m→m<e→Z3 k1 (Kp b m)=some (.int (g b m))∧Z3 k2 (Kp m e)=some (.int (u m e))) ∧
 ∀ (r:Addr) (H':Hp),H r=none→H' r=some (.lst ((psF g u b e).map V.int))→Zn H H'→Q (.ref r) H'
theorem Zdo{H H':Hp}{d:Addr}{o:HO}(h:L2.Rd H d o)(s:Zn H H'):L2.Rd H' d o:=by
 rcases h with h|⟨u,h⟩
 ·exact .inl (s _ _ h)
 ·exact .inr ⟨u,s _ _ h⟩
theorem Zmq(T:Zat K mg):Df P w K mg base 1 "part_sums" ["priced", "cut", "begin", "end"] Zk9:=by
 refine T.t_part_sums.df Zfy (fun vs H Q E h=>?_) (fun cdv f A outer s H vs Q E hr h=>?_)
 ·obtain⟨d,c,k1,k2,b,e,g,u,rfl,_⟩:=h
  rfl
 obtain⟨d,c,k1,k2,b,e,g,u,rfl,hd,hc,hbe,he,hk,q⟩:=h
 refine⟨_,#[Zj,#[Zo,#[ZaD,Zgm,#[ZaQ,rfl,T.b.n_range,#[Za,#[Zm,ZG,#[pv,2,(Or.inr (Or.inl rfl))],#[Ze]],#[Za,#[pv,3,(Or.inr (Or.inl rfl))],#[Zd]]]],(fun _ _ _ _=>#[cg,4,Zgm]),(fun _ _ _ _=>(@ZaE _)),(fun _ _ _ _=>#[Zm,ZG,#[ZJ,(@ZiN _ _ hr),#[cv,0,Zgm],#[Zx,#[Za,#[cv,2,Zgm],#[Za,#[cw,4,Zgm],#[Zd]]]]],#[ZJ,(@ZiN _ _ hr),#[cv,1,Zgm],#[Zx,#[Za,#[cw,4,Zgm],#[Za,#[cv,3,Zgm],#[Zd]]]]]])]]],?_⟩
 refine⟨_,rfl,_,_,rfl,rfl,_,rfl,_,_,rfl,⟨by omega,by omega,by omega,by omega⟩,fun D hD=>?_⟩
 rw[show ((e:Int)-((b:Int)+1)).toNat=e-b-1 by omega]
 refine Zdf (fun i ys σ H2=>(∃v:Option V,σ=[some (.ref d),some (.ref c),some (.int b),some (.int e),v])∧ys=(((ZeQ b e).take i).map fun m=>g b m+u m e).map V.int∧H2 D=some (.lst ys)∧i≤e-b-1∧Zn H H2) ⟨⟨none,rfl⟩,rfl,Zb,Qm _,Zc hD _⟩ ?_ ?_
 ·rintro i ys σ H2 hi ⟨⟨v,rfl⟩,rfl,hD2,_,s2⟩
  rw[show ((b:Int)+1+(i:Int))=((b+1+i:Nat):Int) by omega]
  have hm:(ZeQ b e)[i]? = some (b+1+i):=by unfold ZeQ;rw[Qt,List.getElem?_range hi];rfl
  obtain⟨x1,x2⟩:=hk (b+1+i) (by omega) (by omega)
  refine⟨_,rfl,_,rfl,_,rfl,(by show 2≤sizeLine;decide),fun p1 hp1=>?_⟩
  have s3:=Zc hp1 (.tup ((Kp b (b+1+i)).map kV))
  have f3:(upd H2 p1 (.tup ((Kp b (b+1+i)).map kV))) p1=some (.tup ((Kp b (b+1+i)).map kV)):=Zb
  change Ze5 _ _ (upd H2 p1 (.tup ((Kp b (b+1+i)).map kV))) _
  generalize upd H2 p1 (.tup ((Kp b (b+1+i)).map kV))=H3 at s3 f3 ⊢
  refine⟨d,k1,p1,_,_,rfl,rfl,Zdo hd (s2.trans s3),f3,x1,?_⟩
  refine⟨_,rfl,_,rfl,_,rfl,(by show 2≤sizeLine;decide),fun p2 hp2=>?_⟩
  have s4:=Zc hp2 (.tup ((Kp (b+1+i) e).map kV))
  have f4:(upd H3 p2 (.tup ((Kp (b+1+i) e).map kV))) p2=some (.tup ((Kp (b+1+i) e).map kV)):=Zb
  change Ze5 _ _ (upd H3 p2 (.tup ((Kp (b+1+i) e).map kV))) _
  generalize upd H3 p2 (.tup ((Kp (b+1+i) e).map kV))=H4 at s4 f4 ⊢
  have s24:=s3.trans s4
  refine⟨c,k2,p2,_,_,rfl,rfl,Zdo hc (s2.trans s24),f4,x2,_,_,rfl,rfl,?_⟩
  have hD4:=s24 _ _ hD2
  refine⟨hD4,by rw[Qa,Qa,Qk,Zep];exact ZM (by omega),⟨_,rfl⟩,?_,Zb,hi,fun x o hx=>?_⟩
  ·rw[Qv,hm,Qf,Qf];rfl
  ·rw[Zi (Zg hx hD)];exact s24 _ _ (s2 x o hx)
 ·rintro ys σ H2 ⟨⟨v,rfl⟩,rfl,hD2,_,s2⟩
  rw[show e-b-1=(ZeQ b e).length by rw[Zep],Qn (Qd _)]at hD2
  exact q D H2 hD hD2 s2
theorem ZgG{n i:Nat}{g:Nat→Nat→Int}{p:Nat×Nat}(h:(Zv n n)[i]? = some p):((Zv n n).take (i+1)).map (fun p=>(q2 p,V.int (g p.1 p.2)))=((Zv n n).take i).map (fun p=>(q2 p,V.int (g p.1 p.2)))++[(q2 p,V.int (g p.1 p.2))]:=by
 rw[Qv,h,Qf];rfl
theorem Zf7{n i:Nat}{p:Nat×Nat}(h:(Zv n n)[i]? = some p):p ∉ (Zv n n).take i:=fun hm=>by
 obtain⟨j,hj,e⟩:=Qax hm
 obtain⟨hi,e2⟩:=Qi.mp h
 rw[Qk]at hj
 rw[List.getElem_take]at e
 have:=List.pairwise_iff_getElem.mp (Zef n) j i (by omega) hi (by omega)
 rw[e,e2]at this
 exact this rfl
def ZjT:Sp:=fun vs H Q _=>∃ (d:Addr) (n wy:Nat) (g:Nat→Nat→Int),vs=[.ref d,.int ((wy:Int)-1)]∧H d=some (.dT (Zam n g))∧n≤12∧2≤wy∧wy≤6 ∧
 ∀ (c:Addr) (H':Hp),H' c=some (.dT (Zam n (Z2 g (wy-2))))→Zn H H'→Q (.ref c) H'
theorem Zlr(T:Zat K mg)(f_part_sums:Df P w K mg base 1 "part_sums" ["priced", "cut", "begin", "end"] Zk9):Df P w K mg base 2 "cut_prices" ["priced", "most"] ZjT:=by
 refine T.t_cut_prices.df Zbt (fun vs H Q E h=>?_) (fun cdv f A outer s H vs Q E hr h=>?_)
 ·obtain⟨d,n,wy,g,rfl,_⟩:=h
  rfl
 obtain⟨d,n,wy,g,rfl,hd,n12,w2,w6,q⟩:=h
 refine⟨_,#[Zf,#[Zq,2,Zbt.nd,(Or.inr rfl),#[pv,0,(Or.inr (Or.inl rfl))]],#[Zf,#[ZaJ,PassesOwn.never,#[ZaQ,rfl,T.b.n_range,#[Za,#[Ze],#[Za,#[Zm,ZG,‹1›,#[Ze]],#[Zd]]]],#[ZB,3,Zbt.nd,(Or.inl rfl)],#[Zj,#[Zq,2,Zbt.nd,(Or.inr rfl),(@ZlC _ _ _ (@Zj2 _ _ _ _ _ _ _ _ _ _ _ _ _ _ _ _ ZdK rfl rfl rfl (@ZiV _ _ _ _ _ _ _ _ #[pv,0,(Or.inr (Or.inl rfl))] (by rfl) (by rfl)) (fun _ _ _ _=>#[gT,K,2,#[ZA,#[gT,K,2,#[ZA,#[cg,5,ZdK],#[ZA,#[cg,6,ZdK],(@ZaP _)]]],#[ZA,#[cg,4,ZdK],(@ZaP _)]]]) (fun _ _ _ _=>(@ZaE _)) (fun _ _ _ _=>#[Zx,#[Za,#[cw,5,ZdK],#[Za,#[cw,6,ZdK],#[Zd]]]]) (fun _ _ _ _=>#[Zk,(ZnP K),(Zaf ZdK rfl (by ac_rfl)),T.b.n_min,boot_min,#[Za,#[Zm,ZaB,#[ZH,#[Za,#[cw,4,ZdK],#[Zd]]],#[Zu,f_part_sums,hr,#[Za,#[cv,0,ZdK],#[Za,#[cv,2,ZdK],#[Za,#[cw,5,ZdK],#[Za,#[cw,6,ZdK],#[Zd]]]]],(Zaf ZdK rfl (by ac_rfl))]],#[Zd]]]) (Za7.units hr) (by intro _;rfl)))]]],#[Zj,#[Zo,#[pv,2,(Or.inr (Or.inl rfl))]]]]],?_⟩
 refine⟨_,rfl,_,rfl,_,_,rfl,rfl,_,_,rfl,⟨by omega,by omega,by omega,by omega⟩,?_⟩
 rw[show ((wy:Int)-1+1-2).toNat=wy-2 by omega]
 refine ZaR (fun i σ H2=>∃ (c:Addr) (v:Option V),σ=[some (.ref d),some (.int ((wy:Int)-1)),some (.ref c),v]∧H2 c=some (.dT (Zam n (Z2 g i)))∧Zn H H2) ⟨d,none,rfl,hd,Zn.refl H⟩ ?_ ?_
 ·rintro i σ H2 hi ⟨c,v,rfl,hc,s2⟩
  have hd2:=s2 _ _ hd
  refine⟨d,_,hd2,True.intro,_,rfl,d,_,rfl,hd2,fun o D hD=>?_⟩
  have hds:∀x u,H2 x=some u→x≠d→(upd H2 d (.frz o (.dT (Zam n g)))) x=some u:=fun x u hx nx=>by rw[Zi nx];exact hx
  have hf:(upd H2 d (.frz o (.dT (Zam n g)))) d=some (.frz o (.dT (Zam n g))):=Zb
  have hcr:L2.Rd (upd H2 d (.frz o (.dT (Zam n g)))) c (.dT (Zam n (Z2 g i))):=by
   by_cases e:c=d
   ·subst e
    rw[hd2]at hc
    injection hc with hc
    injection hc with hc
    rw[← hc];exact .inr ⟨o,hf⟩
   ·exact .inl (hds _ _ hc e)
  generalize hH3:upd H2 d (.frz o (.dT (Zam n g)))=H3 at hD hds hf hcr ⊢
  have nDd:d≠D:=Zg hf hD
  have lK:(Zam n g).length=(Zv n n).length:=by unfold Zam;rw[Qa]
  have l144:=Zed n12
  refine Zgt (fun j ys σ H4=>(∃v1 v2 v3:Option V,σ=[some (.ref d),some (.int ((wy:Int)-1)),some (.ref c),some (.int (2+(i:Int))),v1,v2,v3])∧ys=((Zv n n).take j).map (fun p=>(q2 p,V.int (Z2 g (i+1) p.1 p.2)))∧H4 D=some (.dT ys)∧j≤(Zv n n).length∧Zn H3 H4) ⟨⟨none,none,none,rfl⟩,rfl,Zb,Qm _,Zc hD _⟩ (fun _ _ _ _ h=>h.2.2.2.2 _ _ hf) ?_ ?_
  ·rintro j ks x ys σ H4 p b hj ⟨⟨v1,v2,v3,rfl⟩,rfl,hD4,_,s4⟩ hp hb
   unfold Zam at hj
   rw[Qt]at hj
   cases hpj:(Zv n n)[j]? with
   | none=>rw[hpj]at hj;cases hj
   | some pr =>
   rw[hpj]at hj
   cases hj
   obtain⟨x,y⟩:=pr
   have hjl:=(Qi.mp hpj).1
   obtain⟨hxy,hyn⟩:=Zba.mp (QB hpj)
   have s5:=Zc hp (.tup [.ref b,.int (g x y)])
   have f5:(upd H4 p (.tup [.ref b,.int (g x y)])) p=some (.tup [.ref b,.int (g x y)]):=Zb
   generalize upd H4 p (.tup [.ref b,.int (g x y)])=H5 at s5 f5 ⊢
   have hb5:=s5 _ _ hb
   refine⟨p,_,rfl,SqT.of f5,rfl,_,_,rfl,b,_,rfl,SqT.of hb5,rfl,_,_,rfl,_,_,rfl,rfl,_,_,rfl,rfl,?_⟩
   refine⟨_,rfl,_,rfl,(by show 2≤sizeLine;decide),fun kp hkp=>?_⟩
   have s6:=Zc hkp (.tup ((q2 (x,y)).map kV))
   have f6:(upd H5 kp (.tup ((q2 (x,y)).map kV))) kp=some (.tup ((q2 (x,y)).map kV)):=Zb
   refine⟨_,rfl,(by show 1≤sizeLine;decide),fun l1 hl1=>?_⟩
   change (upd H5 kp (.tup ((q2 (x,y)).map kV))) l1=none at hl1
   have s7:=Zc hl1 (.lst [.int (g x y)])
   have f7:(upd (upd H5 kp (.tup ((q2 (x,y)).map kV))) l1 (.lst [.int (g x y)])) l1=some (.lst [.int (g x y)]):=Zb
   have f67:=s7 _ _ f6
   have s37:Zn H3 (upd (upd H5 kp (.tup ((q2 (x,y)).map kV))) l1 (.lst [.int (g x y)])):=fun z o hz=>s7 _ _ (s6 _ _ (s5 _ _ (s4 z o hz)))
   have hD7:=s7 _ _ (s6 _ _ (s5 _ _ hD4))
   change Zic Zk9 [] E0 _ _ (upd (upd H5 kp (.tup ((q2 (x,y)).map kV))) l1 (.lst [.int (g x y)])) _
   generalize upd (upd H5 kp (.tup ((q2 (x,y)).map kV))) l1 (.lst [.int (g x y)])=H7 at s7 f7 f67 s37 hD7 ⊢
   refine⟨_,rfl,_,rfl,_,rfl,_,rfl,d,c,_,_,x,y,g,Z2 g i,rfl,Zdo (.inr ⟨o,hf⟩) s37,Zdo hcr s37,hxy,by omega,fun m m1 m2=>⟨ZcA g m1 (by omega),ZcA (Z2 g i) m2 hyn⟩,fun r H8 hr hr8 s8=>?_⟩
   refine⟨l1,r,_,_,rfl,rfl,s8 _ _ f7,hr8,by rw[Qa];unfold psF;rw[Qa,Zep,Qh,sizeLine_eq];omega,fun p3 hp3=>?_⟩
   have s9:=Zc hp3 (.lst ([.int (g x y)]++(psF g (Z2 g i) x y).map V.int))
   have f9:(upd H8 p3 (.lst ([.int (g x y)]++(psF g (Z2 g i) x y).map V.int))) p3=some (.lst ((g x y::psF g (Z2 g i) x y).map V.int)):=Zb
   generalize upd H8 p3 (.lst ([.int (g x y)]++(psF g (Z2 g i) x y).map V.int))=H9 at s9 f9 ⊢
   refine⟨p3,_,rfl,SqL.of f9,by simp,fun M hM hle=>?_⟩
   have eM:M=Z2 g (i+1) x y:=Zdl hM hle
   subst eM
   have hD9:=s9 _ _ (s8 _ _ hD7)
   refine⟨kp,q2 (x,y),rfl,hD9,s9 _ _ (s8 _ _ f67),Zev (g:=Z2 g (i+1)) (Zf7 hpj),by rw[Qa,Qk,sizeLine_eq];omega,⟨_,_,_,rfl⟩,(ZgG hpj).symm,Zb,hjl,fun z u hz=>?_⟩
   rw[Zi (Zg hz hD)]
   exact s9 _ _ (s8 _ _ (s37 z u hz))
  ·rintro ys σ H4 ⟨⟨v1,v2,v3,rfl⟩,rfl,hD4,_,s4⟩
   rw[lK,Qn (Qd _)]at hD4
   have hf4:=s4 _ _ hf
   refine⟨o,hf4,D,_,rfl,by rw[Zi nDd.symm];exact hD4,fun z u hz=>?_⟩
   have hz2:=s2 z u hz
   by_cases e:z=d
   ·subst e
    rw[hd]at hz
    cases hz
    exact Zb
   ·rw[Zi e];exact s4 _ _ (hds z u hz2 e)
 ·rintro σ H2 ⟨c,v,rfl,hc,s2⟩
  exact⟨_,rfl,q c H2 hc s2⟩
def Zkv(K:PySem.W.Frag):Sp:=fun vs H Q _=>∃ (a d c:Addr) (ns:List Int) (wy b e:Nat) (g:Nat→Nat→Int),vs=[.ref a,.ref d,.ref c,.int b,.int e]∧SqL K H a (ns.map V.int)∧ns.length≤12∧(∀v∈ns,0≤v∧v≤1000000000)∧H d=some (.dT (Zam ns.length g))∧H c=some (.dT (Zam ns.length (Z2 g (wy-2))))∧b<e∧e≤ns.length ∧
 ∀ (H':Hp),Zn H H'→Q (.int (ZbZ ns g wy b e)) H'
theorem Zig{ns:List Int}{b e:Nat}(hb:b≤e)(he:e≤ns.length):ZY (ns.map V.int) (some (b:Int)) (some (e:Int))=((ns.drop b).take (e-b)).map V.int:=by
 unfold ZY
 rw[HT.sIx_nat,HT.sIx_nat,Qa,Nat.min_eq_left (by omega),Nat.min_eq_left (by omega),List.map_take,List.map_drop]
theorem ZlB(T:Zat K mg)(f_part_sums:Df P w K mg base 1 "part_sums" ["priced", "cut", "begin", "end"] Zk9):Df P w K mg base 2 "most_price" ["sizes", "priced", "cut", "begin", "end"] (Zkv K):=by
 refine T.t_most_price.df ZeU (fun vs H Q E h=>?_) (fun cdv f A outer s H vs Q E hr h=>?_)
 ·obtain⟨a,d,c,ns,wy,b,e,g,rfl,_⟩:=h
  rfl
 obtain⟨a,d,c,ns,wy,b,e,g,rfl,hS,n12,hns,hd,hc,hbe,he,q⟩:=h
 refine⟨_,#[Zf,#[Z0,#[Zy,Zd2,#[Zm,Za2,‹4›,‹3›],#[Ze],(ZD _)],#[Zj,#[Zo,#[Ze]]],#[ZK]],#[Zj,#[Zo,#[Zm,ZG,#[Zk,(ZlT K),(by rfl),T.b.n_sum,boot_sum,#[Za,#[ZF,(slL K),‹0›,#[Zz,‹3›],#[Zz,‹4›]],#[Zd]]],#[Zk,(ZnP K),(by rfl),T.b.n_min,boot_min,#[Za,#[Zu,f_part_sums,hr,#[Za,‹1›,#[Za,‹2›,#[Za,‹3›,#[Za,‹4›,#[Zd]]]]],(by rfl)],#[Zd]]]]]]],?_⟩
 unfold ZbZ at q
 refine⟨_,rfl,_,rfl,_,_,rfl,rfl,rfl,_,rfl,ZcD (fun h1=>?_) (fun h1=>?_)⟩
 ·have h1:=of_decide_eq_true h1
  have h1:(e:Int)-(b:Int)=1:=by injection h1
  have:=q H (Zn.refl H)
  rw[if_pos (by omega)]at this
  exact this
 ·have h1:¬ e-b=1:=fun z=>h1 (decide_eq_true (by show V.int ((e:Int)-(b:Int))=V.int 1;rw[show (e:Int)-(b:Int)=1 by omega]))
  refine⟨_,rfl,_,rfl,_,rfl,_,rfl,_,rfl,a,_,rfl,hS,fun sl hsl=>?_⟩
  have s2:=Zc hsl (.lst (ZY (ns.map V.int) (some (b:Int)) (some (e:Int))))
  have f2:(upd H sl (.lst (ZY (ns.map V.int) (some (b:Int)) (some (e:Int))))) sl=some (.lst (ZY (ns.map V.int) (some (b:Int)) (some (e:Int)))):=Zb
  generalize upd H sl (.lst (ZY (ns.map V.int) (some (b:Int)) (some (e:Int))))=H2 at s2 f2 ⊢
  rw[Zig (by omega) he]at f2
  refine⟨sl,_,rfl,SqL.of f2,by rw[Qk,QA];omega,fun v hv=>?_,?_⟩
  ·have:=hns v (QW (QO hv));omega
  refine⟨_,rfl,_,rfl,_,rfl,_,rfl,d,c,_,_,b,e,g,Z2 g (wy-2),rfl,.inl (s2 _ _ hd),.inl (s2 _ _ hc),hbe,by omega,fun m m1 m2=>⟨ZcA g m1 (by omega),ZcA (Z2 g (wy-2)) m2 he⟩,fun r H3 hr hr3 s3=>?_⟩
  have hne:psF g (Z2 g (wy-2)) b e≠[]:=by
   have:g b (b+1)+Z2 g (wy-2) (b+1) e∈psF g (Z2 g (wy-2)) b e:=Qz.mpr ⟨b+1,ZaH.mpr ⟨by omega,by omega⟩,rfl⟩
   exact fun z=>by rw[z]at this;cases this
  refine⟨r,_,rfl,SqL.of hr3,Qai.mpr hne,fun M hM hle=>⟨_,_,rfl,rfl,?_⟩⟩
  have:=q H3 (s2.trans s3)
  rw[if_neg h1,← Zdl hM hle]at this
  exact this
mutual
theorem ZeD(w:Nat):∀d:PyData,okD w d→∃t:PT,toD t=d∧tPl w t∧lvD d=tLv t
 | .int k,_=>⟨.leaf k,rfl,trivial,rfl⟩
 | .tuple l,h=>by
  obtain⟨a,b,c⟩:=(show 2≤l.length∧l.length≤w∧Zby w l from h)
  obtain⟨ts,e,p,v,n⟩:=Zfd w l c
  exact⟨.node ts,by show PyData.tuple (Zad ts)=_;rw[e],⟨by omega,by omega,p⟩,v⟩
 | .none,h=>(show False from h).elim
 | .bool _,h=>(show False from h).elim
 | .str _,h=>(show False from h).elim
 | .list _,h=>(show False from h).elim
 | .dict _,h=>(show False from h).elim
theorem Zfd(w:Nat):∀l:List PyData,Zby w l→∃ts:List PT,Zad ts=l∧Zcz w ts∧Zbm l=ZaO ts∧ts.length=l.length
 | [],_=>⟨[],rfl,trivial,rfl,rfl⟩
 | d::r,h=>by
  obtain⟨a,b⟩:=(show okD w d∧Zby w r from h)
  obtain⟨t,e1,p1,v1⟩:=ZeD w d a
  obtain⟨ts,e2,p2,v2,n⟩:=Zfd w r b
  refine⟨t::ts,by show toD t::Zad ts=_;rw[e1,e2],⟨p1,p2⟩,?_,by rw[QD,QD,n]⟩
  show lvD d++Zbm r=tLv t++ZaO ts
  rw[v1,v2]
end
mutual
theorem TV.of_dh{H:Hp}:∀ (t:PT) {x:V},DH H x (toD t)→TV H x t
 | .leaf k,_,h=>by
  have h:DH H _ (.int k):=h
  cases h
  exact .leaf k
 | .node l,_,h=>by
  have h:DH H _ (.tuple (Zad l)):=h
  cases h with
  | tup ha hs=>exact .node ha (TVs.of_dh l hs)
theorem TVs.of_dh{H:Hp}:∀ (l:List PT) {xs:List V},DHs H xs (Zad l)→TVs H xs l
 | [],_,h=>by
  have h:DHs H _ []:=h
  cases h
  exact .nil
 | t::r,_,h=>by
  have h:DHs H _ (toD t::Zad r):=h
  cases h with
  | cons ha hs=>exact .cons (TV.of_dh t ha) (TVs.of_dh r hs)
end
def ZbR:PyData→Bool
 | .tuple [a,b,c]=>ZS a&&(ZS b&&ZS c)
 | _=>false
theorem ZhM{ds:List PyData}(h:ds.length≠3):ZbR (.tuple ds)=false:=by
 match ds,h with
 | [],_=>rfl
 | [_],_=>rfl
 | [_,_],_=>rfl
 | [_,_,_],h=>exact absurd rfl h
 | _::_::_::_::_,_=>rfl
theorem Zgw{d:PyData}(h:Zcn d=false):ZbR d=false:=by
 cases d with
 | tuple l=>cases h
 | _=>rfl
def Ze0:Sp:=fun vs H Q _=>∃ (x:V) (d:PyData),vs=[x]∧DH H x d∧Q (.bl (ZbR d)) H
theorem Zg3(T:Zat K mg)(f_is_number:Df P w K mg base 1 "is_number" ["thing"] Zg2):Df P w K mg base 2 "is_triple" ["thing"] Ze0:=by
 refine T.t_is_triple.df ZfP (fun vs H Q E h=>?_) (fun cdv f A outer s H vs Q E hr h=>?_)
 ·obtain⟨x,d,rfl,_⟩:=h
  rfl
 obtain⟨x,d,rfl,hd,q⟩:=h
 refine⟨_,#[Zf,#[Z0,(@PW.pt _ _ _ #[ZcN,#[Za9,#[Zak,#[Zk,(Zcy K),(by rfl),T.b.n_isinstance,boot_isinstance,#[Za,‹0›,#[Za,#[Zbg,T.b.n_tuple,boot_tuple,(by rfl)],#[Zd]]]]]],#[Zcv,#[Zy,Zgq,#[Zk,(ZaY K),(by rfl),T.b.n_len,Qw,#[Za,‹0›,#[Zd]]],#[Ze],(ZD _)]]]),#[Zj,#[Zo,#[Zag]]],#[ZK]],#[Zj,#[Zo,#[Zdb,#[Zu,f_is_number,hr,#[Za,#[ZJ,(ixT K),‹0›,#[Ze]],#[Zd]],(by rfl)],#[Zdb,#[Zu,f_is_number,hr,#[Za,#[ZJ,(ixT K),‹0›,#[Ze]],#[Zd]],(by rfl)],(@ZdP _ _ _ _ _ #[Zu,f_is_number,hr,#[Za,#[ZJ,(ixT K),‹0›,#[Ze]],#[Zd]],(by rfl)])]]]]],?_⟩
 refine⟨_,rfl,_, "tuple",_,_,rfl,hd.ty,hd.kT K,_,rfl,?_⟩
 cases hT:Zcn d with
 | false=>rw[Zgw hT]at q;exact Z9 (Z9 q)
 | true =>
  obtain⟨p,xs,ds,rfl,rfl,hp,hs⟩:=hd.tup_inv hT
  have hl:=hs.length
  refine ZaG ⟨_,rfl,p,_,rfl,.inr (SqT.of hp),rfl,_,rfl,?_⟩
  by_cases h3:ds.length=3
  ·match ds,xs,hs,h3 with
   | [a,b,c],[x,y,z],.cons h1 (.cons h2 (.cons h3' .nil)),_ =>
    refine Zfe rfl ?_
    refine⟨_,rfl,p,_,0,_,rfl,rfl,SqT.of hp,rfl,x,a,rfl,h1,_,rfl,?_⟩
    have q:Q (.bl (ZS a&&(ZS b&&ZS c))) H:=q
    cases ea:ZS a with
    | false=>rw[ea]at q;exact ZaG q
    | true =>
     rw[ea,Bool.true_and]at q
     refine Z9 ⟨_,rfl,p,_,1,_,rfl,rfl,SqT.of hp,rfl,y,b,rfl,h2,_,rfl,?_⟩
     cases eb:ZS b with
     | false=>rw[eb]at q;exact ZaG q
     | true =>
      rw[eb,Bool.true_and]at q
      exact Z9 ⟨_,rfl,p,_,2,_,rfl,rfl,SqT.of hp,rfl,z,c,rfl,h3',q⟩
  ·rw[ZhM h3]at q
   have e:(!decide (V.int ((xs.length:Nat):Int)=V.int 3))=true:=by
    rw[decide_eq_false]
    ·rfl
    ·intro z
     injection z with z
     omega
   rw[e]
   exact Z9 q
theorem ZdA{H:Hp}:∀ {xs:List V} {ds:List PyData},DHs H xs ds→(∀d∈ds,ZbR d=true)→∃ (ts:ZaF) (rows:List (Int×Int×Int)),xs=Zl ts∧AtT H ts∧ts.map (·.2)=rows.map q3∧ds=rows.map fun e=>tD (q3 e)
 | _,_,.nil,_=>⟨[],[],rfl,(fun t h=>by cases h),rfl,rfl⟩
 | _,_,.cons (x:=x) (d:=d) hd hs,h=>by
  obtain⟨ts,rows,e1,e2,e3,e4⟩:=ZdA hs fun y hy=>h y (Ql _ hy)
  have ht:=h d (Qu ..)
  cases hd with
  | tup ha hs' =>
   rename_i a ys es
   match es,ht,hs' with
   | [u,v,z],ht,.cons h1 (.cons h2 (.cons h3 .nil)) =>
    have ht:(ZS u&&(ZS v&&ZS z))=true:=ht
    rw[Qaj,Qaj]at ht
    obtain⟨i1,rfl,rfl⟩:=h1.int_inv ht.1
    obtain⟨i2,rfl,rfl⟩:=h2.int_inv ht.2.1
    obtain⟨i3,rfl,rfl⟩:=h3.int_inv ht.2.2
    refine⟨(a,q3 (i1,i2,i3))::ts,(i1,i2,i3)::rows,by rw[e1];rfl,fun t hm=>?_,by rw[QE,QE,e3],by rw[QE,e4];rfl⟩
    rcases QK.mp hm with rfl|hm
    ·exact ha
    ·exact e2 t hm
   | [],ht,_=>cases ht
   | [_],ht,_=>cases ht
   | [_,_],ht,_=>cases ht
   | _::_::_::_::_,ht,_=>cases ht
  | non=>cases ht
  | bl b=>cases ht
  | int i=>cases ht
  | str z=>cases ht
  | lst _ _=>cases ht
def k2e(e:Int×Int×Int):List Key:=[.inl e.1,.inl e.2.1]
def ZfQ(n:Nat)(d:PyData):Prop:=∃rows:List (Int×Int×Int),d=.list (rows.map fun e=>tD (q3 e))∧rows.map k2e=(Zv n n).map q2
theorem Zhj(e:Int×Int×Int):ZbR (tD (q3 e))=true:=rfl
theorem Zfj{H:Hp}{ts:ZaF}{rows:List (Int×Int×Int)}(h:ts.map (·.2)=rows.map q3)(hat:AtT H ts){i:Nat}{x:V}(hx:(Zl ts)[i]? = some x):∃ (p:Addr) (e:Int×Int×Int),x=.ref p∧H p=some (.tup [.int e.1,.int e.2.1,.int e.2.2])∧rows[i]? = some e:=by
 unfold Zl at hx
 rw[Qt]at hx
 cases ht:ts[i]? with
 | none=>rw[ht]at hx;cases hx
 | some t =>
  rw[ht]at hx
  injection hx with hx
  have h1:=congrArg (fun l:List (List Key)=>l[i]?) h
  simp only[List.getElem?_map,ht,Option.map_some]at h1
  cases hr:rows[i]? with
  | none=>rw[hr]at h1;cases h1
  | some e =>
   rw[hr]at h1
   injection h1 with h1
   have:=hat t (QB ht)
   rw[h1]at this
   exact⟨t.1,e,hx.symm,this,rfl⟩
theorem ZkF:∀l:List (List Key),(∀k∈l,∃i j:Int,k=[.inl i,.inl j])→PyData.canLayAll0 (l.map tD)=true∧PyData.depthAll (l.map tD)≤1
 | [],_=>⟨rfl,Qm _⟩
 | k::r,h=>by
  obtain⟨a,b⟩:=ZkF r fun x hx=>h x (Ql _ hx)
  obtain⟨i,j,rfl⟩:=h k (Qu ..)
  refine⟨?_,?_⟩
  ·rw[QE]
   simp only[PyData.canLayAll0,a]
   simp[tD,ZgY,PyData.canLay0,PyData.canLayAll0]
  ·rw[QE]
   have h1:(tD [.inl i,.inl j]).depth≤1:=by simp[tD,ZgY,PyData.depth,PyData.depthAll]
   simp only[PyData.depthAll]
   omega
theorem Zc1{l:List (List Key)}(h:∀k∈l,∃i j:Int,k=[.inl i,.inl j]):SeqAt.shaped (.list (l.map tD))=true:=by
 obtain⟨a,b⟩:=ZkF l h
 simp[SeqAt.shaped,PyData.canLay0,PyData.depth,a]
 omega
theorem Zfx:∀ {l m:List (List Key)},(∀k∈l,∃i j:Int,k=[.inl i,.inl j])→(∀k∈m,∃i j:Int,k=[.inl i,.inl j])→(PyData.eqv (.list (l.map tD)) (.list (m.map tD))=true↔l=m)
 | [],[],_,_=>⟨fun _=>rfl,fun _=>by ac_rfl⟩
 | [],_::_,_,_=>⟨fun z=>by simp[PyData.eqv,PyData.eqvAll]at z,fun z=>by cases z⟩
 | _::_,[],_,_=>⟨fun z=>by simp[PyData.eqv,PyData.eqvAll]at z,fun z=>by cases z⟩
 | k::r,k'::r',h,h'=>by
  have ih:=Zfx (l:=r) (m:=r') (fun x hx=>h x (Ql _ hx)) fun x hx=>h' x (Ql _ hx)
  obtain⟨i,j,rfl⟩:=h k (Qu ..)
  obtain⟨i',j',rfl⟩:=h' k' (Qu ..)
  simp[PyData.eqv,PyData.eqvAll,tD,ZgY]at ih ⊢
  rw[ih]
  exact fun _ _=>Iff.rfl
theorem ZdB(rows:List (Int×Int×Int)):∀k∈rows.map k2e,∃i j:Int,k=[.inl i,.inl j]:=fun k hk=>by
 obtain⟨e,_,rfl⟩:=Qz.mp hk
 exact⟨_,_,rfl⟩
theorem Zds(n:Nat):∀k∈(Zv n n).map q2,∃i j:Int,k=[.inl i,.inl j]:=fun k hk=>by
 obtain⟨e,_,rfl⟩:=Qz.mp hk
 exact⟨_,_,rfl⟩
def Zjx(K:PySem.W.Frag):Sp:=fun vs H Q _=>∃ (x:V) (n:Nat) (d:PyData),vs=[.int n,x]∧n≤12∧DH H x d∧d.weight≤100000 ∧
 ∀ (b:Bool) (H':Hp),(b=true↔ZfQ n d)→Zn H H'→Q (.bl b) H'
theorem Zl6(T:Zat K mg)(f_is_triple:Df P w K mg base 2 "is_triple" ["thing"] Ze0)(f_stretches_of:Df P w K mg base 1 "stretches_of" ["many"] ZjY):Df P w K mg base 3 "are_prices" ["many", "thing"] (Zjx K):=by
 refine T.t_are_prices.df Zc7 (fun vs H Q E h=>?_) (fun cdv f A outer s H vs Q E hr h=>?_)
 ·obtain⟨x,n,d,rfl,_⟩:=h
  rfl
 obtain⟨x,n,d,rfl,n12,hd,hw,q⟩:=h
 refine⟨_,#[Zf,#[Z0,#[Za9,#[Zak,#[Zk,(Zcy K),(by rfl),T.b.n_isinstance,boot_isinstance,#[Za,‹1›,#[Za,#[Zbg,T.b.n_list,boot_list,(by rfl)],#[Zd]]]]]],#[Zj,#[Zo,#[Zag]]],#[ZK]],#[Zf,#[ZaJ,PassesOwn.never,#[iL,K,‹1›],#[ZB,2,Zc7.nd,(Or.inl rfl)],#[Zj,#[Z0,#[Za9,#[Zak,#[Zu,f_is_triple,hr,#[Za,‹2›,#[Zd]],(by rfl)]]],#[Zj,#[Zo,#[Zag]]],#[ZK]]]],#[Zj,#[Zo,#[Zcm,(@eqD _ K _ hr (by rfl)),#[ZaD,ZiG,#[iL,K,‹1›],(fun _ _ _ _=>#[gT,K,3,#[ZA,#[cg,3,ZiG],#[ZA,#[cg,4,ZiG],#[ZA,#[cg,5,ZiG],(@ZaP _)]]]]),(fun _ _ _ _=>(@ZaE _)),(fun _ _ _ _=>#[Zx,#[Za,#[cw,3,ZiG],#[Za,#[cw,4,ZiG],#[Zd]]]])],#[Zu,f_stretches_of,hr,#[Za,‹0›,#[Zd]],(by rfl)],(ZD _)]]]]],?_⟩
 refine⟨_,rfl,_, "list",_,_,rfl,hd.ty,hd.kL K,_,rfl,?_⟩
 cases hT:ZfJ d with
 | false =>
  refine Z9 (q false H ⟨fun z=>(by cases z),fun ⟨rows,e,_⟩=>?_⟩ (Zn.refl H))
  rw[e]at hT
  cases hT
 | true =>
  obtain⟨r,xs,ds,rfl,rfl,hr0,hs⟩:=hd.lst_inv hT
  refine ZaG ⟨_,rfl,r,rfl,⟨_,SqL.of hr0⟩,?_⟩
  refine ZcO (K:=K) (a:=r) (xs:=xs) (fun i σ H2=>(∃v:Option V,σ=[some (.int n),some (.ref r),v])∧Zn H H2∧∀j,j<i→∀d,ds[j]? = some d→ZbR d=true) ⟨⟨none,rfl⟩,Zn.refl H,fun j hj=>by omega⟩ (fun _ _ _ _ h=>SqL.of (h.2.1 _ _ hr0)) ?_ ?_
  ·rintro i x σ H2 hx ⟨⟨v,rfl⟩,s2,hj⟩
   obtain⟨d,hdi,hdx⟩:=hs.get hx
   refine⟨_,rfl,x,d,rfl,hdx.mono s2,_,rfl,?_⟩
   cases et:ZbR d with
   | true =>
    refine ZaG ⟨⟨_,rfl⟩,s2,fun j hj' d' hd'=>?_⟩
    rcases Nat.lt_succ_iff_lt_or_eq.mp hj' with hj'|rfl
    ·exact hj j hj' d' hd'
    ·rw[hdi]at hd';injection hd' with hd';rw[← hd'];exact et
   | false =>
    refine Z9 (q false H2 ⟨fun z=>(by cases z),fun ⟨rows,e,_⟩=>?_⟩ s2)
    injection e with e
    rw[e,Qt]at hdi
    cases er:rows[i]? with
    | none=>rw[er]at hdi;cases hdi
    | some u =>
     rw[er]at hdi
     injection hdi with hdi
     rw[← hdi,Zhj]at et
     cases et
  ·rintro σ H2 ⟨⟨v,rfl⟩,s2,hj⟩
   obtain⟨ts,rows,rfl,hat,hE,ed⟩:=ZdA hs fun d hd=>by
    obtain⟨i,hi,e⟩:=Qax hd
    exact hj i (by rw[hs.length];exact hi) d (by rw[Qc hi,e])
   have hr2:=s2 _ _ hr0
   have lts:ts.length≤100000:=by
    have h9:=ZdL ds
    have h8:=hs.length
    rw[ZV]at h8
    have:(PyData.list ds).weight=PyData.weightAll ds:=rfl
    omega
   have lrw:ts.length=rows.length:=by have:=congrArg List.length hE;simpa using this
   refine⟨_,rfl,r,rfl,⟨_,SqL.of hr2⟩,fun D hD=>?_⟩
   refine Zbp (K:=K) (a:=r) (xs:=Zl ts) (fun i ys σ H3=>(∃v1 v2 v3 v4:Option V,σ=[some (.int n),some (.ref r),v1,v2,v3,v4])∧(∃us:ZaF,ys=Zl us∧AtT H3 us∧us.map (·.2)=(rows.take i).map k2e)∧i≤ts.length∧H3 D=some (.lst ys)∧Zn H2 H3) ⟨⟨_,none,none,none,rfl⟩,⟨[],rfl,(fun t h=>by cases h),rfl⟩,Qm _,Zb,Zc hD _⟩ (fun _ _ _ _ h=>SqL.of (h.2.2.2.2 _ _ hr2)) ?_ ?_
   ·rintro i x ys σ H3 hx ⟨⟨v1,v2,v3,v4,rfl⟩,⟨us,rfl,hau,hEu⟩,_,hD3,s3⟩
    obtain⟨p,e,rfl,hp,hbe⟩:=Zfj hE hat hx
    have hil:i<ts.length:=by have:=(Qi.mp hbe).1;omega
    have hul:us.length≤100000:=by
     have:=congrArg List.length hEu
     rw[Qa,Qa,Qk]at this
     omega
    refine⟨p,_,rfl,SqT.of (s3 _ _ (s2 _ _ hp)),rfl,_,_,rfl,_,_,rfl,_,_,rfl,rfl,?_⟩
    refine⟨_,rfl,_,rfl,(by show 2≤sizeLine;decide),fun m hm=>?_⟩
    have sn:=Zc hm (.tup [.int e.1,.int e.2.1])
    have hD5:=sn _ _ hD3
    have nDn:D≠m:=Zg hD3 hm
    refine⟨hD5,(by rw[ZV,sizeLine_eq];omega),⟨_,_,_,_,rfl⟩,⟨us++[(m,k2e e)],by unfold Zl;rw[Qf];rfl,fun t ht=>?_,?_⟩,hil,Zb,fun b' o hb=>?_⟩
    ·rcases Qr.mp ht with ht|ht
     ·exact Zaa hD5 _ _ _ (sn _ _ (hau t ht))
     ·rw[Qg.mp ht,Zi nDn.symm];exact Zb
    ·rw[Qf,hEu,Qv,hbe,Qf];rfl
    ·rw[Zi (Zg hb hD)];exact sn _ _ (s3 b' o hb)
   ·rintro ys σ H3 ⟨⟨v1,v2,v3,v4,rfl⟩,⟨us,rfl,hau,hEu⟩,_,hD3,s3⟩
    rw[ZV,lrw,Qn (Qd _)]at hEu
    refine⟨_,rfl,n,rfl,n12,fun so ws H4 hso hs4 haw hEw s4=>?_⟩
    have d1:us.map (fun t=>tD t.2)=(rows.map k2e).map tD:=by
     have:=congrArg (List.map tD) hEu
     rw[Q0]at this;exact this
    have d2:ws.map (fun t=>tD t.2)=((Zv n n).map q2).map tD:=by
     have:=congrArg (List.map tD) hEw
     rw[Q0]at this;exact this
    have v1':=ZdE (K:=K) us (AtT.mono hau s4)
    have v2':=ZdE (K:=K) ws haw
    rw[d1]at v1'
    rw[d2]at v2'
    refine⟨_,_,.lst (SqL.of (s4 _ _ hD3)) v1',.lst (SqL.of hs4) v2',Zc1 (ZdB rows),Zc1 (Zds n),?_⟩
    rw[if_neg Qj]
    refine q _ H4 ((Zfx (ZdB rows) (Zds n)).trans ⟨fun z=>⟨rows,by rw[ed],z⟩,fun ⟨rows',e',z'⟩=>?_⟩) ((s2.trans s3).trans s4)
    injection e' with e'
    rw[ed]at e'
    have inj:rows=rows':=List.map_inj_right (fun x y h=>by
     obtain⟨x1,x2,x3⟩:=x
     obtain⟨y1,y2,y3⟩:=y
     simp[tD,q3,ZgY]at h
     obtain⟨rfl,rfl,rfl⟩:=h
     rfl) |>.mp e'
    rw[inj];exact z'
theorem ZfG{n k:Nat}(h:n≤k):∀v∈Z6 0 n,0≤v∧v<(k:Int):=fun v hv=>by
 unfold Z6 at hv
 obtain⟨i,hi,rfl⟩:=Qz.mp hv
 have:=QJ.mp hi
 omega
def Zga(n wy:Nat)(d:PyData):Prop:=okD wy d∧lvD d=Z6 0 n
theorem ZjG(n:Nat):(Z6 0 n).Nodup:=by
 unfold Z6
 exact QaI.mpr (List.nodup_range.imp fun h g=>h (by omega))
theorem Zc4:∀l m:List Int,(PyData.eqv (.list (l.map PyData.int)) (.list (m.map PyData.int))=true↔l=m)
 | [],[]=>⟨fun _=>rfl,fun _=>by ac_rfl⟩
 | [],_::_=>⟨fun z=>by simp[PyData.eqv,PyData.eqvAll]at z,fun z=>by cases z⟩
 | _::_,[]=>⟨fun z=>by simp[PyData.eqv,PyData.eqvAll]at z,fun z=>by cases z⟩
 | i::r,j::r'=>by
  have ih:=Zc4 r r'
  simp[PyData.eqv,PyData.eqvAll]at ih ⊢
  rw[ih]
  exact fun _=>Iff.rfl
theorem Ze3:∀l:List Int,PyData.canLayAll0 (l.map PyData.int)=true∧PyData.depthAll (l.map PyData.int)=0
 | []=>⟨rfl,rfl⟩
 | i::r=>by
  obtain⟨a,b⟩:=Ze3 r
  refine⟨by simp[PyData.canLayAll0,PyData.canLay0,a],?_⟩
  show max 0 (PyData.depthAll (r.map PyData.int))=0
  omega
theorem ZbH(l:List Int):SeqAt.shaped (.list (l.map PyData.int))=true:=by
 obtain⟨a,b⟩:=Ze3 l
 simp[SeqAt.shaped,PyData.canLay0,PyData.depth,a]
 omega
def ZhZ(m:Nat):Sp:=fun vs H Q _=>∃ (a:Addr) (ns:List Int) (wy:Nat) (x:V) (d:PyData),vs=[.ref a,.int wy,x]∧H a=some (.lst (ns.map V.int))∧ns.length≤100∧DH H x d∧d.depth<m ∧
 ∀ (b:Bool) (H':Hp),(b=true↔Zga ns.length wy d)→Zn H H'→Q (.bl b) H'
theorem Zky(T:Zat K mg)(m:Nat)(f_finds_rows:Df P w K mg base (m+1) "finds_rows" ["sizes", "ways", "thing", "found"] (Znp m)):Df P w K mg base (m+2) "is_near" ["sizes", "ways", "thing"] (ZhZ m):=by
 refine T.t_is_near.df Zey (fun vs H Q E h=>?_) (fun cdv f A outer s H vs Q E hr h=>?_)
 ·obtain⟨a,ns,wy,x,d,rfl,_⟩:=h
  rfl
 obtain⟨a,ns,wy,x,d,rfl,hS,n12,hT,hdp,q⟩:=h
 refine⟨_,#[Zf,#[Zq,3,Zey.nd,(Or.inl rfl),#[ZH,#[Zd]]],#[Zj,#[Zo,#[Zdb,#[Zu,f_finds_rows,hr,#[Za,‹0›,#[Za,‹1›,#[Za,‹2›,#[Za,‹3›,#[Zd]]]]],(by rfl)],(@ZdP _ _ _ _ _ #[Zcm,(@eqD _ K _ hr (by rfl)),‹3›,#[ZR,ZhS,(by rfl),T.b.n_list,boot_list,#[Za,#[ZR,Zlo,(by rfl),T.b.n_range,boot_range,#[Za,#[Zk,(ZaY K),(by rfl),T.b.n_len,Qw,#[Za,‹0›,#[Zd]]],#[Zd]]],#[Zd]]],(ZD _)])]]]],?_⟩
 refine⟨(by show 0≤sizeLine;decide),fun fo hfo=>?_⟩
 have s1:=Zc hfo (.lst [])
 have naf:a≠fo:=Zg hS hfo
 have hls:(((ns.map V.int).length:Nat):Int)=(ns.length:Int):=by rw[Qa]
 have hoff:Zn H (off fo (upd H fo (.lst []))):=fun b o hb=>by
  have nb:=Zg hb hfo
  exact Zal (by rw[Zi nb];exact hb) nb
 refine⟨_,rfl,_,rfl,_,rfl,_,rfl,a,fo,ns,[],wy,x,d,rfl,s1 _ _ hS,Zb,naf,n12,hT.mono hoff,hdp,List.nodup_nil,(fun k hk=>by cases hk),fun bo fs2 H2 hF2 k2 nd2 in2 hbo he2=>⟨_,rfl,?_⟩⟩
 have s2:Zn H H2:=fun b o hb=>k2 b o (s1 b o hb) (Zg hb hfo)
 cases bo with
 | false =>
  refine ZaG (q false H2 ⟨fun z=>(by cases z),fun ⟨z1,z2⟩=>?_⟩ s2)
  have:=hbo.mpr ⟨z1,by rw[List.nil_append,z2];exact ZjG _,by rw[z2];exact ZfG (Qd _)⟩
  cases this
 | true =>
  obtain⟨y1,y2,y3⟩:=hbo.mp rfl
  have e2:=he2 rfl
  rw[List.nil_append]at e2
  subst e2
  refine Z9 ⟨_,rfl,_,rfl,a,_,rfl,.inl (SqL.of (s2 _ _ hS)),_,rfl,fun rg hrg=>?_⟩
  have s3:=Zc hrg (.rng 0 (((ns.map V.int).length:Nat):Int))
  refine⟨rg,0,_,rfl,Zb,by omega,by omega,by rw[hls];omega,by rw[hls];omega,by rw[hls];omega,fun l hl'=>?_⟩
  have s4:=Zc hl' (.lst ((Z6 0 ((((ns.map V.int).length:Nat):Int)-0).toNat).map V.int))
  have f4:(upd (upd H2 rg (.rng 0 (((ns.map V.int).length:Nat):Int))) l (.lst ((Z6 0 ((((ns.map V.int).length:Nat):Int)-0).toNat).map V.int))) l=some (.lst ((Z6 0 ((((ns.map V.int).length:Nat):Int)-0).toNat).map V.int)):=Zb
  have s24:=s3.trans s4
  generalize upd (upd H2 rg (.rng 0 (((ns.map V.int).length:Nat):Int))) l (.lst ((Z6 0 ((((ns.map V.int).length:Nat):Int)-0).toNat).map V.int))=H4 at f4 s24 ⊢
  rw[show ((((ns.map V.int).length:Nat):Int)-0).toNat=ns.length by rw[hls];omega]at f4
  refine⟨.list ((lvD d).map PyData.int),.list ((Z6 0 ns.length).map PyData.int),.lst (SqL.of (s24 _ _ hF2)) (ZbP _),.lst (SqL.of f4) (ZbP _),ZbH _,ZbH _,?_⟩
  rw[if_neg Qj]
  exact q _ H4 ((Zc4 _ _).trans ⟨fun z=>⟨y1,z⟩,fun z=>z.2⟩) (s2.trans s24)
theorem Zes:∀ {S:List (Nat×Nat)} {rows:List (Int×Int×Int)},S.Nodup→rows.map k2e=S.map q2→∃g:Nat→Nat→Int,rows=S.map (tri g)
 | [],[],_,_=>⟨fun _ _=>0,rfl⟩
 | [],_::_,_,h=>by cases h
 | _::_,[],_,h=>by cases h
 | p::S,e::rows,nd,h=>by
  rw[QE,QE]at h
  injection h with h1 h2
  obtain⟨n1,n2⟩:=QaA.mp nd
  obtain⟨g,hg⟩:=Zes n2 h2
  refine⟨fun b c=>if (b,c)=p then e.2.2 else g b c,?_⟩
  obtain⟨e1,e2,e3⟩:=e
  obtain⟨p1,p2⟩:=p
  have h1:([.inl e1,.inl e2]:List Key)=[.inl (p1:Int),.inl (p2:Int)]:=h1
  injection h1 with a b
  injection a with a
  injection b with b _
  injection b with b
  rw[QE]
  congr 1
  ·show (e1,e2,e3)=((p1:Int),(p2:Int),if (p1,p2)=(p1,p2) then e3 else g p1 p2)
   rw[if_pos rfl,a,b]
  ·rw[hg]
   refine Qah fun u hu=>?_
   show ((u.1:Int),(u.2:Int),g u.1 u.2)=((u.1:Int),(u.2:Int),if (u.1,u.2)=(p1,p2) then e3 else g u.1 u.2)
   rw[if_neg]
   intro z
   apply n1
   rw[← z];exact hu
def PrL(H:Hp)(r:Addr)(n:Nat)(g:Nat→Nat→Int):Prop:=∃ts:ZaF,H r=some (.lst (Zl ts))∧AtT H ts∧ts.map (·.2)=((Zv n n).map (tri g)).map q3
theorem PrL.same{H H':Hp}{r:Addr}{n:Nat}{g:Nat→Nat→Int}(h:PrL H r n g)(s:Zn H H'):PrL H' r n g:=by
 obtain⟨ts,a,b,c⟩:=h
 exact⟨ts,s _ _ a,AtT.mono b s,c⟩
theorem pr_len'{n:Nat}{g:Nat→Nat→Int}{ts:ZaF}(h:ts.map (·.2)=((Zv n n).map (tri g)).map q3):ts.length=(Zv n n).length:=by
 have:=congrArg List.length h
 simpa using this
theorem Zko{n:Nat}{g:Nat→Nat→Int}{ts:ZaF}{H:Hp}(h:ts.map (·.2)=((Zv n n).map (tri g)).map q3)(hat:AtT H ts){i:Nat}{x:V}(hx:(Zl ts)[i]? = some x):∃ (p:Addr) (b e:Nat),x=.ref p∧H p=some (.tup [.int b,.int e,.int (g b e)])∧(Zv n n)[i]? = some (b,e):=by
 unfold Zl at hx
 rw[Qt]at hx
 cases ht:ts[i]? with
 | none=>rw[ht]at hx;cases hx
 | some t =>
  rw[ht]at hx
  cases hx
  have h9:(ts.map (·.2))[i]? = some t.2:=by rw[Qt,ht];rfl
  rw[h,Qt,Qt]at h9
  cases hp:(Zv n n)[i]? with
  | none=>rw[hp]at h9;cases h9
  | some p =>
   rw[hp]at h9
   have h9:q3 (tri g p)=t.2:=QM h9
   have h8:=hat t (QB ht)
   rw[← h9]at h8
   exact⟨t.1,p.1,p.2,rfl,h8,rfl⟩
mutual
theorem Zib:∀t t':PT,toD t=toD t'→t=t'
 | .leaf k,.leaf j,h=>by
  have h:PyData.int k=.int j:=h
  injection h with h
  rw[h]
 | .leaf k,.node m,h=>by
  have h:PyData.int k=.tuple (Zad m):=h
  cases h
 | .node m,.leaf k,h=>by
  have h:PyData.tuple (Zad m)=.int k:=h
  cases h
 | .node l,.node m,h=>by
  have h:PyData.tuple (Zad l)=.tuple (Zad m):=h
  injection h with h
  rw[ZgT l m h]
theorem ZgT:∀l m:List PT,Zad l=Zad m→l=m
 | [],[],_=>rfl
 | [],u::s,h=>by
  have h:[]=toD u::Zad s:=h
  cases h
 | t::r,[],h=>by
  have h:toD t::Zad r=[]:=h
  cases h
 | t::r,u::s,h=>by
  have h:toD t::Zad r=toD u::Zad s:=h
  injection h with h1 h2
  rw[Zib t u h1,ZgT r s h2]
end
mutual
theorem Zkz(w:Nat):∀t:PT,tPl w t→okD w (toD t)∧lvD (toD t)=tLv t
 | .leaf k,_=>⟨trivial,rfl⟩
 | .node l,h=>by
  obtain⟨a,b,c⟩:=(show 2≤l.length∧l.length≤w∧Zcz w l from h)
  obtain⟨c1,c2,c3⟩:=Zh9 w l c
  exact⟨⟨by rw[c3];exact a,by rw[c3];exact b,c1⟩,c2⟩
theorem Zh9(w:Nat):∀l:List PT,Zcz w l→Zby w (Zad l)∧Zbm (Zad l)=ZaO l∧(Zad l).length=l.length
 | [],_=>⟨trivial,rfl,rfl⟩
 | t::r,h=>by
  obtain⟨a,b⟩:=(show tPl w t∧Zcz w r from h)
  obtain⟨a1,a2⟩:=Zkz w t a
  obtain⟨b1,b2,b3⟩:=Zh9 w r b
  refine⟨⟨a1,b1⟩,?_,?_⟩
  ·show lvD (toD t)++Zbm (Zad r)=tLv t++ZaO r
   rw[a2,b2]
  ·show (Zad r).length+1=r.length+1
   rw[b3]
end
theorem Zg0{ns:List Int}{g g':Nat→Nat→Int}{wy b e n:Nat}(h:∀x y,x<y→y≤n→g x y=g' x y)(hb:b<e)(he:e≤n):ZbZ ns g wy b e=ZbZ ns g' wy b e:=by
 unfold ZbZ
 rw[Zfk fun m a1 a2=>⟨h b m a1 (by omega),ZeF (wy-2) m e (fun x y x1 x2 x3=>h x y x2 (by omega)) a2⟩]
def ZcB(n:Nat)(g:Nat→Nat→Int):PyData:=.list ((Zv n n).map fun p=>tD (q3 (tri g p)))
theorem ZfV{e e':Int×Int×Int}(h:tD (q3 e)=tD (q3 e')):e=e':=by
 obtain⟨x1,x2,x3⟩:=e
 obtain⟨y1,y2,y3⟩:=e'
 simp[tD,q3,ZgY]at h
 obtain⟨rfl,rfl,rfl⟩:=h
 rfl
theorem ZjN{n:Nat}{g g':Nat→Nat→Int}(h:ZcB n g=ZcB n g'):∀x y,x<y→y≤n→g x y=g' x y:=fun x y h1 h2=>by
 have h:PyData.list ((Zv n n).map fun p=>tD (q3 (tri g p)))=.list ((Zv n n).map fun p=>tD (q3 (tri g' p))):=h
 injection h with h
 have h3:=List.map_inj_left.mp h (x,y) (Zba.mpr ⟨h1,h2⟩)
 have h4:=congrArg (fun e:Int×Int×Int=>e.2.2) (ZfV h3)
 exact h4
def Zms(ns:List Int)(wy:Nat)(t:PT)(g:Nat→Nat→Int):Prop:=g 0 ns.length=tCo ns t∧∀x y,x<y→y≤ns.length→g x y≤ZbZ ns g wy x y
def Zda(ns:List Int)(wy:Nat)(d e:PyData):Prop:=∃ (t:PT) (g:Nat→Nat→Int),d=toD t∧tPl wy t∧tLv t=Z6 0 ns.length∧e=ZcB ns.length g∧Zms ns wy t g
theorem Ze6{ns:List Int}{wy:Nat}{d e:PyData}{t:PT}{g:Nat→Nat→Int}(n1:1≤ns.length)(e1:d=toD t)(h2:tPl wy t)(h3:tLv t=Z6 0 ns.length)(e4:e=ZcB ns.length g):Zda ns wy d e↔Zms ns wy t g:=by
 constructor
 ·rintro⟨t',g',e1',_,_,e4',c1,c2⟩
  have et:t=t':=Zib _ _ (e1.symm.trans e1')
  subst et
  have eg:=ZjN (e4.symm.trans e4')
  refine⟨by rw[eg 0 _ (by omega) (Qd _)];exact c1,fun x y hx hy=>?_⟩
  rw[eg x y hx hy,Zg0 eg hx hy]
  exact c2 x y hx hy
 ·exact fun c=>⟨t,g,e1,h2,h3,e4,c⟩
theorem Zda.near{ns:List Int}{wy:Nat}{d e:PyData}(h:Zda ns wy d e):Zga ns.length wy d∧ZfQ ns.length e:=by
 obtain⟨t,g,rfl,h2,h3,rfl,_⟩:=h
 obtain⟨a,b⟩:=Zkz wy t h2
 refine⟨⟨a,b.trans h3⟩,(Zv ns.length ns.length).map (tri g),?_,?_⟩
 ·unfold ZcB
  rw[Q0];rfl
 ·rw[Q0];rfl
theorem Zi4{ns:List Int}{wy:Nat}{d:PyData}(h:Zga ns.length wy d):∃t,d=toD t∧tPl wy t∧tLv t=Z6 0 ns.length∧tOk ns.length t∧tDp t+1≤ns.length∧tNo t+1≤2*ns.length:=by
 obtain⟨h1,h2⟩:=h
 obtain⟨t,e,p,v⟩:=ZeD wy d h1
 rw[v]at h2
 obtain⟨⟨g1,g2⟩,g3⟩:=ZeY t p
 rw[h2,ZbQ]at g3
 refine⟨t,e.symm,p,h2,ZhV t fun k hk=>?_,by omega,by omega⟩
 rw[h2]at hk
 exact ZfG (Qd _) k hk
theorem Zhr{H:Hp}{n:Nat}{y:V}{e:PyData}(hy:DH H y e)(hp:ZfQ n e):∃ (r:Addr) (g:Nat→Nat→Int),y=.ref r∧PrL H r n g∧e=ZcB n g:=by
 obtain⟨rows,rfl,hk⟩:=hp
 obtain⟨r,xs,ds,rfl,ed,hr0,hs⟩:=hy.lst_inv rfl
 injection ed with ed
 subst ed
 obtain⟨ts,rows',rfl,hat,hE,ed⟩:=ZdA hs fun d hd=>by
  obtain⟨u,_,rfl⟩:=Qz.mp hd
  exact Zhj u
 have er:rows=rows':=List.map_inj_right (fun x y h=>ZfV h) |>.mp ed
 subst er
 obtain⟨g,hg⟩:=Zes (Zef n) hk
 refine⟨r,g,rfl,⟨ts,hr0,hat,by rw[hE,hg]⟩,?_⟩
 unfold ZcB
 rw[hg,Q0];rfl
def ZgC(m:Nat):Sp:=fun vs H Q _=>∃ (a:Addr) (ns:List Int) (wy:Nat) (x y:V) (d e:PyData),vs=[.ref a,.int wy,x,y]∧H a=some (.lst (ns.map V.int))∧1≤ns.length∧ns.length≤12∧(∀v∈ns,0≤v∧v≤1000000000)∧2≤wy∧wy≤6∧DH H x d∧d.depth<m∧DH H y e∧e.weight≤100000 ∧
 ∀ (b:Bool) (H':Hp),(b=true↔Zda ns wy d e)→Zn H H'→Q (.bl b) H'
theorem Zje(T:Zat K mg)(m:Nat)(f_is_near:Df P w K mg base (m+2) "is_near" ["sizes", "ways", "thing"] (ZhZ m))(f_are_prices:Df P w K mg base 3 "are_prices" ["many", "thing"] (Zjx K))(f_cost_of:Df P w K mg base 15 "cost_of" ["sizes", "tree"] (Zgo K 13))(f_cut_prices:Df P w K mg base 2 "cut_prices" ["priced", "most"] ZjT)(f_most_price:Df P w K mg base 2 "most_price" ["sizes", "priced", "cut", "begin", "end"] (Zkv K)):Df P w K mg base (m+16) "shows_near" ["sizes", "ways", "tree", "prices"] (ZgC m):=by
 refine T.t_shows_near.df Zaw (fun vs H Q E h=>?_) (fun cdv f A outer s H vs Q E hr h=>?_)
 ·obtain⟨a,ns,wy,x,y,d,e,rfl,_⟩:=h
  rfl
 obtain⟨a,ns,wy,x,y,d,e,rfl,hS,n1,n12,hns,w2,w6,hX,hdp,hY,hew,q⟩:=h
 refine⟨_,#[Zf,#[Z0,(@PW.pt _ _ _ #[ZcN,#[Za9,#[Zak,#[Zu,f_is_near,hr,#[Za,‹0›,#[Za,‹1›,#[Za,‹2›,#[Zd]]]],(by rfl)]]],#[Zcv,#[Za9,#[Zak,#[Zu,f_are_prices,hr,#[Za,#[Zk,(ZaY K),(by rfl),T.b.n_len,Qw,#[Za,‹0›,#[Zd]]],#[Za,‹3›,#[Zd]]],(by rfl)]]]]]),#[Zj,#[Zo,#[Zag]]],#[ZK]],#[Zf,(@ZgB _ _ _ _ _ 4 _ _ _ _ _ _ _ _ _ _ _ _ _ _ Zaw.nd rfl (Or.inl rfl) Zek rfl rfl rfl #[iL,K,‹3›] (fun _ _ _ _=>#[gT,K,3,#[ZA,#[cg,9,Zek],#[ZA,#[cg,10,Zek],#[ZA,#[cg,11,Zek],(@ZaP _)]]]]) (fun _ _ _ _=>(@ZaE _)) (fun _ _ _ _=>#[Zx,#[Za,#[cw,9,Zek],#[Za,#[cw,10,Zek],#[Zd]]]]) (fun _ _ _ _=>#[cw,11,Zek]) (Za7.units hr) (by rfl) (by intro _;rfl) (by trivial)),#[Zf,#[Z0,#[Zy,Zgq,#[ZJ,(ixD hr),‹4›,#[Zx,#[Za,#[Ze],#[Za,#[Zk,(ZaY K),(by rfl),T.b.n_len,Qw,#[Za,‹0›,#[Zd]]],#[Zd]]]]],#[Zu,f_cost_of,hr,#[Za,‹0›,#[Za,‹2›,#[Zd]]],(by rfl)],(ZD _)],#[Zj,#[Zo,#[Zag]]],#[ZK]],#[Zf,#[Zq,5,Zaw.nd,(Or.inl rfl),#[Zu,f_cut_prices,hr,#[Za,‹4›,#[Za,#[Zm,Za2,‹1›,#[Ze]],#[Zd]]],(by rfl)]],#[Zf,#[ZaJ,PassesOwn.never,#[iL,K,‹3›],#[gT,K,3,#[ZA,#[ZB,6,Zaw.nd,(Or.inl rfl)],#[ZA,#[ZB,7,Zaw.nd,(Or.inl rfl)],#[ZA,#[ZB,8,Zaw.nd,(Or.inl rfl)],(@ZaP _)]]]],#[Zj,#[Z0,#[Zy,ZcI,‹8›,#[Zu,f_most_price,hr,#[Za,‹0›,#[Za,‹4›,#[Za,‹5›,#[Za,‹6›,#[Za,‹7›,#[Zd]]]]]],(by rfl)],(ZD _)],#[Zj,#[Zo,#[Zag]]],#[ZK]]]],#[Zj,#[Zo,#[Zag]]]]]]]],?_⟩
 have hls:(((ns.map V.int).length:Nat):Int)=(ns.length:Int):=by rw[Qa]
 refine⟨_,rfl,_,rfl,_,rfl,a,ns,wy,x,d,rfl,hS,by omega,hX,hdp,fun b1 H1 hb1 s1=>⟨_,rfl,?_⟩⟩
 cases b1 with
 | false=>exact Z9 (Z9 (q false H1 ⟨fun z=>(by cases z),fun z=>absurd (hb1.mpr z.near.1) Qj⟩ s1))
 | true =>
 refine ZaG ?_
 refine⟨_,rfl,a,_,rfl,.inl (SqL.of (s1 _ _ hS)),_,rfl,y,ns.length,e,by rw[hls];rfl,n12,hY.mono s1,hew,fun b2 H2 hb2 s2=>⟨_,rfl,?_⟩⟩
 have s12:=s1.trans s2
 cases b2 with
 | false=>exact Z9 (q false H2 ⟨fun z=>(by cases z),fun z=>absurd (hb2.mpr z.near.2) Qj⟩ s12)
 | true =>
 refine ZaG ?_
 obtain⟨t,rfl,hpl,hlv,hok,hdp,_⟩:=Zi4 (hb1.mp rfl)
 obtain⟨r,g,rfl,hpr,rfl⟩:=Zhr hY (hb2.mp rfl)
 have hT:=TV.of_dh t hX
 have iff:=Ze6 (ns:=ns) (wy:=wy) (t:=t) (g:=g) n1 rfl hpl hlv rfl
 obtain⟨ts,hr2,hat,hE⟩:=hpr.same s12
 have l144:=Zed n12
 have lts:=pr_len' hE
 refine⟨_,rfl,r,rfl,⟨_,SqL.of hr2⟩,fun D hD=>?_⟩
 refine ZhC (K:=K) (a:=r) (xs:=Zl ts) (fun i ys σ H3=>(∃v1 v2 v3 v4 v5 v6 v7 v8:Option V,σ=[some (.ref a),some (.int wy),some x,some (.ref r),v1,v2,v3,v4,v5,v6,v7,v8])∧ys=((Zv ns.length ns.length).take i).map (fun p=>(q2 p,V.int (g p.1 p.2)))∧i≤ts.length∧H3 D=some (.dT ys)∧Zn H2 H3) ⟨⟨_,_,_,_,_,_,_,_,rfl⟩,rfl,Qm _,Zb,Zc hD _⟩ (fun _ _ _ _ h=>SqL.of (h.2.2.2.2 _ _ hr2)) ?_ ?_
 ·rintro i z ys σ H3 hz ⟨⟨v1,v2,v3,v4,v5,v6,v7,v8,rfl⟩,rfl,_,hD3,s3⟩
  obtain⟨p,b,e,rfl,hp,hbe⟩:=Zko hE hat hz
  have hil:i<ts.length:=by have:=(Qi.mp hbe).1;omega
  refine⟨p,_,rfl,SqT.of (s3 _ _ hp),rfl,_,_,rfl,_,_,rfl,_,_,rfl,rfl,?_⟩
  refine⟨_,rfl,_,rfl,(by show 2≤sizeLine;decide),fun m hm=>?_⟩
  have sn:=Zc hm (.tup ((q2 (b,e)).map kV))
  have hD5:=sn _ _ hD3
  refine⟨_,rfl,m,q2 (b,e),rfl,hD5,Zb,Zev (g:=g) (Zf7 hbe),by rw[Qa,Qk,sizeLine_eq];omega,⟨_,_,_,_,_,_,_,_,rfl⟩,(ZgG hbe).symm,hil,Zb,fun b' o hb=>?_⟩
  rw[Zi (Zg hb hD)];exact sn _ _ (s3 b' o hb)
 ·rintro ys σ H3 ⟨⟨v1,v2,v3,v4,v5,v6,v7,v8,rfl⟩,rfl,_,hD3,s3⟩
  rw[ZV,lts,Qn (Qd _)]at hD3
  have hD3:H3 D=some (.dT (Zam ns.length g)):=hD3
  have s03:=s12.trans s3
  have hT3:=hT.mono (Z4 s03)
  refine⟨_,rfl,_,rfl,a,_,rfl,.inl (SqL.of (s03 _ _ hS)),(by show 2≤sizeLine;decide),fun k0 hk0=>?_⟩
  have s4:=Zc hk0 (.tup ((Kp 0 ns.length).map kV))
  have f4:(upd H3 k0 (.tup ((Kp 0 ns.length).map kV))) k0=some (.tup ((Kp 0 ns.length).map kV)):=Zb
  have e4:(.tup [.int 0,.int (((ns.map V.int).length:Nat):Int)]:HO)=.tup ((Kp 0 ns.length).map kV):=by rw[hls];rfl
  rw[e4]
  generalize upd H3 k0 (.tup ((Kp 0 ns.length).map kV))=H4 at s4 f4 ⊢
  have s04:=s03.trans s4
  refine⟨D,_,k0,_,_,rfl,rfl,s4 _ _ hD3,f4,ZcA g (by omega) (Qd _),?_⟩
  refine⟨_,rfl,_,rfl,a,ns,x,t,rfl,SqL.of (s04 _ _ hS),hT3.mono (Z4 s4),hok,by omega,fun H5 s5=>⟨rfl,_,rfl,?_⟩⟩
  by_cases hc:g 0 ns.length=tCo ns t
  ·refine Zfe (by rw[hc]) ?_
   have s05:=s04.trans s5
   have hD5:=s5 _ _ (s4 _ _ hD3)
   refine⟨_,rfl,_,rfl,_,_,rfl,rfl,D,ns.length,wy,g,rfl,hD5,n12,w2,w6,fun c H6 hc6 s6=>?_⟩
   have s06:=s05.trans s6
   have hD6:=s6 _ _ hD5
   obtain⟨us,hr6,hau,hEu⟩:=hpr.same s06
   have lus:=pr_len' hEu
   refine⟨_,rfl,r,rfl,⟨_,SqL.of hr6⟩,?_⟩
   refine ZcO (K:=K) (a:=r) (xs:=Zl us) (fun i σ H7=>(∃v1 v2 v3:Option V,σ=[some (.ref a),some (.int wy),some x,some (.ref r),some (.ref D),some (.ref c),v1,v2,v3])∧(∀p∈(Zv ns.length ns.length).take i,g p.1 p.2≤ZbZ ns g wy p.1 p.2)∧i≤us.length∧Zn H6 H7) ⟨⟨_,_,_,rfl⟩,(fun p hp=>by rw[Qal]at hp;cases hp),Qm _,Zn.refl _⟩ (fun _ _ _ _ h=>SqL.of (h.2.2.2 _ _ hr6)) ?_ ?_
   ·rintro i z σ H7 hz ⟨⟨v1,v2,v3,rfl⟩,hm,_,s7⟩
    obtain⟨p,b,e,rfl,hp,hbe⟩:=Zko hEu hau hz
    have hil:i<us.length:=by have:=(Qi.mp hbe).1;omega
    obtain⟨hb1,he1⟩:=Zba.mp (QB hbe)
    refine⟨p,_,rfl,SqT.of (s7 _ _ hp),rfl,_,_,rfl,_,_,rfl,_,_,rfl,rfl,?_⟩
    have s07:=s06.trans s7
    refine⟨_,rfl,_,rfl,_,rfl,_,rfl,_,rfl,_,rfl,a,D,c,ns,wy,b,e,g,rfl,SqL.of (s07 _ _ hS),n12,hns,s7 _ _ hD6,s7 _ _ hc6,hb1,he1,fun H8 s8=>⟨_,_,rfl,rfl,_,rfl,ZcD (fun hgt=>?_) (fun hle=>?_)⟩⟩
    ·have hgt:=of_decide_eq_true hgt
     refine q false H8 ⟨fun h=>(by cases h),fun h=>?_⟩ (s07.trans s8)
     have:=(iff.mp h).2 b e hb1 he1
     omega
    ·have hle:¬ g b e>ZbZ ns g wy b e:=fun z=>hle (decide_eq_true z)
     refine⟨⟨_,_,_,rfl⟩,fun p' hp'=>?_,hil,s7.trans s8⟩
     rw[Qv,hbe]at hp'
     rcases Qr.mp hp' with hp'|hp'
     ·exact hm p' hp'
     ·have:p'=(b,e):=by simpa using hp'
      rw[this]
      show g b e≤ZbZ ns g wy b e
      omega
   ·rintro σ H7 ⟨⟨v1,v2,v3,rfl⟩,hm,_,s7⟩
    rw[ZV,lus,Qn (Qd _)]at hm
    exact q true H7 ⟨fun _=>iff.mpr ⟨hc,fun x y h1 h2=>hm (x,y) (Zba.mpr ⟨h1,h2⟩)⟩,fun _=>rfl⟩ (s06.trans s7)
  ·refine Zmr (fun z=>hc (by injection z)) ?_
   exact q false H5 ⟨fun h=>(by cases h),fun h=>absurd (iff.mp h).1 hc⟩ (s04.trans s5)
theorem ZgA{b e k m:Nat}{r:List Nat}(h:Zb3 b e (k+1) (b::m::r)):b<m∧m<e∧Zb3 m e k (m::r):=by
 obtain⟨_,h2,h3,h4⟩:=h
 obtain⟨p1,p2⟩:=List.pairwise_cons.mp h2
 refine⟨p1 m (Qu ..),h3 m (by simp),rfl,p2,fun x hx=>h3 x (Ql _ hx),?_⟩
 simp only[List.length_cons]at h4 ⊢
 omega
theorem ZfR{b e k m:Nat}{c:List Nat}(hb:b<m)(he:b<e)(h:Zb3 m e k c):Zb3 b e (k+1) (b::c):=by
 obtain⟨h1,h2,h3,h4⟩:=h
 refine⟨rfl,List.pairwise_cons.mpr ⟨fun x hx=>?_,h2⟩,fun x hx=>?_,by rw[QD];omega⟩
 ·cases c with
  | nil=>cases hx
  | cons y r =>
   cases h1
   rcases QK.mp hx with rfl|hx
   ·exact hb
   ·have:=Qav h2 hx;omega
 ·rcases QK.mp hx with rfl|hx
  ·exact he
  ·exact h3 x hx
theorem ZdC{b e k:Nat}{c:List Nat}(h:Zb3 b e k c):c=[b]∨∃m r,c=b::m::r:=by
 obtain⟨h1,_⟩:=h
 match c,h1 with
 | [x],h1=>cases h1;exact .inl rfl
 | x::m::r,h1=>cases h1;exact .inr ⟨m,r,rfl⟩
theorem Ziw{g:Nat→Nat→Int}:∀ (k b e:Nat) (c:List Nat),b<e→Zb3 b e (k+1) c→Z2 g k b e≤Zbe g c e
 | 0,b,e,c,hb,h=>by
  rcases ZdC h with rfl|⟨m,r,rfl⟩
  ·exact QS _
  ·have:=h.2.2.2
   simp only[List.length_cons]at this
   omega
 | k+1,b,e,c,hb,h=>by
  show ZcC (g b e::psF g (Z2 g k) b e)≤_
  have sp:=(Zbo (g b e::psF g (Z2 g k) b e) (by simp)).2
  rcases ZdC h with rfl|⟨m,r,rfl⟩
  ·exact sp _ (Qu ..)
  ·obtain⟨h1,h2,h3⟩:=ZgA h
   have ih:=Ziw (g:=g) k m e _ h2 h3
   have:=sp (g b m+Z2 g k m e) (Ql _ (Qz.mpr ⟨m,ZaH.mpr ⟨h1,h2⟩,rfl⟩))
   show _≤g b m+Zbe g (m::r) e
   omega
theorem Zia{g:Nat→Nat→Int}:∀ (k b e:Nat),b<e→∃c,Zb3 b e (k+1) c∧Zbe g c e=Z2 g k b e
 | 0,b,e,hb=>⟨[b],⟨rfl,Qam _ _,fun x hx=>by rw[Qg.mp hx];exact hb,Qd _⟩,rfl⟩
 | k+1,b,e,hb=>by
  have sp:=(Zbo (g b e::psF g (Z2 g k) b e) (by simp)).1
  rcases QK.mp sp with h|h
  ·exact⟨[b],⟨rfl,Qam _ _,fun x hx=>by rw[Qg.mp hx];exact hb,by simp⟩,h.symm⟩
  ·obtain⟨m,hm,e1⟩:=Qz.mp h
   obtain⟨m1,m2⟩:=ZaH.mp hm
   obtain⟨c,hc,ec⟩:=Zia (g:=g) k m e m2
   refine⟨b::c,ZfR m1 hb hc,?_⟩
   have e1:g b m+Z2 g k m e=Z2 g (k+1) b e:=e1
   rw[← e1,← ec]
   rcases ZdC hc with rfl|⟨u,r,rfl⟩<;>rfl
theorem ZdJ{ns:List Int}{g:Nat→Nat→Int}{wy b e:Nat}(w2:2≤wy)(hb:b<e):g b e≤ZbZ ns g wy b e↔(e-b=1→g b e≤0)∧∀c,Zb3 b e wy c→2≤c.length→g b e≤seg ns b e+Zbe g c e:=by
 unfold ZbZ
 obtain⟨k,rfl⟩:∃k,wy=k+2:=⟨wy-2,by omega⟩
 rw[show k+2-2=k by omega]
 by_cases h1:e-b=1
 ·rw[if_pos h1]
  obtain rfl:e=b+1:=by omega
  refine⟨fun h=>⟨fun _=>h,fun c hc h2=>?_⟩,fun h=>h.1 h1⟩
  rw[(Zfs (by omega)).mp hc]at h2
  simp at h2
 ·rw[if_neg h1]
  have hne:psF g (Z2 g k) b e≠[]:=by
   have:g b (b+1)+Z2 g k (b+1) e∈psF g (Z2 g k) b e:=Qz.mpr ⟨b+1,ZaH.mpr ⟨by omega,by omega⟩,rfl⟩
   exact fun z=>by rw[z]at this;cases this
  obtain⟨c1,c2⟩:=Zbo _ hne
  constructor
  ·refine fun h=>⟨fun z=>absurd z h1,fun c hc h2=>?_⟩
   rcases ZdC hc with rfl|⟨m,r,rfl⟩
   ·simp at h2
   ·obtain⟨m1,m2,m3⟩:=ZgA hc
    have a1:=Ziw (g:=g) k m e _ m2 m3
    have a2:=c2 (g b m+Z2 g k m e) (Qz.mpr ⟨m,ZaH.mpr ⟨m1,m2⟩,rfl⟩)
    show _≤seg ns b e+(g b m+Zbe g (m::r) e)
    omega
  ·intro h
   obtain⟨m,hm,e1⟩:=Qz.mp c1
   obtain⟨m1,m2⟩:=ZaH.mp hm
   obtain⟨c,hc,ec⟩:=Zia (g:=g) k m e m2
   have e1:g b m+Z2 g k m e=ZcC (psF g (Z2 g k) b e):=e1
   rcases ZdC hc with rfl|⟨u,r,rfl⟩
   ·have:=h.2 (b::[m]) (ZfR m1 hb hc) (by simp)
    have es:Zbe g (b::[m]) e=g b m+Zbe g [m] e:=rfl
    omega
   ·have:=h.2 (b::m::u::r) (ZfR m1 hb hc) (by simp)
    have es:Zbe g (b::m::u::r) e=g b m+Zbe g (m::u::r) e:=rfl
    omega
def Zke(K:PySem.W.Frag):Sp:=fun vs H Q _=>∃ (d c:Addr) (kvs:List (List Key×V)) (cn:List Nat) (e:Nat) (pf:Nat→Nat→Int),vs=[.ref d,.ref c,.int e]∧L2.Rd H d (.dT kvs)∧H c=some (.lst ((toI cn).map V.int))∧cn.length≤12∧cn≠[]∧(∀x y,(x,y)∈cn.zip (cn.tail++[e])→Z3 kvs (Kp x y)=some (.int (pf x y))) ∧
 ∀H',Zn H H'→Q (.int (Zbe pf cn e)) H'
theorem Zk1(T:Zat K mg):Df P w K mg base 1 "_law_beside" ["_law_prices", "_law_cuts_here", "_law_end"] (Zke K):=by
 refine T.t_l_beside.df Zgv (fun vs H Q E h=>?_) (fun cdv f A outer s H vs Q E hr h=>?_)
 ·obtain⟨d,c,kvs,cn,e,pf,rfl,_⟩:=h
  rfl
 obtain⟨d,c,kvs,cn,e,pf,rfl,hd,hc,h12,hne,hP,q⟩:=h
 refine⟨_,#[Zj,#[Zo,#[Zk,(Zot K),(by rfl),T.b.n_sum,boot_sum,#[Za,#[ZaD,ZiA,(@iZN _ K _ _ _ _ _ _ _ T.b.n_zip #[Za,‹1›,#[Za,#[Zm,ZaB,#[ZF,(slL K),‹1›,#[Zz,#[Ze]],#[ZL]],#[ZH,#[Za,‹2›,#[Zd]]]],#[Zd]]] (by rfl) (by rfl) (by rfl) (by rfl)),(fun _ _ _ _=>#[cg,3,ZiA]),(fun _ _ _ _=>(@ZaE _)),(fun _ _ _ _=>#[ZJ,(@ZiN _ _ hr),#[cv,0,ZiA],#[cw,3,ZiA]])],#[Zd]]]]],?_⟩
 have hpos:=Qai.mpr hne
 refine⟨_,rfl,_,rfl,_,rfl,c,_,rfl,SqL.of hc,fun s1 hs1=>?_⟩
 rw[Zc5]
 have t1:=Zc hs1 (.lst ((toI cn).map V.int).tail)
 have f1:(upd H s1 (.lst ((toI cn).map V.int).tail)) s1=some (.lst ((toI cn).map V.int).tail):=Zb
 generalize upd H s1 (.lst ((toI cn).map V.int).tail)=H1 at t1 f1 ⊢
 refine⟨_,rfl,(by show 1≤sizeLine;decide),fun l1 hl1=>?_⟩
 have t2:=Zc hl1 (.lst [.int (e:Int)])
 have f2:(upd H1 l1 (.lst [.int (e:Int)])) l1=some (.lst [.int (e:Int)]):=Zb
 generalize upd H1 l1 (.lst [.int (e:Int)])=H2 at t2 f2 ⊢
 refine⟨s1,l1,_,_,rfl,rfl,t2 _ _ f1,f2,(by rw[List.length_tail,Qa,Zc3];exact Q3 (ZM (by show cn.length-1+1≤1000;omega))),fun c2 hc2=>?_⟩
 have ecat:((toI cn).map V.int).tail++[V.int (e:Int)]=(toI (cn.tail++[e])).map V.int:=by unfold toI;rw[Qf,Qf,List.map_tail,List.map_tail];rfl
 rw[ecat]
 have t3:=Zc hc2 (.lst ((toI (cn.tail++[e])).map V.int))
 have f3:(upd H2 c2 (.lst ((toI (cn.tail++[e])).map V.int))) c2=some (.lst ((toI (cn.tail++[e])).map V.int)):=Zb
 generalize upd H2 c2 (.lst ((toI (cn.tail++[e])).map V.int))=H3 at t3 f3 ⊢
 have t03:=(t1.trans t2).trans t3
 have hc3:=t03 _ _ hc
 have hl2:(cn.tail++[e]).length=cn.length:=by rw[Qe,List.length_tail,Qh];omega
 refine⟨.l c,.l c2,_,_,rfl,SqL.of hc3,SqL.of f3,fun D hD=>?_⟩
 refine Zkj (K:=K) (S1:=.l c) (S2:=.l c2) (xs:=(toI cn).map V.int) (ys:=(toI (cn.tail++[e])).map V.int) (fun i zs σ H4=>(∃v:Option V,σ=[some (.ref d),some (.ref c),some (.int e),v])∧zs=(((cn.zip (cn.tail++[e])).take i).map (fun p=>pf p.1 p.2)).map V.int∧i≤cn.length∧H4 D=some (.lst zs)∧Zn H3 H4) ?_ (fun _ _ _ _ h=>⟨SqL.of (h.2.2.2.2 _ _ hc3),SqL.of (h.2.2.2.2 _ _ f3)⟩) ?_ ?_
 ·exact⟨⟨none,rfl⟩,rfl,Qm _,Zb,Zc hD _⟩
 ·rintro i zs σ H4 x y p hx hy ⟨⟨v,rfl⟩,rfl,hi,hD4,s4⟩ hp
  unfold toI at hx hy
  rw[Q0,Qt]at hx hy
  cases hz:cn[i]? with
  | none=>rw[hz]at hx;cases hx
  | some a =>
   cases hz2:(cn.tail++[e])[i]? with
   | none=>rw[hz2]at hy;cases hy
   | some b =>
    rw[hz]at hx
    rw[hz2]at hy
    cases hx
    cases hy
    have hil:i<cn.length:=(Qi.mp hz).1
    have hzip:(cn.zip (cn.tail++[e]))[i]? = some (a,b):=by rw[List.getElem?_zip_eq_some];exact⟨hz,hz2⟩
    have hk:=hP a b (QB hzip)
    have sp:=Zc hp (.tup [V.int (a:Int),V.int (b:Int)])
    have f5:(upd H4 p (.tup [V.int (a:Int),V.int (b:Int)])) p=some (.tup ((Kp a b).map kV)):=Zb
    have hD5:=sp _ _ hD4
    refine⟨_,rfl,_,rfl,d,kvs,p,Kp a b,_,rfl,rfl,Zdo hd ((t03.trans s4).trans sp),f5,hk,hD5,(by rw[Qa,Qa,Qk];exact ZM (by omega)),⟨_,rfl⟩,?_,hil,Zb,fun b' o hb=>?_⟩
    ·rw[Qv,hzip,Qf,Qf];rfl
    ·rw[Zi (Zg hb hD)];exact sp _ _ (s4 b' o hb)
 rintro zs σ H4 ⟨⟨v,rfl⟩,rfl,_,hD4,s4⟩
 rw[Qn (by rw[List.length_zip,Qa,Qa,Zc3,Zc3];exact Qd _)]at hD4
 refine⟨D,(cn.zip (cn.tail++[e])).map (fun p=>pf p.1 p.2),rfl,SqL.of hD4,?_⟩
 rw[Zex]
 exact q H4 (t03.trans s4)
theorem Zdc{n i:Nat}{ds:List PyData}{d:PyData}(hdi:ds[i]? = some d)(et:ZbR d=false):¬ ZfQ n (.list ds):=by
 rintro⟨rows,e,_⟩
 injection e with e
 rw[e,Qt]at hdi
 cases er:rows[i]? with
 | none=>rw[er]at hdi;cases hdi
 | some u =>
  rw[er]at hdi
  injection hdi with hdi
  rw[← hdi,Zhj]at et
  cases et
theorem Zga.plan{n wy:Nat}{d:PyData}(h:Zga n wy d):Zkp n wy d:=by
 obtain⟨h1,h2⟩:=h
 exact⟨h1,by rw[h2];exact ZjG n,by rw[h2];exact ZfG (Qd _),by rw[h2,ZbQ]⟩
theorem ZiP{n wy:Nat}{d:PyData}(h:Zkp n wy d):∃t,d=toD t∧tPl wy t∧lvD d=tLv t∧tOk n t∧tDp t+1≤n∧tNo t+1≤2*n:=by
 obtain⟨h1,h2,h3,h4⟩:=h
 obtain⟨t,e,p,v⟩:=ZeD wy d h1
 obtain⟨⟨g1,g2⟩,g3⟩:=ZeY t p
 rw[v]at h3 h4
 exact⟨t,e.symm,p,v,ZhV t h3,by omega,by omega⟩
theorem Zlq{es:List PyData}(h:es.length=3):ZbR (.tuple es)=(es.map ZS).all id:=by
 match es,h with
 | [a,b,c],_ =>
  show (ZS a&&(ZS b&&ZS c))=_
  simp
def kv4(g:Nat→Nat→Int)(p:Nat×Nat):List Key×V:=(q2 p,V.int (g p.1 p.2))
def ZgR(K:PySem.W.Frag):Sp:=fun vs H Q _=>∃ (a:Addr) (ns:List Int) (wy:Nat) (x y:V) (d e:PyData),vs=[.ref a,.int wy,x,y]∧H a=some (.lst (ns.map V.int))∧1≤ns.length∧ns.length≤12∧(∀v∈ns,0≤v∧v≤1000000000)∧2≤wy∧wy≤6∧DH H x d∧d.canLay0=true∧d.depth≤40∧lfD d<64∧ndD d≤100000∧DH H y e∧e.weight≤100000 ∧
 ∀ (b:Bool) (H':Hp),(b=true↔Zda ns wy d e)→Zn H H'→Q (.bl b) H'
theorem ZiM(T:Zat K mg)(f_l_is_plan:Df P w K mg base 1 "_law_is_plan" ["_law_sizes_here", "_law_ways_here", "_law_thing"] (Zmd K))(f_l_rows_in:Df P w K mg base 1 "_law_rows_in" ["_law_tree"] ZfU)(f_l_stretches:Df P w K mg base 1 "_law_stretches" ["_law_many_here"] ZjM)(f_l_cuts:Df P w K mg base 1 "_law_cuts" ["_law_begin", "_law_end", "_law_ways_here"] Zkc)(f_l_beside:Df P w K mg base 1 "_law_beside" ["_law_prices", "_law_cuts_here", "_law_end"] (Zke K))(f_l_cost:Df P w K mg base 2 "_law_cost" ["_law_sizes_here", "_law_tree"] (ZfE K)):Df P w K mg base 3 "_law_shows" ["_law_sizes_here", "_law_ways_here", "_law_tree", "_law_thing"] (ZgR K):=by
 refine T.t_l_shows.df Za3 (fun vs H Q E h=>?_) (fun cdv f A outer s H vs Q E hr h=>?_)
 ·obtain⟨a,ns,wy,x,y,d,e,rfl,_⟩:=h
  rfl
 obtain⟨a,ns,wy,x,y,d,e,rfl,hS,n1,n12,hns,w2,w6,hX,hcl,hdp,hlf,hnd,hY,hew,q⟩:=h
 refine⟨_,#[Zf,#[Z0,(@PW.pt _ _ _ #[ZcN,#[Za9,#[Zak,#[Zu,f_l_is_plan,hr,#[Za,‹0›,#[Za,‹1›,#[Za,‹2›,#[Zd]]]],(by rfl)]]],#[Zcv,#[Zy,#[neD,K,hr],#[Zu,f_l_rows_in,hr,#[Za,‹2›,#[Zd]],(by rfl)],#[ZR,ZhS,(by rfl),T.b.n_list,boot_list,#[Za,#[ZR,Zlo,(by rfl),T.b.n_range,boot_range,#[Za,#[Zk,(ZaY K),(by rfl),T.b.n_len,Qw,#[Za,‹0›,#[Zd]]],#[Zd]]],#[Zd]]],(ZD _)]]]),#[Zj,#[Zo,#[Zag]]],#[ZK]],#[Zf,#[Z0,#[Za9,#[Zak,#[Zk,(Zcy K),(by rfl),T.b.n_isinstance,boot_isinstance,#[Za,‹3›,#[Za,#[Zbg,T.b.n_list,boot_list,(by rfl)],#[Zd]]]]]],#[Zj,#[Zo,#[Zag]]],#[ZK]],#[Zf,#[ZaJ,PassesOwn.never,#[iL,K,‹3›],#[ZB,4,Za3.nd,(Or.inl rfl)],#[Zf,#[Z0,(@PW.pt _ _ _ #[ZcN,#[Za9,#[Zak,#[Zk,(Zcy K),(by rfl),T.b.n_isinstance,boot_isinstance,#[Za,‹4›,#[Za,#[Zbg,T.b.n_tuple,boot_tuple,(by rfl)],#[Zd]]]]]],#[Zcv,#[Zy,Zgq,#[Zk,(ZaY K),(by rfl),T.b.n_len,Qw,#[Za,‹4›,#[Zd]]],#[Ze],(ZD _)]]]),#[Zj,#[Zo,#[Zag]]],#[ZK]],#[Zj,#[Z0,#[Za9,#[Zak,#[Zk,(Zon K),(by rfl),T.b.n_all,boot_all,#[Za,#[ZaD,Zd5,(@iT _ K _ _ _ ‹4› (by rfl)),(fun _ _ _ _=>#[cg,10,Zd5]),(fun _ _ _ _=>(@ZaE _)),(fun _ _ _ _=>#[Zdb,#[Zk,(Zcy K),(Zaf Zd5 rfl (by ac_rfl)),T.b.n_isinstance,boot_isinstance,#[Za,#[cw,10,Zd5],#[Za,#[Zbg,T.b.n_int,boot_int,(Zaf Zd5 rfl (by ac_rfl))],#[Zd]]]],(@ZdP _ _ _ _ _ (@Zhl _ _ _ _ #[Zk,(Zcy K),(Zaf Zd5 rfl (by ac_rfl)),T.b.n_isinstance,boot_isinstance,#[Za,#[cw,10,Zd5],#[Za,#[Zbg,T.b.n_bool,boot_bool,(Zaf Zd5 rfl (by ac_rfl))],#[Zd]]]]))])],#[Zd]]]]],#[Zj,#[Zo,#[Zag]]],#[ZK]]]]],#[Zf,#[Z0,#[Zy,#[neD,K,hr],#[ZaD,Zj3,#[iL,K,‹3›],(fun _ _ _ _=>#[cg,10,Zj3]),(fun _ _ _ _=>(@ZaE _)),(fun _ _ _ _=>#[ZF,(slT K),#[cw,10,Zj3],#[ZL],#[Zz,#[Ze]]])],#[Zu,f_l_stretches,hr,#[Za,#[Zk,(ZaY K),(by rfl),T.b.n_len,Qw,#[Za,‹0›,#[Zd]]],#[Zd]],(by rfl)],(ZD _)],#[Zj,#[Zo,#[Zag]]],#[ZK]],#[Zf,#[Zq,5,Za3.nd,(Or.inl rfl),#[ZR,(Zni K hr),(by rfl),T.b.n_dict,boot_dict,#[Za,#[ZaD,Zip,#[iL,K,‹3›],(fun _ _ _ _=>#[cg,10,Zip]),(fun _ _ _ _=>(@ZaE _)),(fun _ _ _ _=>#[Zx,#[Za,#[ZF,(slT K),#[cw,10,Zip],#[ZL],#[Zz,#[Ze]]],#[Za,#[ZJ,(ixT K),#[cw,10,Zip],#[Ze]],#[Zd]]]])],#[Zd]]]],#[Zf,#[ZaJ,PassesOwn.never,(@Zkr _ _ _ _ ‹5›),#[gT,K,2,#[ZA,#[ZB,6,Za3.nd,(Or.inl rfl)],#[ZA,#[ZB,7,Za3.nd,(Or.inl rfl)],(@ZaP _)]]],#[Zf,#[Zq,8,Za3.nd,(Or.inl rfl),#[Zk,(ZlT K),(by rfl),T.b.n_sum,boot_sum,#[Za,#[ZF,(slL K),‹0›,#[Zz,‹6›],#[Zz,‹7›]],#[Zd]]]],(@Zci _ _ _ _ _ #[Z0,(@PW.pt _ _ _ (@ZeK _ _ _ _ _ _ _ #[Zy,Zd2,#[Zm,Za2,‹7›,‹6›],#[Ze],(ZD _)] (@ZfZ _ _ _ _ #[Zy,ZcI,#[ZJ,(@ZiN _ _ hr),‹5›,#[Zx,#[Za,‹6›,#[Za,‹7›,#[Zd]]]]],#[Ze],(ZD _)]))),#[Zj,#[Zo,#[Zag]]],#[ZK]] #[Zj,#[ZaJ,PassesOwn.never,#[iL,K,#[Zu,f_l_cuts,hr,#[Za,‹6›,#[Za,‹7›,#[Za,‹1›,#[Zd]]]],(by rfl)]],#[ZB,9,Za3.nd,(Or.inl rfl)],#[Zj,#[Z0,#[Zy,ZcI,#[ZJ,(@ZiN _ _ hr),‹5›,#[Zx,#[Za,‹6›,#[Za,‹7›,#[Zd]]]]],#[Zm,ZG,‹8›,#[Zu,f_l_beside,hr,#[Za,‹5›,#[Za,‹9›,#[Za,‹7›,#[Zd]]]],(by rfl)]],(ZD _)],#[Zj,#[Zo,#[Zag]]],#[ZK]]]]])]],#[Zj,#[Zo,#[Zcm,Zd2,#[ZJ,(@ZiN _ _ hr),‹5›,#[Zx,#[Za,#[Ze],#[Za,#[Zk,(ZaY K),(by rfl),T.b.n_len,Qw,#[Za,‹0›,#[Zd]]],#[Zd]]]]],#[Zu,f_l_cost,hr,#[Za,‹0›,#[Za,‹2›,#[Zd]]],(by rfl)],(ZD _)]]]]]]]]],?_⟩
 have hls:(((ns.map V.int).length:Nat):Int)=(ns.length:Int):=by rw[Qa]
 have no:∀ {H':Hp},(Zda ns wy d e→False)→Zn H H'→Q (.bl false) H':=fun z s=>q false _ ⟨fun y=>(by cases y),fun y=>(z y).elim⟩ s
 refine⟨_,rfl,_,rfl,_,rfl,a,ns,wy,x,d,rfl,hS,by omega,hX,hcl,hdp,hlf,hnd,fun b1 H1 hb1 s1=>⟨_,rfl,?_⟩⟩
 cases b1 with
 | false=>exact Z9 (Z9 (no (fun z=>absurd (hb1.mpr z.near.1.plan) Qj) s1))
 | true =>
 refine ZaG ?_
 obtain⟨t,rfl,hpl,elv,hok,tdp,tno⟩:=ZiP (hb1.mp rfl)
 have hT:=TV.of_dh t hX
 refine⟨_,rfl,x,t,ns,ns.length,rfl,hT.mono (Z4 s1),rfl,by omega,hok,by omega,by omega,fun r1 ks H2 hr0 hr1 hks _ hlv hkl s2=>?_⟩
 subst hlv
 have s02:=s1.trans s2
 refine⟨_,rfl,a,_,rfl,.inl (SqL.of (s02 _ _ hS)),_,rfl,fun rg hrg=>?_⟩
 have s3:=Zc hrg (.rng 0 (((ns.map V.int).length:Nat):Int))
 refine⟨rg,0,_,rfl,Zb,by omega,by omega,by rw[hls];omega,by rw[hls];omega,by rw[hls];omega,fun l hl'=>?_⟩
 have s4:=Zc hl' (.lst ((Z6 0 ((((ns.map V.int).length:Nat):Int)-0).toNat).map V.int))
 have f4:(upd (upd H2 rg (.rng 0 (((ns.map V.int).length:Nat):Int))) l (.lst ((Z6 0 ((((ns.map V.int).length:Nat):Int)-0).toNat).map V.int))) l=some (.lst ((Z6 0 ((((ns.map V.int).length:Nat):Int)-0).toNat).map V.int)):=Zb
 have s24:=s3.trans s4
 generalize upd (upd H2 rg (.rng 0 (((ns.map V.int).length:Nat):Int))) l (.lst ((Z6 0 ((((ns.map V.int).length:Nat):Int)-0).toNat).map V.int))=H4 at f4 s24 ⊢
 rw[show ((((ns.map V.int).length:Nat):Int)-0).toNat=ns.length by rw[hls];omega]at f4
 have s04:=s02.trans s24
 refine⟨.list ((tLv t).map PyData.int),.list ((Z6 0 ns.length).map PyData.int),.lst (SqL.of (s24 _ _ hr1)) (ZbP _),.lst (SqL.of f4) (ZbP _),ZbH _,ZbH _,_,rfl,?_⟩
 rw[if_pos rfl]
 by_cases hlv:tLv t=Z6 0 ns.length
 case neg =>
  rw[Bool.eq_false_iff.mpr fun z=>hlv ((Zc4 _ _).mp z)]
  exact Z9 (no (fun z=>hlv (by have:=z.near.1.2;rw[elv]at this;exact this)) s04)
 rw[(Zc4 _ _).mpr hlv]
 refine ZaG ?_
 clear s4 s3 s24 f4 hrg hl' hr1 s02 s1 s2 hr0 hb1
 have hY4:=hY.mono s04
 refine⟨_,rfl,_, "list",_,_,rfl,hY4.ty,hY4.kL K,_,rfl,?_⟩
 cases hTe:ZfJ e with
 | false =>
  refine Z9 (no (fun z=>?_) s04)
  obtain⟨rows,e1,_⟩:=z.near.2
  rw[e1]at hTe
  cases hTe
 | true =>
 obtain⟨r,xs,ds,rfl,rfl,hr0,hs⟩:=hY4.lst_inv hTe
 refine ZaG ⟨_,rfl,r,rfl,⟨_,SqL.of hr0⟩,?_⟩
 refine ZcO (K:=K) (a:=r) (xs:=xs) (fun i σ H5=>(∃v1 v2 v3 v4 v5 v6:Option V,σ=[some (.ref a),some (.int wy),some x,some (.ref r),v1,v2,v3,v4,v5,v6])∧Zn H4 H5∧∀j,j<i→∀d,ds[j]? = some d→ZbR d=true) ⟨⟨_,_,_,_,_,_,rfl⟩,Zn.refl _,fun j hj=>by omega⟩ (fun _ _ _ _ h=>SqL.of (h.2.1 _ _ hr0)) ?_ ?_
 ·rintro i z σ H5 hz ⟨⟨v1,v2,v3,v4,v5,v6,rfl⟩,s5,hj⟩
  obtain⟨du,hdi,hdx⟩:=hs.get hz
  have hdx:=hdx.mono s5
  have s05:=s04.trans s5
  refine⟨_,rfl,_, "tuple",_,_,rfl,hdx.ty,hdx.kT K,_,rfl,?_⟩
  cases hTu:Zcn du with
  | false=>exact Z9 (Z9 (no (fun z=>Zdc hdi (Zgw hTu) z.near.2) s05))
  | true =>
  obtain⟨p,us,es,rfl,rfl,hp,hus⟩:=hdx.tup_inv hTu
  have hul:=hus.length
  refine ZaG ⟨_,rfl,p,_,rfl,.inr (SqT.of hp),rfl,_,rfl,?_⟩
  by_cases h3:es.length=3
  case neg =>
   rw[decide_eq_false (fun z:V.int ((us.length:Nat):Int)=V.int 3=>by injection z with z;omega)]
   exact Z9 (no (fun z=>Zdc hdi (ZhM h3) z.near.2) s05)
  have h3u:us.length=3:=by omega
  refine Zfe (by rw[h3u];rfl) ?_
  refine⟨_,rfl,p,rfl,⟨_,SqT.of hp⟩,fun D hD=>?_⟩
  refine Zkh (K:=K) (a:=p) (xs:=us) (fun i ys σ H6=>(∃v:Option V,σ=[some (.ref a),some (.int wy),some x,some (.ref r),some (.ref p),v2,v3,v4,v5,v6,v])∧ys=((es.take i).map ZS).map V.bl∧i≤us.length∧H6 D=some (.lst ys)∧Zn H5 H6) ⟨⟨_,rfl⟩,rfl,Qm _,Zb,Zc hD _⟩ (fun _ _ _ _ h=>SqT.of (h.2.2.2.2 _ _ hp)) ?_ ?_
  ·rintro i u ys σ H6 hu ⟨⟨v,rfl⟩,rfl,hi,hD6,s6⟩
   obtain⟨dv,hdv,hux⟩:=hus.get hu
   have hux:=hux.mono s6
   have hil:i<us.length:=(Qi.mp hu).1
   have fin:∀b:Bool,b=ZS dv→H6 D=some (.lst (((es.take i).map ZS).map V.bl))∧(((es.take i).map ZS).map V.bl).length<sizeLine∧(∃v:Option V,[some (V.ref a),some (.int wy),some x,some (.ref r),some (.ref p),v2,v3,v4,v5,v6,some u]=[some (.ref a),some (.int wy),some x,some (.ref r),some (.ref p),v2,v3,v4,v5,v6,v])∧((es.take i).map ZS).map V.bl++[.bl b]=((es.take (i+1)).map ZS).map V.bl∧i+1≤us.length∧(upd H6 D (.lst (((es.take i).map ZS).map V.bl++[.bl b]))) D=some (.lst (((es.take i).map ZS).map V.bl++[.bl b]))∧Zn H5 (upd H6 D (.lst (((es.take i).map ZS).map V.bl++[.bl b]))):=fun b hb=>by
    refine⟨hD6,by rw[Qa,Qa,Qk];exact ZM (by omega),⟨_,rfl⟩,?_,hil,Zb,fun b' o hb'=>?_⟩
    ·rw[Qv,hdv,hb,Qf,Qf];rfl
    ·rw[Zi (Zg hb' hD)];exact s6 b' o hb'
   refine⟨_,rfl,_, "int",_,_,rfl,hux.ty,hux.kI K,_,rfl,?_⟩
   cases hI:ZS dv with
   | true =>
    have hB:Zct dv=false:=by cases dv<;>first|rfl|cases hI
    refine Z9 ⟨_,rfl,_, "bool",_,_,rfl,hux.ty,hux.kB K,_,rfl,?_⟩
    rw[hB];exact fin true hI.symm
   | false =>
    cases hB:Zct dv with
    | true =>
     refine Z9 ⟨_,rfl,_, "bool",_,_,rfl,hux.ty,hux.kB K,_,rfl,?_⟩
     rw[hB];exact fin false hI.symm
    | false=>exact ZaG (fin false hI.symm)
  ·rintro ys σ H6 ⟨⟨v,rfl⟩,rfl,_,hD6,s6⟩
   rw[hul,Qn (Qd _)]at hD6
   refine⟨D,es.map ZS,rfl,SqL.of hD6,_,rfl,?_⟩
   rw[← Zlq h3]
   cases hA:ZbR (.tuple es) with
   | false=>exact Z9 (no (fun z=>Zdc hdi hA z.near.2) (s05.trans s6))
   | true =>
    refine ZaG ⟨⟨_,_,_,_,_,_,rfl⟩,s5.trans s6,fun j hj' d' hd'=>?_⟩
    rcases Nat.lt_succ_iff_lt_or_eq.mp hj' with hj'|rfl
    ·exact hj j hj' d' hd'
    ·rw[hdi]at hd';injection hd' with hd';rw[← hd'];exact hA
 ·rintro σ H5 ⟨⟨v1,v2,v3,v4,v5,v6,rfl⟩,s5,hj⟩
  obtain⟨ts,rows,rfl,hat,hE,ed⟩:=ZdA hs fun d hd=>by
   obtain⟨i,hi,e⟩:=Qax hd
   exact hj i (by rw[hs.length];exact hi) d (by rw[Qc hi,e])
  have s05:=s04.trans s5
  have hr5:=s5 _ _ hr0
  have hat5:=AtT.mono hat s5
  have lts:ts.length≤100000:=by
   have h9:=ZdL ds
   have h8:=hs.length
   rw[ZV]at h8
   have:(PyData.list ds).weight=PyData.weightAll ds:=rfl
   omega
  have lrw:ts.length=rows.length:=by have:=congrArg List.length hE;simpa using this
  have ec:∀e:Int×Int×Int,ZY [V.int e.1,.int e.2.1,.int e.2.2] none (some 2)=[.int e.1,.int e.2.1]:=fun e=>rfl
  clear hj hat s5 hr0 hs hY4 hTe
  refine⟨_,rfl,r,rfl,⟨_,SqL.of hr5⟩,fun D hD=>?_⟩
  refine Zbp (K:=K) (a:=r) (xs:=Zl ts) (fun i ys σ H6=>(∃v:Option V,σ=[some (.ref a),some (.int wy),some x,some (.ref r),v1,v2,v3,v4,v5,v6,v])∧(∃us:ZaF,ys=Zl us∧AtT H6 us∧us.map (·.2)=(rows.take i).map k2e)∧i≤ts.length∧H6 D=some (.lst ys)∧Zn H5 H6) ⟨⟨_,rfl⟩,⟨[],rfl,(fun t h=>by cases h),rfl⟩,Qm _,Zb,Zc hD _⟩ (fun _ _ _ _ h=>SqL.of (h.2.2.2.2 _ _ hr5)) ?_ ?_
  ·rintro i z ys σ H6 hz ⟨⟨v,rfl⟩,⟨us,rfl,hau,hEu⟩,_,hD6,s6⟩
   obtain⟨p,e,rfl,hp,hbe⟩:=Zfj hE hat5 hz
   have hil:i<ts.length:=by have:=(Qi.mp hbe).1;omega
   have hul:us.length≤100000:=by
    have:=congrArg List.length hEu
    rw[Qa,Qa,Qk]at this
    omega
   refine⟨_,rfl,_,rfl,p,_,rfl,SqT.of (s6 _ _ hp),Zcs (n:=3) (d:=2) (by decide),fun m hm=>?_⟩
   rw[ec]
   have sn:=Zc hm (.tup [.int e.1,.int e.2.1])
   have hD5:=sn _ _ hD6
   have nDn:D≠m:=Zg hD6 hm
   refine⟨hD5,(by rw[ZV,sizeLine_eq];omega),⟨_,rfl⟩,⟨us++[(m,k2e e)],by unfold Zl;rw[Qf];rfl,fun t ht=>?_,?_⟩,hil,Zb,fun b' o hb=>?_⟩
   ·rcases Qr.mp ht with ht|ht
    ·exact Zaa hD5 _ _ _ (sn _ _ (hau t ht))
    ·rw[Qg.mp ht,Zi nDn.symm];exact Zb
   ·rw[Qf,hEu,Qv,hbe,Qf];rfl
   ·rw[Zi (Zg hb hD)];exact sn _ _ (s6 b' o hb)
  rintro ys σ H6 ⟨⟨v,rfl⟩,⟨us,rfl,hau,hEu⟩,_,hD6,s6⟩
  rw[ZV,lrw,Qn (Qd _)]at hEu
  have s06:=s05.trans s6
  refine⟨_,rfl,a,_,rfl,.inl (SqL.of (s06 _ _ hS)),ns.length,by rw[hls];rfl,n12,fun so ws H7 hso hs7 haw hEw s7=>?_⟩
  have d1:us.map (fun t=>tD t.2)=(rows.map k2e).map tD:=by
   have:=congrArg (List.map tD) hEu
   rw[Q0]at this;exact this
  have d2:ws.map (fun t=>tD t.2)=((Zv ns.length ns.length).map q2).map tD:=by
   have:=congrArg (List.map tD) hEw
   rw[Q0]at this;exact this
  have v1':=ZdE (K:=K) us (AtT.mono hau s7)
  have v2':=ZdE (K:=K) ws haw
  rw[d1]at v1'
  rw[d2]at v2'
  have s07:=s06.trans s7
  refine⟨_,_,.lst (SqL.of (s7 _ _ hD6)) v1',.lst (SqL.of hs7) v2',Zc1 (ZdB rows),Zc1 (Zds _),_,rfl,?_⟩
  rw[if_pos rfl]
  by_cases hk:rows.map k2e=(Zv ns.length ns.length).map q2
  case neg =>
   rw[Bool.eq_false_iff.mpr fun z=>hk ((Zfx (ZdB rows) (Zds _)).mp z)]
   refine Z9 (no (fun z=>?_) s07)
   obtain⟨rows',e',z'⟩:=z.near.2
   injection e' with e'
   rw[ed]at e'
   have inj:rows=rows':=List.map_inj_right (fun x y h=>ZfV h) |>.mp e'
   rw[inj]at hk;exact hk z'
  rw[(Zfx (ZdB rows) (Zds _)).mpr hk]
  refine ZaG ?_
  obtain⟨g,rfl⟩:=Zes (Zef ns.length) hk
  have iff:=Ze6 (ns:=ns) (wy:=wy) (d:=toD t) (e:=.list ds) (t:=t) (g:=g) n1 rfl hpl hlv (by rw[ed];unfold ZcB;rw[Q0];rfl)
  have hr7:=(s6.trans s7) _ _ hr5
  have hat7:=AtT.mono hat5 (s6.trans s7)
  clear v1' v2' d1 d2 hau hEu haw hEw hs7 hso hD6 hk no lrw hat5 hr5 s06 s05
  have l144:=Zed n12
  have lts:=pr_len' hE
  refine⟨_,rfl,r,rfl,⟨_,SqL.of hr7⟩,fun D2 hD2=>?_⟩
  refine Zbp (K:=K) (a:=r) (xs:=Zl ts) (fun i ys σ H8=>(∃v:Option V,σ=[some (.ref a),some (.int wy),some x,some (.ref r),v1,v2,v3,v4,v5,v6,v])∧(∃us:List (Addr×Addr×List Key×V),ys=us.map (fun t=>V.ref t.1)∧(∀t∈us,H8 t.1=some (.tup [.ref t.2.1,t.2.2.2])∧H8 t.2.1=some (.tup (t.2.2.1.map kV)))∧us.map (·.2.2)=((Zv ns.length ns.length).take i).map (kv4 g))∧i≤ts.length∧H8 D2=some (.lst ys)∧Zn H7 H8) ⟨⟨_,rfl⟩,⟨[],rfl,(fun t h=>by cases h),rfl⟩,Qm _,Zb,Zc hD2 _⟩ (fun _ _ _ _ h=>SqL.of (h.2.2.2.2 _ _ hr7)) ?_ ?_
  ·rintro i z ys σ H8 hz ⟨⟨v,rfl⟩,⟨us,rfl,hau,hEu⟩,_,hD8,s8⟩
   obtain⟨p,b,e,rfl,hp,hbe⟩:=Zko hE hat7 hz
   have hil:i<ts.length:=by have:=(Qi.mp hbe).1;omega
   have hul:us.length≤1000:=by
    have:=congrArg List.length hEu
    rw[Qa,Qa,Qk]at this
    omega
   refine⟨_,rfl,_,rfl,p,_,rfl,SqT.of (s8 _ _ hp),Zcs (n:=3) (d:=2) (by decide),fun m hm=>?_⟩
   have e8:HO.tup (ZY [V.int b,.int e,.int (g b e)] none (some 2))=.tup ((q2 (b,e)).map kV):=rfl
   rw[e8]
   have sn:=Zc hm (.tup ((q2 (b,e)).map kV))
   have fm:(upd H8 m (.tup ((q2 (b,e)).map kV))) m=some (.tup ((q2 (b,e)).map kV)):=Zb
   generalize upd H8 m (.tup ((q2 (b,e)).map kV))=H9 at sn fm ⊢
   refine⟨_,rfl,p,_,2,_,rfl,rfl,SqT.of (sn _ _ (s8 _ _ hp)),rfl,(by show 2≤sizeLine;decide),fun m2 hm2=>?_⟩
   have s9:=Zc hm2 (.tup [.ref m,.int (g b e)])
   have hD9:=s9 _ _ (sn _ _ hD8)
   have nD2:D2≠m2:=Zg (sn _ _ hD8) hm2
   refine⟨hD9,(by rw[Qa,sizeLine_eq];omega),⟨_,rfl⟩,⟨us++[(m2,m,kv4 g (b,e))],by rw[Qf];rfl,fun t ht=>?_,?_⟩,hil,Zb,fun b' o hb=>?_⟩
   ·rcases Qr.mp ht with ht|ht
    ·obtain⟨t1,t2⟩:=hau t ht
     exact⟨Zaa hD9 _ _ _ (s9 _ _ (sn _ _ t1)),Zaa hD9 _ _ _ (s9 _ _ (sn _ _ t2))⟩
    ·rw[Qg.mp ht]
     exact⟨by show (upd _ D2 _) m2=_;rw[Zi nD2.symm];exact Zb,Zaa hD9 _ _ _ (s9 _ _ fm)⟩
   ·rw[Qf,hEu,Qv,hbe,Qf];rfl
   ·rw[Zi (Zg hb hD2)];exact s9 _ _ (sn _ _ (s8 b' o hb))
  rintro ys σ H8 ⟨⟨v,rfl⟩,⟨us,rfl,hau,hEu⟩,_,hD8,s8⟩
  rw[ZV,lts,Qn (Qd _)]at hEu
  have hul:us.length≤1000:=by
   have:=congrArg List.length hEu
   rw[Qa,Qa]at this
   omega
  have hEk:us.map (·.2.2)=Zam ns.length g:=hEu
  refine⟨D2,us,rfl,SqL.of hD8,hau,hul,?_,fun DD hDD=>?_⟩
  ·have e9:us.map (·.2.2.1)=(Zv ns.length ns.length).map q2:=by
    have:=congrArg (List.map (·.1)) hEu
    rw[Q0,Q0]at this
    exact this
   rw[e9]
   exact QaI.mpr ((Zef ns.length).imp fun h z=>h (by obtain⟨z1,z2⟩:=ZhE z;exact Prod.ext z1 z2))
  rw[hEk]
  refine⟨_,rfl,DD,_,rfl,Zb,fun o=>?_⟩
  have s9:Zn H8 (upd (upd H8 DD (.dT (Zam ns.length g))) DD (.frz o (.dT (Zam ns.length g)))):=fun b o hb=>by
   have nb:=Zg hb hDD
   rw[Zi nb,Zi nb];exact hb
  have f9:(upd (upd H8 DD (.dT (Zam ns.length g))) DD (.frz o (.dT (Zam ns.length g)))) DD=some (.frz o (.dT (Zam ns.length g))):=Zb
  generalize upd (upd H8 DD (.dT (Zam ns.length g))) DD (.frz o (.dT (Zam ns.length g)))=H9 at s9 f9 ⊢
  have s09:=(s07.trans s8).trans s9
  clear s8 s9 hDD hD8 hau hEu hEk hul hD2 hr7 hat7 s07 s6 s7 hE
  refine ZiL (fun i σ H10=>(∃v1 v3 v4 v5 v6:Option V,σ=[some (.ref a),some (.int wy),some x,some (.ref r),v1,some (.ref DD),v3,v4,v5,v6])∧(∀p∈(Zv ns.length ns.length).take i,g p.1 p.2≤ZbZ ns g wy p.1 p.2)∧Zn H9 H10) ⟨⟨_,_,_,_,_,rfl⟩,(fun p hp=>by rw[Qal]at hp;cases hp),Zn.refl _⟩ (fun _ _ _ h=>h.2.2 _ _ f9) ?_ ?_
  ·rintro i ks xv σ H10 kb hkv ⟨⟨v1,v3,v4,v5,v6,rfl⟩,hm,s10⟩ hkb
   unfold Zam at hkv
   rw[Qt]at hkv
   cases hpj:(Zv ns.length ns.length)[i]? with
   | none=>rw[hpj]at hkv;cases hkv
   | some pr =>
   rw[hpj]at hkv
   cases hkv
   obtain⟨b,e⟩:=pr
   obtain⟨hb1,he1⟩:=Zba.mp (QB hpj)
   refine⟨kb,_,rfl,SqT.of hkb,rfl,_,_,rfl,_,_,rfl,rfl,?_⟩
   have s010:=s09.trans s10
   refine⟨_,rfl,_,rfl,_,rfl,_,rfl,_,rfl,a,_,rfl,SqL.of (s010 _ _ hS),fun sl hsl=>?_⟩
   have s11:=Zc hsl (.lst (ZY (ns.map V.int) (some (b:Int)) (some (e:Int))))
   have f11:(upd H10 sl (.lst (ZY (ns.map V.int) (some (b:Int)) (some (e:Int))))) sl=some (.lst (ZY (ns.map V.int) (some (b:Int)) (some (e:Int)))):=Zb
   generalize upd H10 sl (.lst (ZY (ns.map V.int) (some (b:Int)) (some (e:Int))))=H11 at s11 f11 ⊢
   rw[Zig (by omega) he1]at f11
   refine⟨sl,_,rfl,SqL.of f11,by rw[Qk,QA];omega,fun v hv=>?_,?_⟩
   ·have:=hns v (QW (QO hv));omega
   have s911:=s10.trans s11
   refine⟨fun σ H12=>σ=[some (.ref a),some (.int wy),some x,some (.ref r),v1,some (.ref DD),some (.int b),some (.int e),some (.int (seg ns b e)),v6]∧Zn H9 H12∧(e-b=1→g b e≤0),?_,?_⟩
   ·refine⟨_,rfl,_,rfl,_,_,rfl,rfl,rfl,_,rfl,ZcD (fun h1=>?_) (fun h1=>?_)⟩
    ·refine⟨_,rfl,_,rfl,_,rfl,(by show 2≤sizeLine;decide),fun k0 hk0=>?_⟩
     have s12:=Zc hk0 (.tup ((Kp b e).map kV))
     have f12:(upd H11 k0 (.tup ((Kp b e).map kV))) k0=some (.tup ((Kp b e).map kV)):=Zb
     change Ze5 _ _ (upd H11 k0 (.tup ((Kp b e).map kV))) _
     generalize upd H11 k0 (.tup ((Kp b e).map kV))=H12 at s12 f12 ⊢
     have s912:=s911.trans s12
     refine⟨DD,_,k0,Kp b e,_,rfl,rfl,.inr ⟨o,s912 _ _ f9⟩,f12,ZcA g hb1 he1,_,_,rfl,rfl,_,rfl,ZcD (fun hgt=>?_) (fun hle=>?_)⟩
     ·have hgt:=of_decide_eq_true hgt
      refine q false H12 ⟨fun z=>(by cases z),fun z=>?_⟩ (s09.trans s912)
      have z1:=((ZdJ w2 hb1).mp ((iff.mp z).2 b e hb1 he1)).1
      have h1:=of_decide_eq_true h1
      have h1:(e:Int)-(b:Int)=1:=by injection h1
      have:=z1 (by omega)
      omega
     ·exact⟨rfl,s912,fun _=>by
       have:¬ g b e>0:=fun z=>hle (decide_eq_true z)
       omega⟩
    ·exact⟨rfl,s911,fun z=>absurd (decide_eq_true (by show V.int ((e:Int)-(b:Int))=V.int 1;rw[show (e:Int)-(b:Int)=1 by omega])) h1⟩
   ·rintro σ H12 ⟨rfl,s12,hone⟩
    refine⟨_,rfl,_,rfl,_,rfl,b,e,wy,rfl,hb1,by omega,w2,w6,fun rc ls Cn H13 hrc hrd hCn hCl s13=>?_⟩
    have s913:=s12.trans s13
    refine⟨rc,rfl,⟨_,SqL.of hrc⟩,?_⟩
    refine ZcO (K:=K) (a:=rc) (xs:=ls.map V.ref) (fun j σ H14=>(∃v:Option V,σ=[some (.ref a),some (.int wy),some x,some (.ref r),v1,some (.ref DD),some (.int b),some (.int e),some (.int (seg ns b e)),v])∧(∀c∈Cn.take j,g b e≤seg ns b e+Zbe g c e)∧Zn H13 H14) ⟨⟨_,rfl⟩,(fun p hp=>by rw[Qal]at hp;cases hp),Zn.refl _⟩ (fun _ _ _ _ h=>SqL.of (h.2.2 _ _ hrc)) ?_ ?_
    ·rintro j z σ H14 hz ⟨⟨v,rfl⟩,hcs,s14⟩
     rw[Qt]at hz
     cases hlj:ls[j]? with
     | none=>rw[hlj]at hz;cases hz
     | some l =>
     rw[hlj]at hz
     cases hz
     obtain⟨cI,hcI,hl⟩:=hrd.at hlj
     rw[Qt]at hcI
     cases hcj:Cn[j]? with
     | none=>rw[hcj]at hcI;cases hcI
     | some c =>
     rw[hcj]at hcI
     cases hcI
     obtain⟨hcut,hc2⟩:=(hCn c).mp (QB hcj)
     refine⟨_,rfl,_,rfl,_,rfl,(by show 2≤sizeLine;decide),fun k0 hk0=>?_⟩
     have s15:=Zc hk0 (.tup ((Kp b e).map kV))
     have f15:(upd H14 k0 (.tup ((Kp b e).map kV))) k0=some (.tup ((Kp b e).map kV)):=Zb
     change Ze5 _ _ (upd H14 k0 (.tup ((Kp b e).map kV))) _
     generalize upd H14 k0 (.tup ((Kp b e).map kV))=H15 at s15 f15 ⊢
     have s1315:=s14.trans s15
     have s915:=s913.trans s1315
     refine⟨DD,_,k0,Kp b e,_,rfl,rfl,.inr ⟨o,s915 _ _ f9⟩,f15,ZcA g hb1 he1,?_⟩
     have hlook:∀x y,(x,y)∈c.zip (c.tail++[e])→Z3 (Zam ns.length g) (Kp x y)=some (.int (g x y)):=fun x y hxy=>by
      obtain⟨h1,h2,h3,h4⟩:=hcut
      cases c with
      | nil=>cases hc2
      | cons u rr =>
       obtain⟨_,a2,a3,_⟩:=Zfn rr u h2 h3 x y hxy
       exact ZcA g a2 (by omega)
     refine⟨_,rfl,_,rfl,_,rfl,_,rfl,DD,l,_,c,e,g,rfl,.inr ⟨o,s915 _ _ f9⟩,s1315 _ _ hl,by have:=hcut.2.2.2;omega,(fun z=>by rw[z]at hc2;cases hc2),hlook,fun H16 s16=>⟨_,_,rfl,rfl,_,_,rfl,rfl,_,rfl,ZcD (fun hgt=>?_) (fun hle=>?_)⟩⟩
     ·have hgt:=of_decide_eq_true hgt
      refine q false H16 ⟨fun z=>(by cases z),fun z=>?_⟩ ((s09.trans s915).trans s16)
      have:=((ZdJ w2 hb1).mp ((iff.mp z).2 b e hb1 he1)).2 c hcut hc2
      omega
     ·have hle:¬ g b e>seg ns b e+Zbe g c e:=fun z=>hle (decide_eq_true z)
      refine⟨⟨_,rfl⟩,fun c' hc'=>?_,s1315.trans s16⟩
      rw[Qv,hcj]at hc'
      rcases Qr.mp hc' with hc'|hc'
      ·exact hcs c' hc'
      ·have:c'=c:=by simpa using hc'
       rw[this];omega
    ·rintro σ H14 ⟨⟨v,rfl⟩,hcs,s14⟩
     have hln:Cn.length≤(ls.map V.ref).length:=by
      have:=hrd.len
      rw[Qa]at this
      rw[Qa];omega
     rw[Qn hln]at hcs
     refine⟨⟨_,_,_,_,_,rfl⟩,fun p hp=>?_,s913.trans s14⟩
     rw[Qv,hpj]at hp
     rcases Qr.mp hp with hp|hp
     ·exact hm p hp
     ·have:p=(b,e):=by simpa using hp
      rw[this]
      exact(ZdJ w2 hb1).mpr ⟨hone,fun c h1 h2=>hcs c ((hCn c).mpr ⟨h1,h2⟩)⟩
  ·rintro σ H10 ⟨⟨v1,v3,v4,v5,v6,rfl⟩,hm,s10⟩
   have lK:(Zam ns.length g).length=(Zv ns.length ns.length).length:=by unfold Zam;rw[Qa]
   rw[lK,Qn (Qd _)]at hm
   have s010:=s09.trans s10
   refine⟨_,rfl,_,rfl,a,_,rfl,.inl (SqL.of (s010 _ _ hS)),(by show 2≤sizeLine;decide),fun k0 hk0=>?_⟩
   have s4:=Zc hk0 (.tup ((Kp 0 ns.length).map kV))
   have f4:(upd H10 k0 (.tup ((Kp 0 ns.length).map kV))) k0=some (.tup ((Kp 0 ns.length).map kV)):=Zb
   have e4:(.tup [.int 0,.int (((ns.map V.int).length:Nat):Int)]:HO)=.tup ((Kp 0 ns.length).map kV):=by rw[hls];rfl
   rw[e4]
   generalize upd H10 k0 (.tup ((Kp 0 ns.length).map kV))=H11 at s4 f4 ⊢
   have s011:=s010.trans s4
   refine⟨DD,_,k0,_,_,rfl,rfl,.inr ⟨o,(s10.trans s4) _ _ f9⟩,f4,ZcA g (by omega) (Qd _),?_⟩
   refine⟨_,rfl,_,rfl,a,ns,x,t,rfl,SqL.of (s011 _ _ hS),by omega,(fun v hv=>by have:=hns v hv;omega),hT.mono (Z4 s011),hok,by omega,by omega,fun H12 s12=>⟨rfl,?_⟩⟩
   refine q _ H12 (Iff.trans ?_ iff.symm) (s011.trans s12)
   refine⟨fun z=>⟨?_,fun x y h1 h2=>hm (x,y) (Zba.mpr ⟨h1,h2⟩)⟩,fun z=>decide_eq_true (by rw[z.1])⟩
   have z:=of_decide_eq_true z
   injection z
structure Rb (d:PyData):Prop where
 wt:d.weight≤300
 gd:Gd 2 d
structure Rz (d:PyData):Prop where
 wt:d.weight≤60200
 gd:Gd 3 d
theorem Zhq:∀ {ds:List PyData},(∀d∈ds,Rb d)→PyData.weightAll ds≤301*ds.length
 | [],_=>Qd _
 | d::r,h=>by
  have a:=Zhq fun x hx=>h x (Ql _ hx)
  have b:=(h d (Qu ..)).wt
  show d.weight+1+PyData.weightAll r≤301*(r.length+1)
  omega
theorem Zif{ds:List PyData}(h:∀d∈ds,Rb d)(n:ds.length≤200):Rz (.list ds):=by
 have a:=Zhq h
 exact⟨by show PyData.weightAll ds≤_;omega,Zb0 fun d hd=>(h d hd).gd⟩
theorem ZmW{ds:List PyData}(h:∀d∈ds,Rb d)(n:ds.length≤200):Rz (.tuple ds):=by
 have a:=Zhq h
 exact⟨by show PyData.weightAll ds≤_;omega,Za4 fun d hd=>(h d hd).gd⟩
structure Ra (d:PyData):Prop where
 wt:d.weight≤90
 gd:Gd 1 d
theorem ZaU{i:Int}(h:i.natAbs<10 ^ 21):Ra (.int i):=by
 obtain⟨_,t2,t3⟩:=Zco h
 exact⟨by omega,t3.mono (by omega)⟩
theorem Zht:∀ {ds:List PyData},(∀d∈ds,Ra d)→PyData.weightAll ds≤91*ds.length
 | [],_=>Qd _
 | d::r,h=>by
  have a:=Zht fun x hx=>h x (Ql _ hx)
  have b:=(h d (Qu ..)).wt
  show d.weight+1+PyData.weightAll r≤91*(r.length+1)
  omega
theorem Zhw{ds:List PyData}(h:∀d∈ds,Ra d)(n:ds.length≤3):Rb (.tuple ds):=by
 have a:=Zht h
 exact⟨by show PyData.weightAll ds≤_;omega,Za4 fun d hd=>(h d hd).gd⟩
theorem ZlG{ds:List PyData}(h:∀d∈ds,Ra d)(n:ds.length≤3):Rb (.list ds):=by
 have a:=Zht h
 exact⟨by show PyData.weightAll ds≤_;omega,Zb0 fun d hd=>(h d hd).gd⟩
theorem ZkZ{α:Type}{P:α→Prop}{a b c:α}(ha:P a)(hb:P b)(hc:P c):∀d∈[a,b,c],P d:=fun d hd=>by
 simp only[List.mem_cons,List.not_mem_nil,or_false]at hd
 rcases hd with rfl|rfl|rfl
 ·exact ha
 ·exact hb
 ·exact hc
theorem Zoo{α:Type}{P:α→Prop}{a b:α}(ha:P a)(hb:P b):∀d∈[a,b],P d:=fun d hd=>by
 simp only[List.mem_cons,List.not_mem_nil,or_false]at hd
 rcases hd with rfl|rfl
 ·exact ha
 ·exact hb
theorem Zhs(D:Nat):Gd D .none:=⟨Qm _,rfl,rfl,rfl⟩
def Sm3(e:Int×Int×Int):Prop:=e.1.natAbs<10 ^ 20∧e.2.1.natAbs<10 ^ 20∧e.2.2.natAbs<10 ^ 20
theorem Zdi{e:Int×Int×Int}(h:Sm3 e):Rb (tD (q3 e)):=Zhw (ds:=[.int e.1,.int e.2.1,.int e.2.2]) (ZkZ (ZaU (by have:=h.1;omega)) (ZaU (by have:=h.2.1;omega)) (ZaU (by have:=h.2.2;omega))) (Qd 3)
theorem Zc9{p t a:Addr}{G:Hp}{o:HO}(h:G a=some o)(n:a≠p∧a≠t):off t (off p G) a=some o:=Zal (Zal h n.1) n.2
theorem Zeb{p t:Addr}{G:Hp}{lp lt:List V}(hp:G p=some (.lst lp))(ht:G t=some (.lst lt)):∀ {ts:ZaF} {rows:List (Int×Int×Int)},AtT G ts→ts.map (·.2)=rows.map q3→DHs (off t (off p G)) (Zl ts) (rows.map fun e=>tD (q3 e))
 | [],[],_,_=>.nil
 | [],_::_,_,h=>by cases h
 | _::_,[],_,h=>by cases h
 | u::ts,e::rows,ha,h=>by
  rw[QE,QE]at h
  injection h with h1 h2
  have h3:=ha u (Qu ..)
  rw[h1]at h3
  have h3:G u.1=some (.tup [.int e.1,.int e.2.1,.int e.2.2]):=h3
  have np:u.1≠p:=fun z=>by rw[z,hp]at h3;cases h3
  have nt:u.1≠t:=fun z=>by rw[z,ht]at h3;cases h3
  exact .cons (.tup (Zc9 h3 ⟨np,nt⟩) (.cons (.int _) (.cons (.int _) (.cons (.int _) .nil)))) (Zeb hp ht (fun v hv=>ha v (Ql _ hv)) h2)
def Rt(p t:Addr)(G:Hp)(v:V):Prop:=∃d,DH (off t (off p G)) v d∧Rz d
theorem Rt.same{p t:Addr}{G G':Hp}{v:V}(h:Rt p t G v)(s:Zn G G'):Rt p t G' v:=by
 obtain⟨d,a,b⟩:=h
 exact⟨d,a.mono (Zp (Zp s)),b⟩
theorem Rt.but{p t:Addr}{G G':Hp}{v:V}(h:Rt p t G v)(s:But p G G'):Rt p t G' v:=by
 obtain⟨d,a,b⟩:=h
 exact⟨d,a.mono (Zp (Zan s)),b⟩
theorem ZaT{p t a:Addr}{G:Hp}{xs:List V}{ds:List PyData}(f:G a=some (.lst xs))(n:a≠p∧a≠t)(h:DHs (off t (off p G)) xs ds)(hb:∀d∈ds,Rb d)(hl:ds.length≤200):Rt p t G (.ref a):=⟨.list ds,.lst (Zc9 f n) h,Zif hb hl⟩
theorem Zm3{p t a:Addr}{G:Hp}{xs:List V}{ds:List PyData}(f:G a=some (.tup xs))(n:a≠p∧a≠t)(h:DHs (off t (off p G)) xs ds)(hb:∀d∈ds,Rb d)(hl:ds.length≤200):Rt p t G (.ref a):=⟨.tuple ds,.tup (Zc9 f n) h,ZmW hb hl⟩
mutual
theorem Zmw{ns:List Int}(h:∀v∈ns,0≤v∧v≤1000000000):∀t:PT,0≤tSz ns t∧tSz ns t≤1000000000*(tLf t:Int)
 | .leaf k=>by
  show 0≤ns.getD k.toNat 0∧ns.getD k.toNat 0≤1000000000*((1:Nat):Int)
  rw[QL]
  cases hk:ns[k.toNat]? with
  | none=>exact⟨QS _,by decide⟩
  | some v=>have:=h v (QB hk);exact⟨this.1,by show v≤_;omega⟩
 | .node l=>ZfT h l
theorem ZfT{ns:List Int}(h:∀v∈ns,0≤v∧v≤1000000000):∀l:List PT,0≤ZaA ns l∧ZaA ns l≤1000000000*(Zaq l:Int)
 | []=>⟨QS _,QS _⟩
 | t::r=>by
  have a:=Zmw h t
  have b:=ZfT h r
  show 0≤tSz ns t+ZaA ns r∧tSz ns t+ZaA ns r≤1000000000*((tLf t+Zaq r:Nat):Int)
  omega
end
mutual
theorem Zg4{ns:List Int}(h:∀v∈ns,0≤v∧v≤1000000000):∀t:PT,tLf t≤13→0≤tCo ns t∧tCo ns t≤13000000000*(tNo t:Int)
 | .leaf k,_=>⟨QS _,by show (0:Int)≤13000000000*((1:Nat):Int);decide⟩
 | .node l,hl=>by
  have hl:Zaq l≤13:=hl
  have a:=Zin h l hl
  have b:=ZfT h l
  show 0≤ZaC ns l+ZaA ns l∧ZaC ns l+ZaA ns l≤13000000000*((Zac l+1:Nat):Int)
  omega
theorem Zin{ns:List Int}(h:∀v∈ns,0≤v∧v≤1000000000):∀l:List PT,Zaq l≤13→0≤ZaC ns l∧ZaC ns l≤13000000000*(Zac l:Int)
 | [],_=>⟨QS _,QS _⟩
 | t::r,hl=>by
  have hl:tLf t+Zaq r≤13:=hl
  have a:=Zg4 h t (by omega)
  have b:=Zin h r (by omega)
  show 0≤tCo ns t+ZaC ns r∧tCo ns t+ZaC ns r≤13000000000*((tNo t+Zac r:Nat):Int)
  omega
end
theorem Znw{ns:List Int}{w b e:Nat}{p:Int}{t:PT}(hn:ns.length≤12)(h:∀v∈ns,0≤v∧v≤1000000000)(he:e≤ns.length)(g:Gr ns w b e 1 p [t]):0≤p∧p≤1000000000000:=by
 obtain⟨v,pl⟩:=g.nf
 have e1:ZaC ns [t]=tCo ns t+0:=rfl
 have e2:ZaO [t]=tLv t++[]:=rfl
 rw[e2,QG]at v
 obtain⟨⟨g1,g2⟩,g3⟩:=ZeY t pl.1
 rw[v,Za1]at g3
 have c:=Zg4 h t (by omega)
 have:=g.co
 omega
theorem Zkg{p t:Addr}{G:Hp}:∀ {bs:List Addr} {ds:List (List Int)},Rd G bs ds→(∀b∈bs,b≠p∧b≠t)→DHs (off t (off p G)) (bs.map V.ref) (ds.map fun d=>.list (d.map PyData.int))
 | [],[],_,_=>.nil
 | [],_::_,h,_=>h.elim
 | _::_,[],h,_=>h.elim
 | b::bs,d::ds,h,n=>.cons (.lst (Zc9 h.1 (n b (Qu ..))) (DHs.ints d)) (Zkg h.2 fun c hc=>n c (Ql _ hc))
theorem Zjq{p t:Addr}{G:Hp}{lp lt:List V}(hp:G p=some (.lst lp))(ht:G t=some (.lst lt)):∀ {ts:ZaF} {rows:List (Int×Int×Int)},AtT G ts→ts.map (·.2)=rows.map k2e→DHs (off t (off p G)) (Zl ts) (rows.map fun e=>tD (k2e e))
 | [],[],_,_=>.nil
 | [],_::_,_,h=>by cases h
 | _::_,[],_,h=>by cases h
 | u::ts,e::rows,ha,h=>by
  rw[QE,QE]at h
  injection h with h1 h2
  have h3:=ha u (Qu ..)
  rw[h1]at h3
  have h3:G u.1=some (.tup [.int e.1,.int e.2.1]):=h3
  have np:u.1≠p:=fun z=>by rw[z,hp]at h3;cases h3
  have nt:u.1≠t:=fun z=>by rw[z,ht]at h3;cases h3
  exact .cons (.tup (Zc9 h3 ⟨np,nt⟩) (.cons (.int _) (.cons (.int _) .nil))) (Zjq hp ht (fun v hv=>ha v (Ql _ hv)) h2)
theorem Zn1{e:Int×Int×Int}(h:Sm3 e):Rb (tD (k2e e)):=Zhw (ds:=[.int e.1,.int e.2.1]) (Zoo (ZaU (by have:=h.1;omega)) (ZaU (by have:=h.2.1;omega))) (by show 2≤3;decide)
theorem ZnO{e:Int×Int×Int}(h:Sm3 e):Rb (.list ([e.1,e.2.1,e.2.2].map PyData.int)):=ZlG (ds:=[.int e.1,.int e.2.1,.int e.2.2]) (ZkZ (ZaU (by have:=h.1;omega)) (ZaU (by have:=h.2.1;omega)) (ZaU (by have:=h.2.2;omega))) (Qd 3)
def ZhU:Sp:=fun vs H Q _=>∃ (p t r:Addr) (c:Int) (lt:List V) (ts:ZaF) (rows:List (Int×Int×Int)),vs=[.ref p,.ref r]∧ZZ H p c∧c<2 ^ 39∧H t=some (.lst lt)∧H r=some (.lst (Zl ts))∧AtT H ts∧ts.map (·.2)=rows.map q3∧r≠p∧r≠t∧1≤rows.length∧rows.length≤150∧(∀e∈rows,Sm3 e) ∧
 ∀ (z:V) (c':Int) (H':Hp),Rt p t H' z→ZZ H' p c'→c≤c'→c'≤c+400→But p H H'→Q z H'
theorem AtT.butP{p:Addr}{c:Int}{H H':Hp}{ts:ZaF}(h:AtT H ts)(L:ZZ H p c)(B:But p H H'):AtT H' ts:=fun u hu=>by
 have h1:=h u hu
 refine B _ _ h1 fun z=>?_
 obtain⟨_,_,hl,_⟩:=L
 rw[z,hl]at h1;cases h1
theorem Zkq(T:Zat K mg)(f_l_pick:Df P w K mg base 2 "_law_pick" ["_law_left_here", "_law_many_here"] Zcx):Df P w K mg base 3 "_law_other_prices" ["_law_left_here", "_law_prices"] ZhU:=by
 refine T.t_l_other_prices.df ZC (fun vs H Q E h=>?_) (fun cdv f A outer s H vs Q E hr h=>?_)
 ·obtain⟨p,t,r,c,lt,ts,rows,rfl,_⟩:=h
  rfl
 obtain⟨p,t,r,c,lt,ts,rows,rfl,hL,c39,ht,hR,hat,hE,nrp,nrt,n1,n150,hsm,q⟩:=h
 refine⟨_,#[Zf,#[Zq,2,ZC.nd,(Or.inl rfl),#[Zu,f_l_pick,hr,#[Za,#[pv,0,(Or.inr (Or.inl rfl))],#[Za,#[Zk,(ZaY K),(by rfl),T.b.n_len,Qw,#[Za,‹1›,#[Zd]]],#[Zd]]],(by rfl)]],#[Zf,#[Zb8,#[ZJ,(ixL K),‹1›,‹2›],#[gT,K,3,#[ZA,#[ZB,3,ZC.nd,(Or.inl rfl)],#[ZA,#[ZB,4,ZC.nd,(Or.inl rfl)],#[ZA,#[ZB,5,ZC.nd,(Or.inl rfl)],(@ZaP _)]]]]],#[Zf,#[Zq,6,ZC.nd,(Or.inl rfl),#[ZH,#[Za,#[Zm,ZG,‹5›,#[Ze]],#[Za,#[Zm,Za2,‹5›,#[Ze]],#[Za,#[Zm,ZG,#[Zm,ZG,‹5›,#[Ze]],#[Zu,f_l_pick,hr,#[Za,#[pv,0,(Or.inr (Or.inl rfl))],#[Za,#[Ze],#[Zd]]],(by rfl)]],#[Za,#[Ze],#[Za,#[ZeB,Zdh,#[Ze]],#[Za,#[Zag],#[Za,(@Zf1 _ _ _),#[Za,(@ZjU _ _ _ _),#[Za,#[Zx,#[Za,‹5›,#[Zd]]],#[Za,#[ZeB,Zdh,#[Zm,ZeI,#[Ze],#[Ze]]],#[Zd]]]]]]]]]]]]],#[Zf,#[Zq,7,ZC.nd,(Or.inl rfl),#[Zx,#[Za,‹3›,#[Za,‹4›,#[Za,#[ZJ,(ixL K),‹6›,#[Zu,f_l_pick,hr,#[Za,#[pv,0,(Or.inr (Or.inl rfl))],#[Za,#[Ze],#[Zd]]],(by rfl)]],#[Zd]]]]]],#[Zf,#[Zq,8,ZC.nd,(Or.inl rfl),#[Zu,f_l_pick,hr,#[Za,#[pv,0,(Or.inr (Or.inl rfl))],#[Za,#[Ze],#[Zd]]],(by rfl)]],#[Zf,#[Z0,#[Zy,Zfq,‹8›,#[Ze],(ZD _)],#[Zj,#[Zo,#[Zm,ZaB,#[Zm,ZaB,#[ZF,(slL K),‹1›,#[ZL],#[Zz,‹2›]],#[ZH,#[Za,‹7›,#[Zd]]]],#[ZF,(slL K),‹1›,#[Zz,#[Zm,ZG,‹2›,#[Ze]]],#[ZL]]]]],#[ZK]],#[Zf,#[Z0,#[Zy,Zd2,‹8›,#[Ze],(ZD _)],#[Zj,#[Zo,#[ZaD,Zen,#[iL,K,‹1›],(fun _ _ _ _=>#[cg,10,Zen]),(fun _ _ _ _=>(@ZaE _)),(fun _ _ _ _=>#[Zm,(@ZkM _ K (by rfl)),#[ZF,(slT K),#[cw,10,Zen],#[ZL],#[Zz,#[Ze]]],#[Zx,#[Za,#[Zm,Za2,#[ZJ,(ixT K),#[cw,10,Zen],#[Ze]],#[ZR,Zfi,(by rfl),T.b.n_int,boot_int,#[Za,#[Zdb,#[Zcm,ZcI,#[ZJ,(ixT K),#[cw,10,Zen],#[Ze]],#[Ze],(ZD _)],(@ZdP _ _ _ _ _ #[Zcm,Zd2,#[Zu,f_l_pick,hr,#[Za,#[cv,0,Zen],#[Za,#[Ze],#[Zd]]],(Zaf Zen rfl (by ac_rfl))],#[Ze],(ZD _)])],#[Zd]]]],#[Zd]]]])]]],#[ZK]],(@Zci _ _ _ _ _ #[Zq,9,ZC.nd,(Or.inl rfl),#[ZH,#[Za,#[Zm,ZaB,#[ZF,(slL K),‹1›,#[ZL],#[Zz,‹2›]],#[ZF,(slL K),‹1›,#[Zz,#[Zm,ZG,‹2›,#[Ze]]],#[ZL]]],#[Za,#[Zm,ZaB,#[ZF,(slL K),‹1›,#[ZL],#[Zz,#[Zm,ZG,‹2›,#[Ze]]]],#[ZF,(slL K),‹1›,#[Zz,‹2›],#[ZL]]],#[Za,(@ZdT _ _ _ _ _ _ _ _ _ _ _ _ (Zn5 K) ‹1› #[ZL] #[ZL] #[Zz,#[ZeB,Zdh,#[Ze]]]),#[Za,#[ZR,(ZnI K),(by rfl),T.b.n_tuple,boot_tuple,#[Za,‹1›,#[Zd]]],#[Za,(@Zf1 _ _ _),#[Zd]]]]]]]] (@Zci _ _ _ _ _ #[Zq,9,ZC.nd,(Or.inl rfl),#[Zm,ZaB,‹9›,#[ZH,#[Za,#[ZaD,ZhT,#[iL,K,‹1›],(fun _ _ _ _=>#[cg,10,ZhT]),(fun _ _ _ _=>(@ZaE _)),(fun _ _ _ _=>#[ZR,(ZkA K),(Zaf ZhT rfl (by ac_rfl)),T.b.n_list,boot_list,#[Za,#[cw,10,ZhT],#[Zd]]])],#[Za,#[Zm,ZaB,‹1›,#[ZH,#[Za,#[Zx,#[Za,‹3›,#[Za,‹4›,#[Za,‹5›,#[Zd]]]]],#[Zd]]]],#[Za,#[ZaD,Zkl,#[iL,K,‹1›],(fun _ _ _ _=>#[cg,10,Zkl]),(fun _ _ _ _=>(@ZaE _)),(fun _ _ _ _=>#[ZF,(slT K),#[cw,10,Zkl],#[ZL],#[Zz,#[Ze]]])],#[Za,#[ZH,#[Zd]],#[Zd]]]]]]]] (@Zci _ _ _ _ _ #[Zq,9,ZC.nd,(Or.inl rfl),#[Zm,ZaB,‹9›,#[ZH,#[Za,#[Zm,ZaB,#[Zm,ZaB,#[ZF,(slL K),‹1›,#[ZL],#[Zz,‹2›]],#[ZH,#[Za,#[Zx,#[Za,‹4›,#[Za,‹3›,#[Za,‹5›,#[Zd]]]]],#[Zd]]]],#[ZF,(slL K),‹1›,#[Zz,#[Zm,ZG,‹2›,#[Ze]]],#[ZL]]],#[Za,#[Zm,ZaB,#[Zm,ZaB,#[ZF,(slL K),‹1›,#[ZL],#[Zz,‹2›]],#[ZH,#[Za,(@Zf1 _ _ _),#[Zd]]]],#[ZF,(slL K),‹1›,#[Zz,#[Zm,ZG,‹2›,#[Ze]]],#[ZL]]],#[Zd]]]]]] #[Zj,#[Zo,#[ZJ,(ixL K),‹9›,#[Zu,f_l_pick,hr,#[Za,#[pv,0,(Or.inr (Or.inl rfl))],#[Za,#[Ze],#[Zd]]],(by rfl)]]]])))]]]]]]],?_⟩
 have c0:=hL.ge
 have lts:ts.length=rows.length:=by have:=congrArg List.length hE;simpa using this
 have lrf:(Zl ts).length=rows.length:=by rw[ZV];exact lts
 refine⟨_,rfl,_,rfl,r,_,rfl,.inl (SqL.of hR),p,c,_,rfl,hL,by omega,by omega,by omega,fun k H1 k0 k1 L1 B1=>?_⟩
 rw[lrf]at k1
 obtain⟨i,rfl⟩:∃i:Nat,k=(i:Int):=⟨k.toNat,by omega⟩
 have hil:i<rows.length:=by omega
 have hat1:=AtT.butP hat hL B1
 have hr1:=B1 _ _ hR nrp
 obtain⟨x,hx⟩:∃x,(Zl ts)[i]? = some x:=⟨_,Qc (by omega)⟩
 obtain⟨u,e,rfl,hu,hbe⟩:=Zfj hE hat1 hx
 have hse:=hsm e (QB hbe)
 refine⟨_,rfl,_,rfl,r,_,_,_,rfl,rfl,SqL.of hr1,Zbl hx,u,_,rfl,SqT.of hu,rfl,_,_,rfl,_,_,rfl,_,_,rfl,rfl,?_⟩
 refine⟨_,rfl,_,_,rfl,rfl,_,rfl,_,_,rfl,rfl,_,rfl,_,_,rfl,rfl,_,rfl,p,c+1,9,rfl,L1,by omega,by decide,by decide,fun k2 H2 k20 k21 L2 B2=>⟨_,_,rfl,rfl,_,rfl,_,rfl,(by show 1≤sizeLine;decide),fun a1 ha1=>?_⟩⟩
 have s1:=Zc ha1 (.tup [.int e.2.2])
 have f1:(upd H2 a1 (.tup [.int e.2.2])) a1=some (.tup [.int e.2.2]):=Zb
 generalize upd H2 a1 (.tup [.int e.2.2])=G1 at s1 f1 ⊢
 refine⟨_,_,rfl,rfl,⟨by decide,by decide,by decide⟩,_,rfl,(by show 10≤sizeLine;decide),fun a2 ha2=>?_⟩
 have s2:=Zc ha2 (.lst [.int (e.2.2+1),.int (e.2.2-1),.int (e.2.2+1+k2),.int 0,.int (-5),.bl true,.non,.str "1",.ref a1,.int (-(10 ^ Int.toNat 20))])
 have f2:(upd G1 a2 (.lst [.int (e.2.2+1),.int (e.2.2-1),.int (e.2.2+1+k2),.int 0,.int (-5),.bl true,.non,.str "1",.ref a1,.int (-(10 ^ Int.toNat 20))])) a2=some (.lst [.int (e.2.2+1),.int (e.2.2-1),.int (e.2.2+1+k2),.int 0,.int (-5),.bl true,.non,.str "1",.ref a1,.int (-(10 ^ Int.toNat 20))]):=Zb
 generalize upd G1 a2 (.lst [.int (e.2.2+1),.int (e.2.2-1),.int (e.2.2+1+k2),.int 0,.int (-5),.bl true,.non,.str "1",.ref a1,.int (-(10 ^ Int.toNat 20))])=G2 at s2 f2 ⊢
 have s02:=s1.trans s2
 refine⟨_,rfl,_,rfl,_,rfl,_,rfl,p,c+1+1,10,rfl,L2.same s02,by omega,by decide,by decide,fun k3 H3 k30 k31 L3 B3=>?_⟩
 have n2:a2≠p:=fun z=>by obtain⟨o,ho⟩:=(L2.same s1).here;rw[z,ho]at ha2;cases ha2
 have n1':a1≠p:=fun z=>by obtain⟨o,ho⟩:=L2.here;rw[z,ho]at ha1;cases ha1
 obtain⟨v,hv,hatv⟩:=Zee (xs:=[.int (e.2.2+1),.int (e.2.2-1),.int (e.2.2+1+k2),.int 0,.int (-5),.bl true,.non,.str "1",.ref a1,.int (-(10 ^ Int.toNat 20))]) k30 k31
 refine⟨a2,_,_,v,rfl,rfl,SqL.of (B3 _ _ f2 n2),hatv,(by show 3≤sizeLine;decide),fun nw hnw=>?_⟩
 have s3:=Zc hnw (.tup [.int e.1,.int e.2.1,v])
 have f3:(upd H3 nw (.tup [.int e.1,.int e.2.1,v])) nw=some (.tup [.int e.1,.int e.2.1,v]):=Zb
 generalize upd H3 nw (.tup [.int e.1,.int e.2.1,v])=G3 at s3 f3 ⊢
 have B23:But p H2 G3:=((But.same s02).trans B3).trans (But.same s3)
 have B03:But p H G3:=(B1.trans B2).trans B23
 have f1:G3 a1=some (.tup [.int e.2.2]):=s3 _ _ (B3 _ _ (s2 _ _ f1) n1')
 have hat3:=AtT.butP hat1 L1 (B2.trans B23)
 refine⟨_,rfl,p,c+1+1+1,9,rfl,L3.same s3,by omega,by decide,by decide,fun way G0 w0 w1 L0 B4=>?_⟩
 have B04:=B03.trans B4
 have hr0:=B04 _ _ hR nrp
 have hat0:=AtT.butP hat3 (L3.same s3) B4
 obtain⟨lp,hp0⟩:∃lp,G0 p=some (.lst lp):=by obtain⟨_,_,hl,_⟩:=L0;exact⟨_,hl⟩
 obtain⟨lt',ht0⟩:∃lt',G0 t=some (.lst lt'):=by
  by_cases z:t=p
  ·rw[z];exact⟨_,hp0⟩
  ·exact⟨_,B04 _ _ ht z⟩
 have hrb:∀d∈rows.map (fun e=>tD (q3 e)),Rb d:=fun d hd=>by
  obtain⟨e,he,rfl⟩:=Qz.mp hd
  exact Zdi (hsm e he)
 have hds:=Zeb hp0 ht0 hat0 hE
 have ldr:(rows.map fun e=>tD (q3 e)).length=rows.length:=Qa ..
 have nu:∀ {G':Hp} {a:Addr},Zn G0 G'→G' a=none→a≠p∧a≠t:=fun s h=>⟨fun z=>(by rw[z,s _ _ hp0]at h;cases h),fun z=>(by rw[z,s _ _ ht0]at h;cases h)⟩
 have nt:∀ {a:Addr} {l:List V},G0 a=some (.tup l)→a≠p∧a≠t:=fun h=>⟨fun z=>(by rw[z,hp0]at h;cases h),fun z=>(by rw[z,ht0]at h;cases h)⟩
 have f1:G0 a1=some (.tup [.int e.2.2]):=B4 _ _ f1 n1'
 have nnp:nw≠p:=fun z=>by obtain⟨o,ho⟩:=L3.here;rw[z,ho]at hnw;cases hnw
 have f3:G0 nw=some (.tup [.int e.1,.int e.2.1,v]):=B4 _ _ f3 nnp
 have hnew:∃d,DH (off t (off p G0)) (.ref nw) d∧Rb d:=by
  obtain⟨z1,z2,z3⟩:=hse
  obtain⟨d,hd,hra⟩:∃d,DH (off t (off p G0)) v d∧Ra d:=by
   have nn:Ra .none:=⟨Qm _,Zhs 1⟩
   simp only[List.mem_cons,List.not_mem_nil,or_false]at hv
   rcases hv with rfl|rfl|rfl|rfl|rfl|rfl|rfl|rfl|rfl|rfl
   ·exact⟨_,.int _,ZaU (by omega)⟩
   ·exact⟨_,.int _,ZaU (by omega)⟩
   ·exact⟨_,.int _,ZaU (by omega)⟩
   ·exact⟨_,.int _,ZaU (by decide)⟩
   ·exact⟨_,.int _,ZaU (by decide)⟩
   ·exact⟨_,.bl true,Qm _,Qm _,rfl,rfl,rfl⟩
   ·exact⟨_,.non,nn⟩
   ·exact⟨_,.str _,by decide,Qm _,by ac_rfl,rfl,rfl⟩
   ·refine⟨.tuple [.int e.2.2],.tup (Zc9 f1 (nt f1)) (.cons (.int _) .nil),?_,Za4 (D:=0) fun d hd=>by rw[Qg.mp hd];exact(Zco (by omega)).gd⟩
    have:=(Zco (i:=e.2.2) (by omega)).wt
    show (PyData.int e.2.2).weight+1+0≤90
    omega
   ·exact⟨_,.int _,ZaU (by decide)⟩
  exact⟨.tuple [.int e.1,.int e.2.1,d],.tup (Zc9 f3 (nt f3)) (.cons (.int _) (.cons (.int _) (.cons hd .nil))),Zhw (ZkZ (ZaU (by omega)) (ZaU (by omega)) hra) (Qd 3)⟩
 have done:∀ (z:V) (c':Int) (H':Hp),Rt p t H' z→ZZ H' p c'→c+4≤c'→c'≤c+399→But p G0 H'→Q z H':=fun z c' H' h1 h2 h3 h4 h5=>q z c' H' h1 h2 (by omega) (by omega) (B04.trans h5)
 clear q B04 B4 B03 B23 B3 B2 hat3 hat1 s02 s1 s2 s3 f2 hatv hv hx hr1 L1 L2 L3 k30 k31 k20 k21 ha1 ha2 hnw n2 n1' f1 nnp hat hR ht hu
 obtain⟨dn,hdn,hrn⟩:=hnew
 have hdrop:∀j,∀d∈(rows.map fun e=>tD (q3 e)).drop j,Rb d:=fun j d hd=>hrb d (QW hd)
 have htake:∀j,∀d∈(rows.map fun e=>tD (q3 e)).take j,Rb d:=fun j d hd=>hrb d (QO hd)
 have ei:((i:Int)+1)=((i+1:Nat):Int):=by omega
 have app2:∀ {a b:List PyData},(∀d∈a,Rb d)→(∀d∈b,Rb d)→∀d∈a++b,Rb d:=fun ha hb d hd=>(Qr.mp hd).elim (ha d) (hb d)
 refine⟨_,rfl,_,_,rfl,rfl,_,rfl,ZcD (fun _=>?_) (fun _=>?_)⟩
 ·
  refine⟨_,rfl,_,rfl,_,rfl,r,_,rfl,SqL.of hr0,fun xa hxa=>?_⟩
  rw[ZbI]
  have xs1:=Zc hxa (.lst ((Zl ts).take i))
  have xf1:(upd G0 xa (.lst ((Zl ts).take i))) xa=some (.lst ((Zl ts).take i)):=Zb
  generalize upd G0 xa (.lst ((Zl ts).take i))=xG1 at xs1 xf1 ⊢
  refine⟨_,rfl,(by show 1≤sizeLine;decide),fun xb hxb=>?_⟩
  have xs2:=Zc hxb (.lst [.ref nw])
  have xf2:(upd xG1 xb (.lst [.ref nw])) xb=some (.lst [.ref nw]):=Zb
  generalize upd xG1 xb (.lst [.ref nw])=xG2 at xs2 xf2 ⊢
  have xt2:=xs1.trans xs2
  refine⟨xa,xb,_,_,rfl,rfl,xs2 _ _ xf1,xf2,(by rw[Qk,Qh,sizeLine_eq];omega),fun xc hxc=>?_⟩
  have xs3:=Zc hxc (.lst ((Zl ts).take i++[.ref nw]))
  have xf3:(upd xG2 xc (.lst ((Zl ts).take i++[.ref nw]))) xc=some (.lst ((Zl ts).take i++[.ref nw])):=Zb
  generalize upd xG2 xc (.lst ((Zl ts).take i++[.ref nw]))=xG3 at xs3 xf3 ⊢
  have xt3:=xt2.trans xs3
  refine⟨_,rfl,_,rfl,_,_,rfl,rfl,_,rfl,r,_,rfl,SqL.of (xt3 _ _ hr0),fun xd hxd=>?_⟩
  rw[ei,Zck]
  have xs4:=Zc hxd (.lst ((Zl ts).drop (i+1)))
  have xf4:(upd xG3 xd (.lst ((Zl ts).drop (i+1)))) xd=some (.lst ((Zl ts).drop (i+1))):=Zb
  generalize upd xG3 xd (.lst ((Zl ts).drop (i+1)))=xG4 at xs4 xf4 ⊢
  have xt4:=xt3.trans xs4
  refine⟨xc,xd,_,_,rfl,rfl,xs4 _ _ xf3,xf4,(by rw[Qe,Qk,QA,Qh,sizeLine_eq];omega),fun xe hxe=>?_⟩
  have xn:=nu xt4 hxe
  have xs5:=Zc hxe (.lst ((Zl ts).take i++[.ref nw]++(Zl ts).drop (i+1)))
  have xf5:(upd xG4 xe (.lst ((Zl ts).take i++[.ref nw]++(Zl ts).drop (i+1)))) xe=some (.lst ((Zl ts).take i++[.ref nw]++(Zl ts).drop (i+1))):=Zb
  generalize upd xG4 xe (.lst ((Zl ts).take i++[.ref nw]++(Zl ts).drop (i+1)))=xG5 at xs5 xf5 ⊢
  have xt5:=xt4.trans xs5
  have sm:=Zp (p:=t) (Zp (p:=p) xt5)
  exact done _ _ _ (ZaT xf5 xn (((hds.mono sm).take i |>.app (.cons (hdn.mono sm) .nil)).app ((hds.mono sm).drop (i+1))) (app2 (app2 (htake i) fun d hd=>by rw[Qg.mp hd];exact hrn) (hdrop (i+1))) (by rw[Qe,Qe,Qk,QA,Qh,ldr];omega)) (L0.same xt5) (by omega) (by omega) (But.same xt5)
 refine⟨_,rfl,rfl,_,rfl,ZcD (fun _=>?_) (fun _=>?_)⟩
 ·refine⟨_,rfl,r,rfl,⟨_,SqL.of hr0⟩,fun D hD=>?_⟩
  obtain⟨nDp,nDt⟩:=nu (Zn.refl _) hD
  refine Zbp (K:=K) (a:=r) (xs:=Zl ts) (fun j ys σ H5=>(∃v:Option V,σ=[some (.ref p),some (.ref r),some (.int i),some (.int e.1),some (.int e.2.1),some (.int e.2.2),some (.ref a2),some (.ref nw),some (.int way),none,v])∧(∃ (us:ZaF) (rs:List (Int×Int×Int)),ys=Zl us∧AtT H5 us∧us.map (·.2)=rs.map q3∧rs.length=j∧∀e∈rs,Sm3 e)∧(∃c5:Int,ZZ H5 p c5∧c+4≤c5∧c5≤c+4+j)∧j≤rows.length∧H5 D=some (.lst ys)∧But p G0 H5) ⟨⟨_,rfl⟩,⟨[],[],rfl,(fun t h=>by cases h),rfl,rfl,fun e h=>by cases h⟩,⟨_,L0.new hD,by omega,by omega⟩,Qm _,Zb,But.same (Zc hD _)⟩ (fun _ _ _ _ h=>SqL.of (h.2.2.2.2.2 _ _ hr0 nrp)) ?_ ?_
  ·rintro j x ys σ H5 hx ⟨⟨v',rfl⟩,⟨us,rs,rfl,hau,hEu,hrl,hrs⟩,⟨c5,L5,c51,c52⟩,hj,hD5,B5⟩
   obtain⟨u',e',rfl,hu',hbe'⟩:=Zfj hE (AtT.butP hat0 L0 B5) hx
   have hjl:j<rows.length:=(Qi.mp hbe').1
   have hse':=hsm e' (QB hbe')
   have lus:us.length=j:=by have:=congrArg List.length hEu;rw[Qa,Qa]at this;omega
   refine⟨_,rfl,_,rfl,u',_,rfl,SqT.of hu',Zcs (n:=3) (d:=2) (by decide),fun m hm=>?_⟩
   have ec:ZY [V.int e'.1,.int e'.2.1,.int e'.2.2] none (some 2)=[.int e'.1,.int e'.2.1]:=rfl
   rw[ec]
   have s6:=Zc hm (.tup [.int e'.1,.int e'.2.1])
   have f6:(upd H5 m (.tup [.int e'.1,.int e'.2.1])) m=some (.tup [.int e'.1,.int e'.2.1]):=Zb
   generalize upd H5 m (.tup [.int e'.1,.int e'.2.1])=H6 at s6 f6 ⊢
   have hu6:=s6 _ _ hu'
   have nm:m≠p:=fun z=>by obtain⟨_,_,hl,_⟩:=L5.same s6;rw[z,hl]at f6;cases f6
   have fin:∀ (dl:Int) (c7:Int) (H7:Hp) (m2:Addr),ZZ H7 p c7→c5≤c7→c7≤c5+1→But p H6 H7→H7 m2=none→(dl=0∨0≤dl∧dl≤1∧0<e'.2.2)→Zir K (.ref m) (.ref m2) (upd H7 m2 (.tup [.int (e'.2.2-dl)])) fun y H8=>H8 D=some (.lst (Zl us))∧(Zl us).length<sizeLine∧(∃v:Option V,[some (V.ref p),some (.ref r),some (.int i),some (.int e.1),some (.int e.2.1),some (.int e.2.2),some (.ref a2),some (.ref nw),some (.int way),none,some (.ref u')]=[some (.ref p),some (.ref r),some (.int i),some (.int e.1),some (.int e.2.1),some (.int e.2.2),some (.ref a2),some (.ref nw),some (.int way),none,v])∧(∃ (us':ZaF) (rs':List (Int×Int×Int)),Zl us++[y]=Zl us'∧AtT (upd H8 D (.lst (Zl us++[y]))) us'∧us'.map (·.2)=rs'.map q3∧rs'.length=j+1∧∀e∈rs',Sm3 e)∧(∃c5:Int,ZZ (upd H8 D (.lst (Zl us++[y]))) p c5∧c+4≤c5∧c5≤c+4+((j+1:Nat):Int))∧j+1≤rows.length∧(upd H8 D (.lst (Zl us++[y]))) D=some (.lst (Zl us++[y]))∧But p G0 (upd H8 D (.lst (Zl us++[y]))):=fun dl c7 H7 m2 L7 g1 g2 B7 hm2 hdl=>by
    have s8:=Zc hm2 (.tup [.int (e'.2.2-dl)])
    have f8:(upd H7 m2 (.tup [.int (e'.2.2-dl)])) m2=some (.tup [.int (e'.2.2-dl)]):=Zb
    generalize upd H7 m2 (.tup [.int (e'.2.2-dl)])=H8 at s8 f8 ⊢
    refine Zdm (s8 _ _ (B7 _ _ f6 nm)) f8 (by simp only[List.length_cons,List.length_nil,sizeLine_eq];omega) fun a9 H9 s9 f9=>?_
    have B59:But p H5 H9:=fun b o hb nb=>s9 _ _ (s8 _ _ (B7 _ _ (s6 _ _ hb) nb))
    have hD9:=B59 _ _ hD5 nDp
    have nD9:a9≠D:=fun z=>by rw[z,hD9]at f9;cases f9
    refine⟨hD9,(by rw[ZV,sizeLine_eq];omega),⟨_,rfl⟩,⟨us++[(a9,q3 (e'.1,e'.2.1,e'.2.2-dl))],rs++[(e'.1,e'.2.1,e'.2.2-dl)],by unfold Zl;rw[Qf];rfl,fun u hu=>?_,by rw[Qf,Qf,hEu];rfl,by rw[Qe,Qh];omega,fun e he=>?_⟩,⟨c7,(L7.same fun b o h=>s9 _ _ (s8 _ _ h)).at nDp.symm,by omega,by omega⟩,hjl,Zb,fun b o hb nb=>?_⟩
    ·rcases Qr.mp hu with hu|hu
     ·exact Zaa hD9 _ _ _ (AtT.butP hau L5 B59 u hu)
     ·rw[Qg.mp hu,Zi nD9];exact f9
    ·rcases Qr.mp he with he|he
     ·exact hrs e he
     ·rw[Qg.mp he]
      refine⟨hse'.1,hse'.2.1,?_⟩
      have:=hse'.2.2
      show (e'.2.2-dl).natAbs<_
      omega
    ·rw[Zi (Zg hb hD)];exact B59 _ _ (B5 b o hb nb) nb
   refine⟨_,rfl,u',_,2,_,rfl,rfl,SqT.of hu6,rfl,_,rfl,u',_,2,_,rfl,rfl,SqT.of hu6,rfl,_,_,rfl,rfl,_,rfl,ZcD (fun hgt=>?_) (fun _=>?_)⟩
   ·have hgt:=of_decide_eq_true hgt
    refine⟨_,rfl,p,c5,2,rfl,L5.same s6,by omega,by decide,by decide,fun k7 H7 _ _ L7 B7=>⟨rfl,.inr ⟨_,rfl,_,_,rfl,rfl,(by show 1≤sizeLine;decide),fun m2 hm2=>?_⟩⟩⟩
    exact fin _ _ H7 m2 L7 (by omega) (by omega) B7 hm2 (by split<;>omega)
   ·exact .inr ⟨_,rfl,_,_,rfl,rfl,(by show 1≤sizeLine;decide),fun m2 hm2=>fin _ _ H6 m2 (L5.same s6) (by omega) (by omega) (But.refl _ _) hm2 (.inl rfl)⟩
  ·rintro ys σ H5 ⟨⟨v',rfl⟩,⟨us,rs,rfl,hau,hEu,hrl,hrs⟩,⟨c5,L5,c51,c52⟩,_,hD5,B5⟩
   rw[lrf]at hrl c52
   obtain⟨lp5,hp5⟩:∃lp,H5 p=some (.lst lp):=by obtain⟨_,_,hl,_⟩:=L5;exact⟨_,hl⟩
   obtain⟨lt5,ht5⟩:∃lt',H5 t=some (.lst lt'):=by
    by_cases z:t=p
    ·rw[z];exact⟨_,hp5⟩
    ·exact⟨_,B5 _ _ ht0 z⟩
   refine done _ _ _ (ZaT hD5 ⟨nDp,nDt⟩ (Zeb hp5 ht5 hau hEu) (fun d hd=>?_) (by rw[Qa];omega)) L5 (by omega) (by omega) B5
   obtain⟨e,he,rfl⟩:=Qz.mp hd
   exact Zdi (hrs e he)
 have LS:=fun {G:Hp} (s:Zn G0 G)=>L0.same s
 refine⟨fun σ H5=>∃ (sa:Addr) (vs:List V),σ=[some (.ref p),some (.ref r),some (.int i),some (.int e.1),some (.int e.2.1),some (.int e.2.2),some (.ref a2),some (.ref nw),some (.int way),some (.ref sa)]∧H5 sa=some (.lst vs)∧vs.length=5∧(∀v∈vs,Rt p t H5 v)∧Zn G0 H5,?_,?_⟩
 ·refine⟨_,rfl,_,rfl,_,rfl,r,_,rfl,SqL.of hr0,fun b1 hb1=>?_⟩
  rw[ZbI]
  have s1:=Zc hb1 (.lst ((Zl ts).take i))
  have f1:(upd G0 b1 (.lst ((Zl ts).take i))) b1=some (.lst ((Zl ts).take i)):=Zb
  generalize upd G0 b1 (.lst ((Zl ts).take i))=g1 at s1 f1 ⊢
  refine⟨_,rfl,_,rfl,_,_,rfl,rfl,_,rfl,r,_,rfl,SqL.of (s1 _ _ hr0),fun b2 hb2=>?_⟩
  rw[ei,Zck]
  have s2:=Zc hb2 (.lst ((Zl ts).drop (i+1)))
  have f2:(upd g1 b2 (.lst ((Zl ts).drop (i+1)))) b2=some (.lst ((Zl ts).drop (i+1))):=Zb
  generalize upd g1 b2 (.lst ((Zl ts).drop (i+1)))=g2 at s2 f2 ⊢
  have t2:=s1.trans s2
  refine⟨b1,b2,_,_,rfl,rfl,s2 _ _ f1,f2,(by rw[Qk,QA,sizeLine_eq];omega),fun b3 hb3=>?_⟩
  have n3:=nu t2 hb3
  have s3:=Zc hb3 (.lst ((Zl ts).take i++(Zl ts).drop (i+1)))
  have f3:(upd g2 b3 (.lst ((Zl ts).take i++(Zl ts).drop (i+1)))) b3=some (.lst ((Zl ts).take i++(Zl ts).drop (i+1))):=Zb
  generalize upd g2 b3 (.lst ((Zl ts).take i++(Zl ts).drop (i+1)))=g3 at s3 f3 ⊢
  have t3:=t2.trans s3
  have r3:Rt p t g3 (.ref b3):=ZaT f3 n3 (((hds.mono (Zp (p:=t) (Zp (p:=p) t3))).take i).app ((hds.mono (Zp (p:=t) (Zp (p:=p) t3))).drop (i+1))) (app2 (htake i) (hdrop (i+1))) (by rw[Qe,Qk,QA,ldr];omega)
  refine⟨_,rfl,_,rfl,_,_,rfl,rfl,_,rfl,r,_,rfl,SqL.of (t3 _ _ hr0),fun b4 hb4=>?_⟩
  rw[ei,ZbI]
  have s4:=Zc hb4 (.lst ((Zl ts).take (i+1)))
  have f4:(upd g3 b4 (.lst ((Zl ts).take (i+1)))) b4=some (.lst ((Zl ts).take (i+1))):=Zb
  generalize upd g3 b4 (.lst ((Zl ts).take (i+1)))=g4 at s4 f4 ⊢
  have t4:=t3.trans s4
  refine⟨_,rfl,_,rfl,_,rfl,r,_,rfl,SqL.of (t4 _ _ hr0),fun b5 hb5=>?_⟩
  rw[Zck]
  have s5:=Zc hb5 (.lst ((Zl ts).drop i))
  have f5:(upd g4 b5 (.lst ((Zl ts).drop i))) b5=some (.lst ((Zl ts).drop i)):=Zb
  generalize upd g4 b5 (.lst ((Zl ts).drop i))=g5 at s5 f5 ⊢
  have t5:=t4.trans s5
  refine⟨b4,b5,_,_,rfl,rfl,s5 _ _ f4,f5,(by rw[Qk,QA,sizeLine_eq];omega),fun b6 hb6=>?_⟩
  have n6:=nu t5 hb6
  have s6:=Zc hb6 (.lst ((Zl ts).take (i+1)++(Zl ts).drop i))
  have f6:(upd g5 b6 (.lst ((Zl ts).take (i+1)++(Zl ts).drop i))) b6=some (.lst ((Zl ts).take (i+1)++(Zl ts).drop i)):=Zb
  generalize upd g5 b6 (.lst ((Zl ts).take (i+1)++(Zl ts).drop i))=g6 at s6 f6 ⊢
  have t6:=t5.trans s6
  have r6:Rt p t g6 (.ref b6):=ZaT f6 n6 (((hds.mono (Zp (p:=t) (Zp (p:=p) t6))).take (i+1)).app ((hds.mono (Zp (p:=t) (Zp (p:=p) t6))).drop i)) (app2 (htake (i+1)) (hdrop i)) (by rw[Qe,Qk,QA,ldr];omega)
  refine⟨_,rfl,_,rfl,_,rfl,_,rfl,r,_,rfl,SqL.of (t6 _ _ hr0),by decide,fun b7 hb7=>?_⟩
  rw[ZiH]
  have n7:=nu t6 hb7
  have s7:=Zc hb7 (.lst (Zl ts).reverse)
  have f7:(upd g6 b7 (.lst (Zl ts).reverse)) b7=some (.lst (Zl ts).reverse):=Zb
  generalize upd g6 b7 (.lst (Zl ts).reverse)=g7 at s7 f7 ⊢
  have t7:=t6.trans s7
  have r7:Rt p t g7 (.ref b7):=ZaT f7 n7 (DHs.rev (hds.mono (Zp (p:=t) (Zp (p:=p) t7)))) (fun d hd=>hrb d (List.mem_reverse.mp hd)) (by rw[Qaw,ldr];omega)
  refine⟨_,rfl,r,_,rfl,.inl ⟨SqL.of (t7 _ _ hr0),fun b8 hb8=>?_⟩⟩
  have n8:=nu t7 hb8
  have s8:=Zc hb8 (.tup (Zl ts))
  have f8:(upd g7 b8 (.tup (Zl ts))) b8=some (.tup (Zl ts)):=Zb
  generalize upd g7 b8 (.tup (Zl ts))=g8 at s8 f8 ⊢
  have t8:=t7.trans s8
  have r8:Rt p t g8 (.ref b8):=Zm3 f8 n8 (hds.mono (Zp (p:=t) (Zp (p:=p) t8))) hrb (by rw[ldr];omega)
  refine⟨(by show 5≤sizeLine;decide),fun b9 hb9=>?_⟩
  have s9:=Zc hb9 (.lst [.ref b3,.ref b6,.ref b7,.ref b8,.non])
  have u8:=s8.trans s9
  have u7:=s7.trans u8
  have u3:=s4.trans (s5.trans (s6.trans u7))
  refine⟨b9,_,rfl,Zb,rfl,fun v hv=>?_,t8.trans s9⟩
  simp only[List.mem_cons,List.not_mem_nil,or_false]at hv
  rcases hv with rfl|rfl|rfl|rfl|rfl
  ·exact r3.same u3
  ·exact r6.same u7
  ·exact r7.same u8
  ·exact r8.same s9
  ·exact⟨.none,.non,Qm _,Zhs 3⟩
 rintro σ G1 ⟨sa,vs,rfl,hsa,lvs,hvs,s01⟩
 refine⟨fun σ H5=>∃ (sa:Addr) (vs:List V),σ=[some (.ref p),some (.ref r),some (.int i),some (.int e.1),some (.int e.2.1),some (.int e.2.2),some (.ref a2),some (.ref nw),some (.int way),some (.ref sa)]∧H5 sa=some (.lst vs)∧vs.length=9∧(∀v∈vs,Rt p t H5 v)∧Zn G0 H5,?_,?_⟩
 ·refine⟨_,rfl,_,rfl,r,rfl,⟨_,SqL.of (s01 _ _ hr0)⟩,fun D hD=>?_⟩
  have nD:=nu s01 hD
  refine Zbp (K:=K) (a:=r) (xs:=Zl ts) (fun j ys σ H5=>(∃v:Option V,σ=[some (.ref p),some (.ref r),some (.int i),some (.int e.1),some (.int e.2.1),some (.int e.2.2),some (.ref a2),some (.ref nw),some (.int way),some (.ref sa),v])∧(∃bs:List Addr,ys=bs.map V.ref∧D ∉ bs∧(∀b∈bs,b≠p∧b≠t)∧Rd H5 bs ((rows.take j).map fun e=>[e.1,e.2.1,e.2.2]))∧j≤rows.length∧H5 D=some (.lst ys)∧Zn G1 H5) ⟨⟨_,rfl⟩,⟨[],rfl,(fun h=>by cases h),(fun b h=>by cases h),True.intro⟩,Qm _,Zb,Zc hD _⟩ (fun _ _ _ _ h=>SqL.of (h.2.2.2.2 _ _ (s01 _ _ hr0))) ?_ ?_
  ·rintro j x ys σ H5 hx ⟨⟨v',rfl⟩,⟨bs,rfl,nDb,hbn,hrd⟩,_,hD5,s5⟩
   obtain⟨u',e',rfl,hu',hbe'⟩:=Zfj hE (AtT.mono hat0 (s01.trans s5)) hx
   have hjl:j<rows.length:=(Qi.mp hbe').1
   have lbs:bs.length=j:=by rw[hrd.len,Qa,Qk];omega
   refine⟨_,rfl,u',_,rfl,.inr (SqT.of hu'),fun m hm=>?_⟩
   have s6:=Zc hm (.lst [.int e'.1,.int e'.2.1,.int e'.2.2])
   have nDm:D≠m:=Zg hD5 hm
   refine⟨s6 _ _ hD5,(by rw[Qa,sizeLine_eq];omega),⟨_,rfl⟩,⟨bs++[m],by rw[Qf];rfl,fun h=>?_,fun b hb=>?_,?_⟩,hjl,Zb,fun b o hb=>?_⟩
   ·rcases Qr.mp h with h|h
    ·exact nDb h
    ·exact nDm (Qg.mp h)
   ·rcases Qr.mp hb with hb|hb
    ·exact hbn b hb
    ·rw[Qg.mp hb];exact nu (s01.trans s5) hm
   ·rw[Qv,hbe',Qf]
    refine Rd.app (Rd.mono (fun c hc o ho=>?_) hrd) ⟨by rw[Zi nDm.symm];exact Zb,True.intro⟩
    rw[Zi (fun z:c=D=>nDb (by rw[← z];exact hc))];exact s6 _ _ ho
   ·rw[Zi (Zg hb hD)];exact s6 _ _ (s5 b o hb)
  rintro ys σ H5 ⟨⟨v',rfl⟩,⟨bs,rfl,nDb,hbn,hrd⟩,_,hD5,s5⟩
  rw[lrf,Qn (Qd _)]at hrd
  have r5:Rt p t H5 (.ref D):=ZaT hD5 nD (Zkg hrd hbn) (fun d hd=>by
   rw[Q0]at hd
   obtain⟨e,he,rfl⟩:=Qz.mp hd
   exact ZnO (hsm e he)) (by rw[Qa,Qa];omega)
  have t5:=s01.trans s5
  clear hrd hbn nDb hD5 nD
  refine⟨_,rfl,_,rfl,_,rfl,_,rfl,(by show 3≤sizeLine;decide),fun m1 hm1=>?_⟩
  have n1:=nu t5 hm1
  have s1:=Zc hm1 (.tup [.int e.1,.int e.2.1,.int e.2.2])
  have f1:(upd H5 m1 (.tup [.int e.1,.int e.2.1,.int e.2.2])) m1=some (.tup [.int e.1,.int e.2.1,.int e.2.2]):=Zb
  generalize upd H5 m1 (.tup [.int e.1,.int e.2.1,.int e.2.2])=g1 at s1 f1 ⊢
  refine⟨(by show 1≤sizeLine;decide),fun m2 hm2=>?_⟩
  have s2:=Zc hm2 (.lst [.ref m1])
  have f2:(upd g1 m2 (.lst [.ref m1])) m2=some (.lst [.ref m1]):=Zb
  generalize upd g1 m2 (.lst [.ref m1])=g2 at s2 f2 ⊢
  have t2:=t5.trans (s1.trans s2)
  refine⟨r,m2,_,_,rfl,rfl,t2 _ _ hr0,f2,(by rw[Qh,sizeLine_eq];omega),fun m3 hm3=>?_⟩
  have n3:=nu t2 hm3
  have s3:=Zc hm3 (.lst (Zl ts++[.ref m1]))
  have f3:(upd g2 m3 (.lst (Zl ts++[.ref m1]))) m3=some (.lst (Zl ts++[.ref m1])):=Zb
  generalize upd g2 m3 (.lst (Zl ts++[.ref m1]))=g3 at s3 f3 ⊢
  have t3:=t2.trans s3
  have r3:Rt p t g3 (.ref m3):=ZaT f3 n3 ((hds.mono (Zp (p:=t) (Zp (p:=p) t3))).app (.cons (.tup (Zc9 (s3 _ _ (s2 _ _ f1)) n1) (.cons (.int _) (.cons (.int _) (.cons (.int _) .nil)))) .nil)) (app2 hrb fun d hd=>by rw[Qg.mp hd];exact Zdi hse) (by rw[Qe,ldr,Qh];omega)
  refine⟨_,rfl,r,rfl,⟨_,SqL.of (t3 _ _ hr0)⟩,fun D2 hD2=>?_⟩
  have nD2:=nu t3 hD2
  refine Zbp (K:=K) (a:=r) (xs:=Zl ts) (fun j ys σ H6=>(∃v:Option V,σ=[some (.ref p),some (.ref r),some (.int i),some (.int e.1),some (.int e.2.1),some (.int e.2.2),some (.ref a2),some (.ref nw),some (.int way),some (.ref sa),v])∧(∃us:ZaF,ys=Zl us∧AtT H6 us∧us.map (·.2)=(rows.take j).map k2e)∧j≤rows.length∧H6 D2=some (.lst ys)∧Zn g3 H6) ⟨⟨_,rfl⟩,⟨[],rfl,(fun t h=>by cases h),rfl⟩,Qm _,Zb,Zc hD2 _⟩ (fun _ _ _ _ h=>SqL.of (h.2.2.2.2 _ _ (t3 _ _ hr0))) ?_ ?_
  ·rintro j z ys σ H6 hz ⟨⟨v',rfl⟩,⟨us,rfl,hau,hEu⟩,_,hD6,s6⟩
   obtain⟨u',e',rfl,hp,hbe'⟩:=Zfj hE (AtT.mono hat0 (t3.trans s6)) hz
   have hjl:j<rows.length:=(Qi.mp hbe').1
   have hul:us.length≤1000:=by
    have:=congrArg List.length hEu
    rw[Qa,Qa,Qk]at this
    omega
   refine⟨_,rfl,_,rfl,u',_,rfl,SqT.of hp,Zcs (n:=3) (d:=2) (by decide),fun m hm=>?_⟩
   have ec:ZY [V.int e'.1,.int e'.2.1,.int e'.2.2] none (some 2)=[.int e'.1,.int e'.2.1]:=rfl
   rw[ec]
   have sn:=Zc hm (.tup [.int e'.1,.int e'.2.1])
   have hD5:=sn _ _ hD6
   have nDn:D2≠m:=Zg hD6 hm
   refine⟨hD5,(by rw[ZV,sizeLine_eq];omega),⟨_,rfl⟩,⟨us++[(m,k2e e')],by unfold Zl;rw[Qf];rfl,fun t ht=>?_,?_⟩,hjl,Zb,fun b' o hb=>?_⟩
   ·rcases Qr.mp ht with ht|ht
    ·exact Zaa hD5 _ _ _ (sn _ _ (hau t ht))
    ·rw[Qg.mp ht,Zi nDn.symm];exact Zb
   ·rw[Qf,hEu,Qv,hbe',Qf];rfl
   ·rw[Zi (Zg hb hD2)];exact sn _ _ (s6 b' o hb)
  rintro ys σ H6 ⟨⟨v',rfl⟩,⟨us,rfl,hau,hEu⟩,_,hD6,s6⟩
  rw[lrf,Qn (Qd _)]at hEu
  have t6:=t3.trans s6
  have r6:Rt p t H6 (.ref D2):=ZaT hD6 nD2 (Zjq (t6 _ _ hp0) (t6 _ _ ht0) hau hEu) (fun d hd=>by
   obtain⟨e,he,rfl⟩:=Qz.mp hd
   exact Zn1 (hsm e he)) (by rw[Qa];omega)
  clear hau hEu hD6 nD2
  refine⟨(by show 0≤sizeLine;decide),fun m7 hm7=>?_⟩
  have n7:=nu t6 hm7
  have s7:=Zc hm7 (.lst [])
  have f7:(upd H6 m7 (.lst [])) m7=some (.lst []):=Zb
  generalize upd H6 m7 (.lst [])=g7 at s7 f7 ⊢
  have t7:=t6.trans s7
  have r7:Rt p t g7 (.ref m7):=ZaT f7 n7 .nil (fun d hd=>by cases hd) (Qm _)
  refine⟨(by show 4≤sizeLine;decide),fun m8 hm8=>?_⟩
  have s8:=Zc hm8 (.lst [.ref D,.ref m3,.ref D2,.ref m7])
  have f8:(upd g7 m8 (.lst [.ref D,.ref m3,.ref D2,.ref m7])) m8=some (.lst [.ref D,.ref m3,.ref D2,.ref m7]):=Zb
  generalize upd g7 m8 (.lst [.ref D,.ref m3,.ref D2,.ref m7])=g8 at s8 f8 ⊢
  have v7:=s7.trans s8
  have v3:=s6.trans v7
  have v5:=s1.trans (s2.trans (s3.trans v3))
  have v1:=s5.trans v5
  refine⟨sa,m8,_,_,rfl,rfl,v1 _ _ hsa,f8,(by rw[lvs];show 5+4≤sizeLine;decide),fun m9 hm9=>?_⟩
  have s9:=Zc hm9 (.lst (vs++[.ref D,.ref m3,.ref D2,.ref m7]))
  refine⟨m9,_,rfl,Zb,by rw[Qe,lvs];rfl,fun v hv=>?_,s01.trans (v1.trans s9)⟩
  rcases Qr.mp hv with hv|hv
  ·exact(hvs v hv).same (v1.trans s9)
  ·simp only[List.mem_cons,List.not_mem_nil,or_false]at hv
   rcases hv with rfl|rfl|rfl|rfl
   ·exact r5.same (v5.trans s9)
   ·exact r3.same (v3.trans s9)
   ·exact r6.same (v7.trans s9)
   ·exact r7.same (s8.trans s9)
 clear lvs hvs s01 hsa
 rintro σ G2 ⟨sa,vs,rfl,hsa,lvs,hvs,s02⟩
 refine⟨fun σ H5=>∃ (sa:Addr) (vs:List V),σ=[some (.ref p),some (.ref r),some (.int i),some (.int e.1),some (.int e.2.1),some (.int e.2.2),some (.ref a2),some (.ref nw),some (.int way),some (.ref sa)]∧H5 sa=some (.lst vs)∧sa≠p∧vs.length=11∧(∀v∈vs,Rt p t H5 v)∧Zn G0 H5,?_,?_⟩
 ·refine⟨_,rfl,?_⟩
  refine⟨_,rfl,_,rfl,_,rfl,r,_,rfl,SqL.of (s02 _ _ hr0),fun ya hya=>?_⟩
  rw[ZbI]
  have ys1:=Zc hya (.lst ((Zl ts).take i))
  have yf1:(upd G2 ya (.lst ((Zl ts).take i))) ya=some (.lst ((Zl ts).take i)):=Zb
  generalize upd G2 ya (.lst ((Zl ts).take i))=yG1 at ys1 yf1 ⊢
  refine⟨_,rfl,_,rfl,_,rfl,(by show 3≤sizeLine;decide),fun yb hyb=>?_⟩
  have nyb:=nu (s02.trans ys1) hyb
  have ys2:=Zc hyb (.tup [.int e.2.1,.int e.1,.int e.2.2])
  have yf2:(upd yG1 yb (.tup [.int e.2.1,.int e.1,.int e.2.2])) yb=some (.tup [.int e.2.1,.int e.1,.int e.2.2]):=Zb
  generalize upd yG1 yb (.tup [.int e.2.1,.int e.1,.int e.2.2])=yG2 at ys2 yf2 ⊢
  have yt2:=ys1.trans ys2
  refine⟨(by show 1≤sizeLine;decide),fun yl hyl=>?_⟩
  have ys3:=Zc hyl (.lst [.ref yb])
  have yf3:(upd yG2 yl (.lst [.ref yb])) yl=some (.lst [.ref yb]):=Zb
  generalize upd yG2 yl (.lst [.ref yb])=yG3 at ys3 yf3 ⊢
  have yt3:=yt2.trans ys3
  refine⟨ya,yl,_,_,rfl,rfl,(ys3 _ _ (ys2 _ _ yf1)),yf3,(by rw[Qk,Qh,sizeLine_eq];omega),fun yc hyc=>?_⟩
  have ys4:=Zc hyc (.lst ((Zl ts).take i++[.ref yb]))
  have yf4:(upd yG3 yc (.lst ((Zl ts).take i++[.ref yb]))) yc=some (.lst ((Zl ts).take i++[.ref yb])):=Zb
  generalize upd yG3 yc (.lst ((Zl ts).take i++[.ref yb]))=yG4 at ys4 yf4 ⊢
  have yt4:=yt3.trans ys4
  refine⟨_,rfl,_,rfl,_,_,rfl,rfl,_,rfl,r,_,rfl,SqL.of ((s02.trans yt4) _ _ hr0),fun yd hyd=>?_⟩
  rw[ei,Zck]
  have ys5:=Zc hyd (.lst ((Zl ts).drop (i+1)))
  have yf5:(upd yG4 yd (.lst ((Zl ts).drop (i+1)))) yd=some (.lst ((Zl ts).drop (i+1))):=Zb
  generalize upd yG4 yd (.lst ((Zl ts).drop (i+1)))=yG5 at ys5 yf5 ⊢
  have yt5:=yt4.trans ys5
  refine⟨yc,yd,_,_,rfl,rfl,ys5 _ _ yf4,yf5,(by rw[Qe,Qk,QA,Qh,sizeLine_eq];omega),fun ye hye=>?_⟩
  have yn:=nu (s02.trans yt5) hye
  have ys6:=Zc hye (.lst ((Zl ts).take i++[.ref yb]++(Zl ts).drop (i+1)))
  have yf6:(upd yG5 ye (.lst ((Zl ts).take i++[.ref yb]++(Zl ts).drop (i+1)))) ye=some (.lst ((Zl ts).take i++[.ref yb]++(Zl ts).drop (i+1))):=Zb
  generalize upd yG5 ye (.lst ((Zl ts).take i++[.ref yb]++(Zl ts).drop (i+1)))=yG6 at ys6 yf6 ⊢
  have yt6:=yt5.trans ys6
  have ty:=s02.trans yt6
  have fyb:=ys6 _ _ (ys5 _ _ (ys4 _ _ (ys3 _ _ yf2)))
  have ry:Rt p t yG6 (.ref ye):=ZaT yf6 yn (((hds.mono (Zp (p:=t) (Zp (p:=p) ty))).take i |>.app (.cons (.tup (Zc9 fyb nyb) (.cons (.int _) (.cons (.int _) (.cons (.int _) .nil)))) .nil)).app ((hds.mono (Zp (p:=t) (Zp (p:=p) ty))).drop (i+1))) (app2 (app2 (htake i) fun d hd=>by rw[Qg.mp hd];exact Zdi (e:=(e.2.1,e.1,e.2.2)) ⟨hse.2.1,hse.1,hse.2.2⟩) (hdrop (i+1))) (by rw[Qe,Qe,Qk,QA,Qh,ldr];omega)
  refine⟨_,rfl,_,rfl,_,rfl,r,_,rfl,SqL.of (ty _ _ hr0),fun za hza=>?_⟩
  rw[ZbI]
  have zs1:=Zc hza (.lst ((Zl ts).take i))
  have zf1:(upd yG6 za (.lst ((Zl ts).take i))) za=some (.lst ((Zl ts).take i)):=Zb
  generalize upd yG6 za (.lst ((Zl ts).take i))=zG1 at zs1 zf1 ⊢
  refine⟨(by show 1≤sizeLine;decide),fun zl hzl=>?_⟩
  have zs2:=Zc hzl (.lst [.non])
  have zf2:(upd zG1 zl (.lst [.non])) zl=some (.lst [.non]):=Zb
  generalize upd zG1 zl (.lst [.non])=zG2 at zs2 zf2 ⊢
  have zt2:=zs1.trans zs2
  refine⟨za,zl,_,_,rfl,rfl,(zs2 _ _ zf1),zf2,(by rw[Qk,Qh,sizeLine_eq];omega),fun zc hzc=>?_⟩
  have zs3:=Zc hzc (.lst ((Zl ts).take i++[.non]))
  have zf3:(upd zG2 zc (.lst ((Zl ts).take i++[.non]))) zc=some (.lst ((Zl ts).take i++[.non])):=Zb
  generalize upd zG2 zc (.lst ((Zl ts).take i++[.non]))=zG3 at zs3 zf3 ⊢
  have zt3:=zt2.trans zs3
  refine⟨_,rfl,_,rfl,_,_,rfl,rfl,_,rfl,r,_,rfl,SqL.of ((ty.trans zt3) _ _ hr0),fun zd hzd=>?_⟩
  rw[ei,Zck]
  have zs4:=Zc hzd (.lst ((Zl ts).drop (i+1)))
  have zf4:(upd zG3 zd (.lst ((Zl ts).drop (i+1)))) zd=some (.lst ((Zl ts).drop (i+1))):=Zb
  generalize upd zG3 zd (.lst ((Zl ts).drop (i+1)))=zG4 at zs4 zf4 ⊢
  have zt4:=zt3.trans zs4
  refine⟨zc,zd,_,_,rfl,rfl,zs4 _ _ zf3,zf4,(by rw[Qe,Qk,QA,Qh,sizeLine_eq];omega),fun ze hze=>?_⟩
  have zn:=nu (ty.trans zt4) hze
  have zs5:=Zc hze (.lst ((Zl ts).take i++[.non]++(Zl ts).drop (i+1)))
  have zf5:(upd zG4 ze (.lst ((Zl ts).take i++[.non]++(Zl ts).drop (i+1)))) ze=some (.lst ((Zl ts).take i++[.non]++(Zl ts).drop (i+1))):=Zb
  generalize upd zG4 ze (.lst ((Zl ts).take i++[.non]++(Zl ts).drop (i+1)))=zG5 at zs5 zf5 ⊢
  have zt5:=zt4.trans zs5
  have tz:=ty.trans zt5
  have rz:Rt p t zG5 (.ref ze):=ZaT zf5 zn (((hds.mono (Zp (p:=t) (Zp (p:=p) tz))).take i |>.app (.cons .non .nil)).app ((hds.mono (Zp (p:=t) (Zp (p:=p) tz))).drop (i+1))) (app2 (app2 (htake i) fun d hd=>by rw[Qg.mp hd];exact⟨Qm _,Zhs 2⟩) (hdrop (i+1))) (by rw[Qe,Qe,Qk,QA,Qh,ldr];omega)
  refine⟨(by show 2≤sizeLine;decide),fun l8 hl8=>?_⟩
  have s8:=Zc hl8 (.lst [.ref ye,.ref ze])
  have f8:(upd zG5 l8 (.lst [.ref ye,.ref ze])) l8=some (.lst [.ref ye,.ref ze]):=Zb
  generalize upd zG5 l8 (.lst [.ref ye,.ref ze])=q8 at s8 f8 ⊢
  have v2:=yt6.trans (zt5.trans s8)
  refine⟨sa,l8,_,_,rfl,rfl,v2 _ _ hsa,f8,(by rw[lvs];show 9+2≤sizeLine;decide),fun l9 hl9=>?_⟩
  have n9:=nu (s02.trans v2) hl9
  have s9:=Zc hl9 (.lst (vs++[.ref ye,.ref ze]))
  refine⟨l9,_,rfl,Zb,n9.1,by rw[Qe,lvs];rfl,fun v hv=>?_,s02.trans (v2.trans s9)⟩
  rcases Qr.mp hv with hv|hv
  ·exact(hvs v hv).same (v2.trans s9)
  ·simp only[List.mem_cons,List.not_mem_nil,or_false]at hv
   rcases hv with rfl|rfl
   ·exact ry.same ((zt5.trans s8).trans s9)
   ·exact rz.same (s8.trans s9)
 clear lvs hvs s02 hsa
 rintro σ G3 ⟨sa,vs,rfl,hsa,nsa,lvs,hvs,s03⟩
 refine⟨_,rfl,_,rfl,p,_,11,rfl,LS s03,by omega,by decide,by decide,fun k H9 k0 k1 L9 B9=>?_⟩
 obtain⟨z,hz,hatz⟩:=Zee (xs:=vs) k0 (by rw[lvs];exact k1)
 exact⟨sa,_,_,z,rfl,rfl,SqL.of (B9 _ _ hsa nsa),hatz,done _ _ _ ((hvs z hz).but B9) L9 (by omega) (by omega) ((But.same s03).trans B9)⟩
mutual
theorem TV.dhO{p:Addr}{H:Hp}{c:Int}(L:ZZ H p c):∀ {x:V} {t:PT},TV H x t→DH (off p H) x (toD t)
 | _,_,.leaf k=>.int k
 | _,_,.node h hs=>.tup (Zal h (fun z=>by
   obtain⟨_,_,hl,_⟩:=L
   rw[z,hl]at h;cases h)) (TVs.dhO L hs)
theorem TVs.dhO{p:Addr}{H:Hp}{c:Int}(L:ZZ H p c):∀ {xs:List V} {l:List PT},TVs H xs l→DHs (off p H) xs (Zad l)
 | _,_,.nil=>.nil
 | _,_,.cons h hs=>.cons (TV.dhO L h) (TVs.dhO L hs)
end
theorem Zh4{n m:Nat}{t:PT}(hn:n≤1000)(hok:tOk n t)(hg:tGd t)(hl:tLf t=m)(hm:m≤13):Th m 1100 13 (toD t)∧lfD (toD t)=m:=by
 obtain⟨a,b⟩:=Zlv hn hok
 obtain⟨g1,g2⟩:=hg
 have e:=Zh2 t
 exact⟨⟨by omega,by omega,a.mono (by omega)⟩,by omega⟩
theorem Zlx{p t:Addr}{G:Hp}{o:HO}(h:G t=none):Zn (off p G) (off t (off p (upd G t o))):=fun b o hb=>by
 have hg:=Zb4 _ _ hb
 have nb:b≠t:=Zg hg h
 refine Zal ?_ nb
 unfold off at hb ⊢
 split at hb
 ·cases hb
 ·rw[if_neg (by assumption),Zi nb];exact hb
theorem Zei{p t:Addr}{G:Hp}{o:HO}:Zn (off t (off p G)) (off t (off p (upd G t o))):=fun b o hb=>by
 have hg:=Zb4 _ _ hb
 have nb:b≠t:=fun z=>by rw[z]at hb;unfold off at hb;rw[if_pos rfl]at hb;cases hb
 refine Zal ?_ nb
 unfold off at hg ⊢
 split at hg
 ·cases hg
 ·rw[if_neg (by assumption),Zi nb];exact hg
def Pp2(p t:Addr)(G:Hp)(v:V):Prop:=∃ (q:Addr) (u w:V),v=.ref q∧G q=some (.tup [u,w])∧(∃d,DH (off t (off p G)) u d∧Th 60 8000 20 d)∧Rt p t G w
theorem Pp2.but{p t:Addr}{c:Int}{G G':Hp}{v:V}(h:Pp2 p t G v)(L:ZZ G p c)(B:But p G G'):Pp2 p t G' v:=by
 obtain⟨q,u,w,rfl,hq,⟨d,hd,th⟩,hw⟩:=h
 refine⟨q,u,w,rfl,B _ _ hq fun z=>?_,⟨d,hd.mono (Zp (Zan B)),th⟩,hw.but B⟩
 obtain⟨_,_,hl,_⟩:=L
 rw[z,hl]at hq;cases hq
theorem Rt.put{p t:Addr}{G:Hp}{o:HO}{v:V}(h:Rt p t G v):Rt p t (upd G t o) v:=by
 obtain⟨d,a,b⟩:=h
 exact⟨d,a.mono Zei,b⟩
theorem Pp2.put{p t:Addr}{G:Hp}{l:List V}{o:HO}{v:V}(h:Pp2 p t G v)(ht:G t=some (.lst l)):Pp2 p t (upd G t o) v:=by
 obtain⟨q,u,w,rfl,hq,⟨d,hd,th⟩,hw⟩:=h
 have nq:q≠t:=fun z=>by rw[z,ht]at hq;cases hq
 exact⟨q,u,w,rfl,by rw[Zi nq];exact hq,⟨d,hd.mono Zei,th⟩,hw.put⟩
def Pp(p:Addr)(G:Hp)(v:V):Prop:=∃ (q:Addr) (u w:V) (d e:PyData),v=.ref q∧G q=some (.tup [u,w])∧DH (off p G) u d∧Th 60 8000 20 d∧DH (off p G) w e∧Rz e
theorem Pp2.one{p t:Addr}{G:Hp}{v:V}(h:Pp2 p t G v):Pp p G v:=by
 obtain⟨q,u,w,rfl,hq,⟨d,hd,th⟩,e,he,hz⟩:=h
 exact⟨q,u,w,d,e,rfl,hq,hd.mono Zb4,th,he.mono Zb4,hz⟩
theorem TV.butP{p:Addr}{c:Int}{G G':Hp}{x:V}{t:PT}(h:TV G x t)(L:ZZ G p c)(B:But p G G'):TV G' x t:=h.mono fun a xs e=>B _ _ e fun z=>by
 obtain⟨_,_,hl,_⟩:=L
 rw[z,hl]at e;cases e
def Zgx(K:PySem.W.Frag):Sp:=fun vs H Q _=>∃ (p sa r:Addr) (c co:Int) (wy:Nat) (ns:List Int) (x:V) (d:PyData) (ts:ZaF) (rows:List (Int×Int×Int)),vs=[.ref p,.ref sa,.int wy,.int co,x,.ref r]∧ZZ H p c∧c<2 ^ 38∧H sa=some (.lst (ns.map V.int))∧sa≠p∧1≤ns.length∧ns.length≤12∧(∀v∈ns,0≤v∧v≤1000000000)∧2≤wy∧wy≤6∧DH (off p H) x d∧Th 12 1100 13 d∧H r=some (.lst (Zl ts))∧AtT H ts∧ts.map (·.2)=rows.map q3∧r≠p∧1≤rows.length∧rows.length≤150∧(∀e∈rows,Sm3 e) ∧
 ∀ (r':Addr) (xs:List V) (c':Int) (H':Hp),H' r'=some (.lst xs)→r'≠p→(∀v∈xs,Pp p H' v)→ZZ H' p c'→c≤c'→c'≤c+3000→But p H H'→Q (.ref r') H'
theorem Zjm(T:Zat K mg)(f_l_joined:Df P w K mg base 3 "_law_joined" ["_law_left_here", "_law_items", "_law_ways_here"] Zgn)(f_l_spoilt:Df P w K mg base 62 "_law_spoilt" ["_law_left_here", "_law_tree", "_law_many_here"] Zf9)(f_l_cost:Df P w K mg base 2 "_law_cost" ["_law_sizes_here", "_law_tree"] (ZfE K))(f_l_other_prices:Df P w K mg base 3 "_law_other_prices" ["_law_left_here", "_law_prices"] ZhU):Df P w K mg base 63 "_law_papers" ["_law_left_here", "_law_sizes_here", "_law_ways_here", "_law_cost_here", "_law_tree", "_law_prices"] (Zgx K):=by
 refine T.t_l_papers.df Zbz (fun vs H Q E h=>?_) (fun cdv f A outer s H vs Q E hr h=>?_)
 ·obtain⟨p,sa,r,c,co,wy,ns,x,d,ts,rows,rfl,_⟩:=h
  rfl
 obtain⟨p,sa,r,c,co,wy,ns,x,d,ts,rows,rfl,hL,c38,hS,nsp,n1,n12,hns,w2,w6,hX,hth,hR,hat,hE,nrp,m1,m150,hsm,q⟩:=h
 refine⟨_,#[Zf,#[Zq,6,Zbz.nd,(Or.inl rfl),#[Zu,f_l_joined,hr,#[Za,‹0›,#[Za,#[ZR,ZhS,(by rfl),T.b.n_list,boot_list,#[Za,#[ZR,Zlo,(by rfl),T.b.n_range,boot_range,#[Za,#[Zk,(ZaY K),(by rfl),T.b.n_len,Qw,#[Za,‹1›,#[Zd]]],#[Zd]]],#[Zd]]],#[Za,‹2›,#[Zd]]]],(by rfl)]],#[Zf,#[Zq,7,Zbz.nd,(Or.inl rfl),#[ZH,#[Za,#[Zx,#[Za,‹4›,#[Za,‹5›,#[Zd]]]],#[Za,#[Zx,#[Za,‹6›,#[Za,‹5›,#[Zd]]]],#[Za,#[Zx,#[Za,#[Zu,f_l_spoilt,hr,#[Za,‹0›,#[Za,‹4›,#[Za,#[Zk,(ZaY K),(by rfl),T.b.n_len,Qw,#[Za,‹1›,#[Zd]]],#[Zd]]]],(by rfl)],#[Za,‹5›,#[Zd]]]],#[Zd]]]]]],#[Zf,#[Zq,8,Zbz.nd,(Or.inl rfl),#[Zm,ZaB,#[Zm,ZaB,#[ZF,(slL K),‹5›,#[ZL],#[Zz,#[Zm,Za2,#[Zk,(ZaY K),(by rfl),T.b.n_len,Qw,#[Za,‹1›,#[Zd]]],#[Ze]]]],#[ZH,#[Za,#[Zx,#[Za,#[Ze],#[Za,#[Zk,(ZaY K),(by rfl),T.b.n_len,Qw,#[Za,‹1›,#[Zd]]],#[Za,#[Zu,f_l_cost,hr,#[Za,‹1›,#[Za,‹6›,#[Zd]]],(by rfl)],#[Zd]]]]],#[Zd]]]],#[ZF,(slL K),‹5›,#[Zz,#[Zk,(ZaY K),(by rfl),T.b.n_len,Qw,#[Za,‹1›,#[Zd]]]],#[ZL]]]],#[Zf,#[Zbk,#[ZcX,QC,QP,QR,ZaS,‹7›,#[Za,#[Zx,#[Za,‹6›,#[Za,‹8›,#[Zd]]]],#[Zd]]]],#[Zf,#[ZaJ,PassesOwn.never,#[Zbq,T.b.n_range,#[Za,#[Ze],#[Zd]]],#[ZB,9,Zbz.nd,(Or.inl rfl)],#[Zj,#[Zbk,#[ZcX,QC,QP,QR,ZaS,‹7›,#[Za,#[Zx,#[Za,‹4›,#[Za,#[Zu,f_l_other_prices,hr,#[Za,‹0›,#[Za,‹5›,#[Zd]]],(by rfl)],#[Zd]]]],#[Zd]]]]]],#[Zj,#[Zo,‹7›]]]]]]],?_⟩
 have c0:=hL.ge
 have lrf:(Zl ts).length=rows.length:=by have:=congrArg List.length hE;rw[ZV];simpa using this
 have em:(ns.map V.int).length=ns.length:=Qa ..
 refine⟨_,rfl,_,rfl,sa,_,rfl,.inl (SqL.of hS),_,rfl,fun rp hrp=>?_⟩
 rw[em]
 have s1:=Zc hrp (.rng 0 (ns.length:Int))
 have f1:(upd H rp (.rng 0 (ns.length:Int))) rp=some (.rng 0 (ns.length:Int)):=Zb
 generalize upd H rp (.rng 0 (ns.length:Int))=G1 at s1 f1 ⊢
 refine⟨rp,0,ns.length,rfl,f1,by omega,by omega,by omega,by omega,by omega,fun l5 hl5=>?_⟩
 rw[show ((ns.length:Int)-0).toNat=ns.length by omega]
 have s2:=Zc hl5 (.lst ((Z6 0 ns.length).map V.int))
 have f2:(upd G1 l5 (.lst ((Z6 0 ns.length).map V.int))) l5=some (.lst ((Z6 0 ns.length).map V.int)):=Zb
 generalize upd G1 l5 (.lst ((Z6 0 ns.length).map V.int))=G2 at s2 f2 ⊢
 have s02:=s1.trans s2
 refine⟨_,rfl,p,l5,c,wy,Z6 0 ns.length,ns.length,rfl,hL.same s02,by omega,by omega,by omega,f2,by rw[ZbQ];exact n1,by rw[ZbQ];omega,ZfG (Qd _),fun xo to c3 H3 hTo oko gdo lfo L3 g1 g2 B3=>?_⟩
 rw[ZbQ]at lfo
 have B03:But p H H3:=(But.same s02).trans B3
 clear s02 s1 s2 f1 f2 hrp hl5 B3
 obtain⟨tho,lfo'⟩:=Zh4 (by omega) oko gdo lfo (by omega)
 refine⟨_,rfl,_,rfl,(by show 2≤sizeLine;decide),fun q1 hq1=>?_⟩
 have nP:∀ {G:Hp} {c:Int} {a:Addr},ZZ G p c→G a=none→a≠p:=fun L h z=>by
  obtain⟨o,ho⟩:=L.here
  rw[z,ho]at h;cases h
 have nq1:=nP L3 hq1
 have s1:=Zc hq1 (.tup [x,.ref r])
 have f1:(upd H3 q1 (.tup [x,.ref r])) q1=some (.tup [x,.ref r]):=Zb
 generalize upd H3 q1 (.tup [x,.ref r])=G1 at s1 f1 ⊢
 refine⟨_,rfl,_,rfl,(by show 2≤sizeLine;decide),fun q2 hq2=>?_⟩
 have nq2:=nP (L3.same s1) hq2
 have s2:=Zc hq2 (.tup [xo,.ref r])
 have f2:(upd G1 q2 (.tup [xo,.ref r])) q2=some (.tup [xo,.ref r]):=Zb
 generalize upd G1 q2 (.tup [xo,.ref r])=G2 at s2 f2 ⊢
 have s02:=s1.trans s2
 have B02:But p H G2:=B03.trans (But.same s02)
 refine⟨_,rfl,_,rfl,_,rfl,sa,_,rfl,.inl (SqL.of (B02 _ _ hS nsp)),p,c3,x,ns.length,12,1100,13,d,by rw[em];rfl,L3.same s02,by omega,hX.mono (Zan B02),by omega,hth,by decide,by decide,fun z dz c4 H4 hz thz L4 g3 g4 B4=>?_⟩
 refine⟨_,rfl,(by show 2≤sizeLine;decide),fun q3' hq3=>?_⟩
 have s3:=Zc hq3 (.tup [z,.ref r])
 have f3:(upd H4 q3' (.tup [z,.ref r])) q3'=some (.tup [z,.ref r]):=Zb
 have nq3:=nP L4 hq3
 generalize upd H4 q3' (.tup [z,.ref r])=G3 at s3 f3 ⊢
 refine⟨(by show 3≤sizeLine;decide),fun t ht=>?_⟩
 have B34:But p H3 G3:=((But.same s02).trans B4).trans (But.same s3)
 have B03':=B03.trans B34
 have L5:ZZ G3 p c4:=L4.same s3
 have nt:t≠p:=nP L5 ht
 have s4:=Zc ht (.lst [.ref q1,.ref q2,.ref q3'])
 have f4:(upd G3 t (.lst [.ref q1,.ref q2,.ref q3'])) t=some (.lst [.ref q1,.ref q2,.ref q3']):=Zb
 have o4:Zn (off p G3) (off t (off p (upd G3 t (.lst [.ref q1,.ref q2,.ref q3'])))):=Zlx ht
 generalize upd G3 t (.lst [.ref q1,.ref q2,.ref q3'])=G4 at s4 f4 o4 ⊢
 have B04:=B03'.trans (But.same s4)
 have L6:ZZ G4 p c4:=L5.same s4
 have hR4:=B04 _ _ hR nrp
 have hat4:=AtT.butP hat hL B04
 have nrt:r≠t:=fun z=>by have:=B03' _ _ hR nrp;rw[z,ht]at this;cases this
 obtain⟨lp,hp4⟩:∃lp,G4 p=some (.lst lp):=by obtain⟨_,_,hl,_⟩:=L6;exact⟨_,hl⟩
 have hds:=Zeb hp4 f4 hat4 hE
 have hrb:∀d∈rows.map (fun e=>tD (q3 e)),Rb d:=fun d hd=>by
  obtain⟨e,he,rfl⟩:=Qz.mp hd
  exact Zdi (hsm e he)
 have ldr:(rows.map fun e=>tD (q3 e)).length=rows.length:=Qa ..
 have rr:Rt p t G4 (.ref r):=ZaT hR4 ⟨nrp,nrt⟩ hds hrb (by rw[ldr];omega)
 have hX4:DH (off t (off p G4)) x d:=(hX.mono (Zan B03')).mono o4
 have thx:Th 60 8000 20 d:=hth.mono (by omega) (by omega) (by omega)
 have hTo4:TV G4 xo to:=TV.butP hTo L3 (B34.trans (But.same s4))
 have hXo4:DH (off t (off p G4)) xo (toD to):=((hTo.dhO L3).mono (Zan B34)).mono o4
 have all4:∀v∈([.ref q1,.ref q2,.ref q3']:List V),Pp2 p t G4 v:=fun v hv=>by
  simp only[List.mem_cons,List.not_mem_nil,or_false]at hv
  rcases hv with rfl|rfl|rfl
  ·exact⟨q1,x,.ref r,rfl,s4 _ _ (s3 _ _ (B4 _ _ (s2 _ _ f1) nq1)),⟨d,hX4,thx⟩,rr⟩
  ·exact⟨q2,xo,.ref r,rfl,s4 _ _ (s3 _ _ (B4 _ _ f2 nq2)),⟨_,hXo4,tho.mono (by omega) (by omega) (by omega)⟩,rr⟩
  ·exact⟨q3',z,.ref r,rfl,s4 _ _ f3,⟨dz,(hz.mono (Zp s3)).mono o4,thz.mono (by omega) (by omega) (by omega)⟩,rr⟩
 have hS4:=B04 _ _ hS nsp
 have f4':=f4
 have done:∀ (xs:List V) (c':Int) (H':Hp),H' t=some (.lst xs)→(∀v∈xs,Pp2 p t H' v)→ZZ H' p c'→c+0≤c'→c'≤c+3000→(∀b o,H b=some o→b≠p→H' b=some o)→Q (.ref t) H':=fun xs c' H' h1 h2 h3 h4 h5 h6=>q t xs c' H' h1 nt (fun v hv=>(h2 v hv).one) h3 (by omega) h5 h6
 have htH:H t=none:=by
  cases hh:H t with
  | none=>rfl
  | some o=>have:=B03' _ _ hh nt;rw[ht]at this;cases this
 clear q B03' B34 B02 B03 hTo hz s4 f3 s3 f2 s2 f1 s1 s02 o4 ht hq1 hq2 hq3 L5 L4 L3 hX hR hat hL
 have nu:∀ {G':Hp} {a:Addr},Zn G4 G'→G' a=none→a≠p∧a≠t:=fun s h=>⟨fun z=>(by rw[z,s _ _ hp4]at h;cases h),fun z=>(by rw[z,s _ _ f4]at h;cases h)⟩
 have hno:tDp to+1≤ns.length∧tNo to+1≤2*ns.length:=by obtain⟨g1,g2⟩:=gdo;omega
 have hco:=Zg4 hns to (by omega)
 refine⟨_,rfl,_,rfl,sa,_,rfl,.inl (SqL.of hS4),_,_,rfl,rfl,_,rfl,r,_,rfl,SqL.of hR4,fun b1 hb1=>?_⟩
 rw[em,show ((ns.length:Int)-1)=((ns.length-1:Nat):Int) by omega,ZbI]
 have s1:=Zc hb1 (.lst ((Zl ts).take (ns.length-1)))
 have f1:(upd G4 b1 (.lst ((Zl ts).take (ns.length-1)))) b1=some (.lst ((Zl ts).take (ns.length-1))):=Zb
 generalize upd G4 b1 (.lst ((Zl ts).take (ns.length-1)))=g1 at s1 f1 ⊢
 refine⟨_,rfl,sa,_,rfl,.inl (SqL.of (s1 _ _ hS4)),_,rfl,_,rfl,sa,ns,xo,to,rfl,SqL.of (s1 _ _ hS4),by omega,(fun v hv=>by have:=hns v hv;omega),hTo4.mono (Z4 s1),oko,by omega,by omega,fun g2 s2=>⟨(by show 3≤sizeLine;decide),fun b3 hb3=>?_⟩⟩
 have t2:=s1.trans s2
 have n3:=nu t2 hb3
 rw[em]
 have s3:=Zc hb3 (.tup [.int 0,.int (ns.length:Int),.int (tCo ns to)])
 have f3:(upd g2 b3 (.tup [.int 0,.int (ns.length:Int),.int (tCo ns to)])) b3=some (.tup [.int 0,.int (ns.length:Int),.int (tCo ns to)]):=Zb
 generalize upd g2 b3 (.tup [.int 0,.int (ns.length:Int),.int (tCo ns to)])=g3 at s3 f3 ⊢
 refine⟨(by show 1≤sizeLine;decide),fun b4 hb4=>?_⟩
 have s4:=Zc hb4 (.lst [.ref b3])
 have f4:(upd g3 b4 (.lst [.ref b3])) b4=some (.lst [.ref b3]):=Zb
 generalize upd g3 b4 (.lst [.ref b3])=g4 at s4 f4 ⊢
 have t4:=t2.trans (s3.trans s4)
 refine⟨b1,b4,_,_,rfl,rfl,s4 _ _ (s3 _ _ (s2 _ _ f1)),f4,(by rw[Qk,Qh,sizeLine_eq];omega),fun b5 hb5=>?_⟩
 have s5:=Zc hb5 (.lst ((Zl ts).take (ns.length-1)++[.ref b3]))
 have f5:(upd g4 b5 (.lst ((Zl ts).take (ns.length-1)++[.ref b3]))) b5=some (.lst ((Zl ts).take (ns.length-1)++[.ref b3])):=Zb
 generalize upd g4 b5 (.lst ((Zl ts).take (ns.length-1)++[.ref b3]))=g5 at s5 f5 ⊢
 have t5:=t4.trans s5
 refine⟨_,rfl,_,rfl,sa,_,rfl,.inl (SqL.of (t5 _ _ hS4)),_,rfl,r,_,rfl,SqL.of (t5 _ _ hR4),fun b6 hb6=>?_⟩
 rw[em,Zck]
 have s6:=Zc hb6 (.lst ((Zl ts).drop ns.length))
 have f6:(upd g5 b6 (.lst ((Zl ts).drop ns.length))) b6=some (.lst ((Zl ts).drop ns.length)):=Zb
 generalize upd g5 b6 (.lst ((Zl ts).drop ns.length))=g6 at s6 f6 ⊢
 have t6:=t5.trans s6
 refine⟨b5,b6,_,_,rfl,rfl,s6 _ _ f5,f6,(by rw[Qe,Qk,QA,Qh,sizeLine_eq];omega),fun b7 hb7=>?_⟩
 have n7:=nu t6 hb7
 have s7:=Zc hb7 (.lst ((Zl ts).take (ns.length-1)++[.ref b3]++(Zl ts).drop ns.length))
 have f7:(upd g6 b7 (.lst ((Zl ts).take (ns.length-1)++[.ref b3]++(Zl ts).drop ns.length))) b7=some (.lst ((Zl ts).take (ns.length-1)++[.ref b3]++(Zl ts).drop ns.length)):=Zb
 generalize upd g6 b7 (.lst ((Zl ts).take (ns.length-1)++[.ref b3]++(Zl ts).drop ns.length))=g7 at s7 f7 ⊢
 have t7:=t6.trans s7
 have r7:Rt p t g7 (.ref b7):=ZaT f7 n7 (((hds.mono (Zp (p:=t) (Zp (p:=p) t7))).take (ns.length-1) |>.app (.cons (.tup (Zc9 (s7 _ _ (s6 _ _ (s5 _ _ (s4 _ _ f3)))) n3) (.cons (.int _) (.cons (.int _) (.cons (.int _) .nil)))) .nil)).app ((hds.mono (Zp (p:=t) (Zp (p:=p) t7))).drop ns.length)) (fun d hd=>by
   rcases Qr.mp hd with hd|hd
   ·rcases Qr.mp hd with hd|hd
    ·exact hrb d (QO hd)
    ·rw[Qg.mp hd]
     exact Zdi (e:=(0,(ns.length:Int),tCo ns to)) ⟨by show (0:Int).natAbs<_;decide,by show ((ns.length:Int)).natAbs<_;omega,by show (tCo ns to).natAbs<_;omega⟩
   ·exact hrb d (QW hd)) (by rw[Qe,Qe,Qk,QA,Qh,ldr];omega)
 have f47:=t7 _ _ f4'
 refine⟨_,rfl,.inl ⟨rfl,_,SqL.of f47⟩,_,rfl,_,rfl,(by show 2≤sizeLine;decide),fun q4 hq4=>?_⟩
 have n8:=nu t7 hq4
 have s8:=Zc hq4 (.tup [xo,.ref b7])
 have f8:(upd g7 q4 (.tup [xo,.ref b7])) q4=some (.tup [xo,.ref b7]):=Zb
 generalize upd g7 q4 (.tup [xo,.ref b7])=g8 at s8 f8 ⊢
 have t8:=t7.trans s8
 have f48:=t8 _ _ f4'
 refine⟨t,_,_,rfl,rfl,f48,(by show 3<sizeLine;decide),?_⟩
 have all8:∀v∈([.ref q1,.ref q2,.ref q3']:List V)++[.ref q4],Pp2 p t g8 v:=fun v hv=>by
  rcases Qr.mp hv with hv|hv
  ·exact(all4 v hv).but L6 (But.same t8)
  ·rw[Qg.mp hv]
   exact⟨q4,xo,.ref b7,rfl,f8,⟨_,hXo4.mono (Zp (Zp t8)),tho.mono (by omega) (by omega) (by omega)⟩,r7.same s8⟩
 have B08:∀b o,H b=some o→b≠p→(upd g8 t (.lst ([.ref q1,.ref q2,.ref q3']++[.ref q4]))) b=some o:=fun b o hb nb=>by
  rw[Zi (Zg hb htH)];exact t8 _ _ (B04 b o hb nb)
 have L8:ZZ (upd g8 t (.lst ([.ref q1,.ref q2,.ref q3']++[.ref q4]))) p c4:=(L6.same t8).at nt.symm
 have f9:(upd g8 t (.lst ([.ref q1,.ref q2,.ref q3']++[.ref q4]))) t=some (.lst ([.ref q1,.ref q2,.ref q3']++[.ref q4])):=Zb
 have all9:∀v∈([.ref q1,.ref q2,.ref q3']:List V)++[.ref q4],Pp2 p t (upd g8 t (.lst ([.ref q1,.ref q2,.ref q3']++[.ref q4]))) v:=fun v hv=>(all8 v hv).put f48
 have hX9:DH (off t (off p (upd g8 t (.lst ([.ref q1,.ref q2,.ref q3']++[.ref q4]))))) x d:=(hX4.mono (Zp (Zp t8))).mono Zei
 have hR9:(upd g8 t (.lst ([.ref q1,.ref q2,.ref q3']++[.ref q4]))) r=some (.lst (Zl ts)):=by rw[Zi nrt];exact t8 _ _ hR4
 have hat9:AtT (upd g8 t (.lst ([.ref q1,.ref q2,.ref q3']++[.ref q4]))) ts:=fun u hu=>Zaa f48 _ _ _ (t8 _ _ (hat4 u hu))
 generalize upd g8 t (.lst ([.ref q1,.ref q2,.ref q3']++[.ref q4]))=H9 at f9 all9 hX9 hR9 hat9 B08 L8 ⊢
 clear all8 f48 f47 r7 all4 rr hds hX4 hXo4 hTo4 hS4 hR4 hat4 B04 L6 hp4 f8 f7 f6 f5 f4 f3 f1 t8 s8 t7 s7 t6 s6 t5 s5 t4 s4 s3 t2 s2 s1 n8 n7 n3 hb1 hb3 hb4 hb5 hb6 hb7 hq4
 refine⟨_,rfl,by omega,by omega,?_⟩
 refine ZaR (fun i σ H2=>∃ (xs:List V) (v:Option V) (c2:Int),σ=[some (.ref p),some (.ref sa),some (.int wy),some (.int co),some x,some (.ref r),some xo,some (.ref t),some (.ref b7),v]∧H2 t=some (.lst xs)∧xs.length=4+i∧(∀v∈xs,Pp2 p t H2 v)∧DH (off t (off p H2)) x d∧H2 r=some (.lst (Zl ts))∧AtT H2 ts∧ZZ H2 p c2∧c≤c2∧c2≤c+400+400*i∧(∀b o,H b=some o→b≠p→H2 b=some o))
  ⟨_,_,c4,rfl,f9,rfl,all9,hX9,hR9,hat9,L8,by omega,by omega,B08⟩ ?_ ?_
 ·rintro i σ H2 hi ⟨xs,v,c2,rfl,h9,hn,hall,hx2,hr2,ha2,L2,g1',g2',B2⟩
  refine⟨_,rfl,.inl ⟨rfl,_,SqL.of h9⟩,_,rfl,_,rfl,_,rfl,p,t,r,c2,xs,ts,rows,rfl,L2,by omega,h9,hr2,ha2,hE,nrp,nrt,m1,m150,hsm,fun z c3 H3 hz L3 g3' g4' B3=>?_⟩
  refine⟨(by show 2≤sizeLine;decide),fun q5 hq5=>?_⟩
  have h93:=B3 _ _ h9 nt
  have nq:q5≠p:=nP L3 hq5
  have s5:=Zc hq5 (.tup [x,z])
  have f5:(upd H3 q5 (.tup [x,z])) q5=some (.tup [x,z]):=Zb
  generalize upd H3 q5 (.tup [x,z])=G5 at s5 f5 ⊢
  have h95:=s5 _ _ h93
  have B25:But p H2 G5:=B3.trans (But.same s5)
  have hx5:DH (off t (off p G5)) x d:=hx2.mono (Zp (Zan B25))
  refine⟨t,_,_,rfl,rfl,h95,by rw[hn,sizeLine_eq];omega,xs++[.ref q5],_,c3,rfl,Zb,by rw[Qe,Qh];omega,fun v' hv'=>?_,hx5.mono Zei,by rw[Zi nrt];exact B25 _ _ hr2 nrp,fun u hu=>Zaa h95 _ _ _ (AtT.butP ha2 L2 B25 u hu),(L3.same s5).at nt.symm,by omega,by omega,fun b o hb nb=>?_⟩
  ·rcases Qr.mp hv' with hv'|hv'
   ·exact((hall v' hv').but L2 B25).put h95
   ·rw[Qg.mp hv']
    exact Pp2.put ⟨q5,x,z,rfl,f5,⟨d,hx5,thx⟩,hz.same s5⟩ h95
  ·rw[Zi (Zg hb htH)];exact B25 _ _ (B2 b o hb nb) nb
 ·rintro σ H2 ⟨xs,v,c2,rfl,h9,hn,hall,hx2,hr2,ha2,L2,g1',g2',B2⟩
  exact⟨_,rfl,done xs c2 H2 h9 hall L2 (by omega) (by omega) B2⟩
theorem Zis:∀l:List Int,(∀i∈l,i.natAbs<10 ^ 21)→PyData.weightAll (l.map PyData.int)≤73*l.length∧∀d∈l.map PyData.int,Gd 0 d
 | [],_=>⟨Qd _,fun d hd=>by cases hd⟩
 | i::r,h=>by
  obtain⟨b,c⟩:=Zis r fun x hx=>h x (Ql _ hx)
  obtain⟨t1,t2,t3⟩:=Zco (h i (Qu ..))
  refine⟨?_,fun d hd=>?_⟩
  ·show (PyData.int i).weight+1+PyData.weightAll (r.map PyData.int)≤73*(r.length+1)
   omega
  ·rcases QK.mp hd with rfl|hd
   ·exact t3
   ·exact c d hd
theorem Zgs{ns:List Int}{d e:PyData}(h1:∀v∈ns,0≤v∧v≤1000000000)(hn:ns.length≤100)(h:Th 60 8000 20 d)(hz:Rz e):(PyData.list [.list (ns.map PyData.int),d,e]).canLay0=true∧(PyData.list [.list (ns.map PyData.int),d,e]).depth≤64∧(PyData.list [.list (ns.map PyData.int),d,e]).shown.length≤sizeLine∧(PyData.list [.list (ns.map PyData.int),d,e]).showable=true:=by
 obtain⟨a,b⟩:=Zis ns fun i hi=>by have:=h1 i hi;omega
 have g:=Zb0 (D:=20) (ds:=[.list (ns.map PyData.int),d,e]) (ZkZ ((Zb0 b).mono (by omega)) h.gd (hz.gd.mono (by omega)))
 refine⟨g.lay,QI g.dp (by decide),?_,g.shw⟩
 have s:=PyData.shown_le 22 (by decide) _ (PyData.leavesShort_of_canLay0 22 _ g.lay g.sh)
 have hw:(PyData.list [.list (ns.map PyData.int),d,e]).weight=PyData.weightAll (ns.map PyData.int)+1+(d.weight+1+(e.weight+1+0)):=rfl
 have w:=h.wt
 have w':=hz.wt
 rw[sizeLine_eq]
 omega
theorem Zf5{ns:List Int}{wy:Nat}{p:Int}{t:PT}{pf:Nat→Nat→Int}(n1:1≤ns.length)(h0:∀v∈ns,0≤v)(w2:2≤wy)(g:Gr ns wy 0 ns.length 1 p [t])(hP:∀b e,b<e→e≤ns.length→∃t,Gr ns wy b e 1 (pf b e) [t]):Zda ns wy (toD t) (ZcB ns.length pf):=by
 obtain⟨t',g'⟩:=hP 0 ns.length (by omega) (Qd _)
 have e1:ZaC ns [t]=tCo ns t+0:=rfl
 have e2:ZaO [t]=tLv t++[]:=rfl
 obtain⟨v,pl⟩:=g.nf
 rw[e2,QG]at v
 refine⟨t,pf,rfl,pl.1,by rw[v,Zlj],rfl,?_,fun x y h1 h2=>?_⟩
 ·have:=Zbb g g'
  have:=g.co
  omega
 ·rw[ZlP h0 w2 hP h1 h2];exact QS _
theorem Zlu{ns:List Int}{wy:Nat}{pf:Nat→Nat→Int}(n12:ns.length≤12)(h:∀v∈ns,0≤v∧v≤1000000000)(hP:∀b e,b<e→e≤ns.length→∃t,Gr ns wy b e 1 (pf b e) [t]):∀e∈(Zv ns.length ns.length).map (tri pf),Sm3 e:=fun e he=>by
 obtain⟨⟨x,y⟩,hp,rfl⟩:=Qz.mp he
 obtain⟨h1,h2⟩:=Zba.mp hp
 obtain⟨t,g⟩:=hP x y h1 h2
 have:=Znw n12 h h2 g
 refine⟨?_,?_,?_⟩
 ·show ((x:Int)).natAbs<_;omega
 ·show ((y:Int)).natAbs<_;omega
 ·show (pf x y).natAbs<_;omega
theorem ZmI{G:Hp}{ts:ZaF}{rows:List (Int×Int×Int)}:AtT G ts→ts.map (·.2)=rows.map q3→DHs G (Zl ts) (rows.map fun e=>tD (q3 e)):=by
 induction ts generalizing rows with
 | nil =>
  intro _ h
  cases rows with
  | nil=>exact .nil
  | cons a r=>cases h
 | cons u ts ih =>
  intro ha h
  cases rows with
  | nil=>cases h
  | cons e rows =>
   rw[QE,QE]at h
   injection h with h1 h2
   have h3:=ha u (Qu ..)
   rw[h1]at h3
   have h3:G u.1=some (.tup [.int e.1,.int e.2.1,.int e.2.2]):=h3
   exact .cons (.tup h3 (.cons (.int _) (.cons (.int _) (.cons (.int _) .nil)))) (ih (fun v hv=>ha v (Ql _ hv)) h2)
theorem ZmE{f:Addr}{fd:FuncData}(F:Fun K "law" "law" Zcw f fd)(T:Zat K mg):Zd6 P w K mg base CX0 65 f fd ["_law_script"] (ZhX K):=by
 have f_l_mix:Df P w K mg base 1 "_law_mix" ["_law_cell", "_law_k"] Zku:=ZmD T
 have f_l_left:Df P w K mg base 1 "_law_left" ["_law_script", "_law_k"] (ZkL K):=Zld T
 have f_l_pick:Df P w K mg base 2 "_law_pick" ["_law_left_here", "_law_many_here"] Zcx:=Zk7 T f_l_mix
 have f_l_sizes:Df P w K mg base 4 "_law_sizes" ["_law_left_here", "_law_most"] Zii:=ZjQ T f_l_pick (ZkT T f_l_pick)
 have f_l_ways:Df P w K mg base 3 "_law_ways" ["_law_left_here"] Zj0:=Zlp T f_l_pick
 have f_l_rows_in:Df P w K mg base 1 "_law_rows_in" ["_law_tree"] ZfU:=Zk3 T
 have f_l_cost:Df P w K mg base 2 "_law_cost" ["_law_sizes_here", "_law_tree"] (ZfE K):=Zlk T f_l_rows_in
 have f_l_shows:Df P w K mg base 3 "_law_shows" ["_law_sizes_here", "_law_ways_here", "_law_tree", "_law_thing"] (ZgR K):=ZiM T (ZiD T) f_l_rows_in (Zlt T) (Zlc T) (Zk1 T) f_l_cost
 have f_l_papers:Df P w K mg base 63 "_law_papers" ["_law_left_here", "_law_sizes_here", "_law_ways_here", "_law_cost_here", "_law_tree", "_law_prices"] (Zgx K):=Zjm T (Zi2 T f_l_pick) (Zja T f_l_pick (Zh5 T 60)) f_l_cost (Zkq T f_l_pick)
 have f_least_groves':∀ns wy,Df P w K mg base 3 "least_groves" ["sizes", "ways"] (Zdy K ns wy):=fun ns wy=>ZiF T ns wy (ZlN T ns wy (Zkn T ns wy)) (ZjK T ns wy (Zkn T ns wy))
 have f_near_plan:Df P w K mg base 4 "near_plan" ["sizes", "ways"] (ZjX K):=ZlL T f_least_groves'
 have f_prices_for:Df P w K mg base 4 "prices_for" ["sizes", "ways"] (ZnZ K):=ZnA T f_least_groves'
 have f_shows_near:Df P w K mg base 46 "shows_near" ["sizes", "ways", "tree", "prices"] (ZgC 30):=Zje T 30 (Zky T 30 (Zmp T (Zid T) 30)) (Zl6 T (Zg3 T (Zid T)) (Zl3 T)) (ZiZ T (Zml T (ZmX T) 13)) (Zlr T (Zmq T)) (ZlB T (Zmq T))
 refine F.ok ZbB (fun vs H Q E h=>?_) (fun cdv A outer s H vs Q E hr h=>?_)
 ·obtain⟨a,ns,rfl,_⟩:=h
  rfl
 obtain⟨a,ns,rfl,hS,h63,q⟩:=h
 refine⟨_,#[Zf,#[ZaJ,PassesOwn.never,#[Zbq,T.b.n_range,#[Za,#[Zm,ZG,#[Ze],#[Zk,(ZdI rfl),(by rfl),T.b.n_min,boot_min,#[Za,#[Ze],#[Za,#[Zk,(ZaY K),(by rfl),T.b.n_len,Qw,#[Za,‹0›,#[Zd]]],#[Zd]]]]],#[Zd]]],#[ZB,1,ZbB.nd,(Or.inl rfl)],#[Zf,#[Zq,2,ZbB.nd,(Or.inl rfl),#[Zu,f_l_left,hr,#[Za,‹0›,#[Za,‹1›,#[Zd]]],(by rfl)]],#[Zf,#[Zq,3,ZbB.nd,(Or.inl rfl),#[Zu,f_l_sizes,hr,#[Za,‹2›,#[Za,#[ZJ,(ixL K),#[ZH,#[Za,#[Ze],#[Za,#[Ze],#[Za,#[Ze],#[Za,#[Ze],#[Zd]]]]]],#[Zu,f_l_pick,hr,#[Za,‹2›,#[Za,#[Ze],#[Zd]]],(by rfl)]],#[Zd]]],(by rfl)]],#[Zf,#[Zq,4,ZbB.nd,(Or.inl rfl),#[Zu,f_l_ways,hr,#[Za,‹2›,#[Zd]],(by rfl)]],#[Zf,#[Zb8,#[Zu,f_near_plan,hr,#[Za,‹3›,#[Za,‹4›,#[Zd]]],(by rfl)],#[gT,K,2,#[ZA,#[ZB,5,ZbB.nd,(Or.inl rfl)],#[ZA,#[ZB,6,ZbB.nd,(Or.inl rfl)],(@ZaP _)]]]],#[Zf,#[Zq,7,ZbB.nd,(Or.inl rfl),#[Zu,f_prices_for,hr,#[Za,‹3›,#[Za,‹4›,#[Zd]]],(by rfl)]],#[Zf,#[Z0,#[Zy,ZlW,#[Zu,f_shows_near,hr,#[Za,‹3›,#[Za,‹4›,#[Za,‹6›,#[Za,‹7›,#[Zd]]]]],(by rfl)],#[Zag],(ZD _)],#[Zj,#[Zo,#[Zag]]],#[ZK]],#[Zj,#[ZaJ,PassesOwn.never,#[iL,K,#[Zu,f_l_papers,hr,#[Za,‹2›,#[Za,‹3›,#[Za,‹4›,#[Za,‹5›,#[Za,‹6›,#[Za,‹7›,#[Zd]]]]]]],(by rfl)]],#[gT,K,2,#[ZA,#[ZB,8,ZbB.nd,(Or.inl rfl)],#[ZA,#[ZB,9,ZbB.nd,(Or.inl rfl)],(@ZaP _)]]],#[Zf,#[Zq,10,ZbB.nd,(Or.inl rfl),#[ZR,(@Znr _ K _ hr (by rfl)),(by rfl),T.b.n_str,boot_str,#[Za,#[ZH,#[Za,‹3›,#[Za,‹8›,#[Za,‹9›,#[Zd]]]]],#[Zd]]]],#[Zf,#[Zq,11,ZbB.nd,(Or.inl rfl),#[Zu,f_shows_near,hr,#[Za,‹3›,#[Za,‹4›,#[Za,‹8›,#[Za,‹9›,#[Zd]]]]],(by rfl)]],#[Zf,#[Z0,(@PW.pt _ _ _ #[ZcN,#[Za9,#[Zak,#[Zk,(Zcy K),(by rfl),T.b.n_isinstance,boot_isinstance,#[Za,‹11›,#[Za,#[Zbg,T.b.n_bool,boot_bool,(by rfl)],#[Zd]]]]]],#[Zcv,#[Zy,Zgq,‹11›,#[Zu,f_l_shows,hr,#[Za,‹3›,#[Za,‹4›,#[Za,‹8›,#[Za,‹9›,#[Zd]]]]],(by rfl)],(ZD _)]]]),#[Zj,#[Zo,#[Zag]]],#[ZK]],#[Zj,#[Z0,#[Zy,Zgq,#[ZR,(@Znr _ K _ hr (by rfl)),(by rfl),T.b.n_str,boot_str,#[Za,#[ZH,#[Za,‹3›,#[Za,‹8›,#[Za,‹9›,#[Zd]]]]],#[Zd]]],‹10›,(ZD _)],#[Zj,#[Zo,#[Zag]]],#[ZK]]]]]]]]]]]]]]],#[Zj,#[Zo,#[Zag]]]],?_⟩
 have hlen:(((ns.map V.int).length:Nat):Int)=(ns.length:Int):=by rw[Qa]
 refine⟨_,rfl,a,_,rfl,.inl hS,_,_,rfl,_,_,rfl,rfl,_,rfl,?_,?_,?_⟩
 ·split<;>omega
 ·split<;>omega
 refine ZaR (fun i σ H2=>∃v1 v2 v3 v4 v5 v6 v7 v8 v9 v10 v11:Option V,σ=[some (.ref a),v1,v2,v3,v4,v5,v6,v7,v8,v9,v10,v11]∧Zn H H2) ⟨_,_,_,_,_,_,_,_,_,_,_,rfl,Zn.refl H⟩ ?_ ?_
 ·rintro i σ H2 hi ⟨v1,v2,v3,v4,v5,v6,v7,v8,v9,v10,v11,rfl,s2⟩
  have hi9:(i:Int)<100:=by
   have:(i:Int)<(1+(if (((ns.map V.int).length:Nat):Int)<2 then (((ns.map V.int).length:Nat):Int) else 2)).toNat:=by omega
   split at this<;>omega
  refine⟨_,rfl,_,rfl,a,ns,_,rfl,s2.seq hS,h63,by omega,by omega,fun p H3 hp L3 s3=>?_⟩
  have nHp:H p=none:=s2.free hp
  have keep:∀ {H5 H6:Hp},Zn H H5→But p H5 H6→Zn H H6:=fun {H5 H6} s b x o e=>b x o (s x o e) (Zg e nHp)
  refine⟨_,rfl,(by show 4≤sizeLine;decide),fun l4 hl4=>?_⟩
  have s4:=Zc hl4 (.lst (([8,8,8,10]:List Int).map V.int))
  have f4:(upd H3 l4 (.lst (([8,8,8,10]:List Int).map V.int))) l4=some (.lst (([8,8,8,10]:List Int).map V.int)):=Zb
  have n4:l4≠p:=fun z=>by obtain⟨o,ho⟩:=L3.here;rw[z,ho]at hl4;cases hl4
  change Zic Zcx _ _ _ _ (upd H3 l4 (.lst (([8,8,8,10]:List Int).map V.int))) _
  generalize upd H3 l4 (.lst (([8,8,8,10]:List Int).map V.int))=H4 at s4 f4 ⊢
  refine⟨_,rfl,p,0,4,rfl,L3.same s4,by decide,by decide,by decide,fun k4 H4' k40 k41 L4 B4=>?_⟩
  obtain⟨mo,hmo,hat4⟩:=Zeh (ns:=[8,8,8,10]) k40 k41
  have mo1:1≤mo∧mo≤12:=by
   simp only[List.mem_cons,List.not_mem_nil,or_false]at hmo
   omega
  have B34:But p H3 H4':=(But.same s4).trans B4
  refine⟨l4,_,_,_,rfl,rfl,SqL.of (B4 _ _ f4 n4),hat4,p,_,mo,rfl,mo1.1,mo1.2,L4,by decide,fun sz ms c5 H5 hs0 hs5 m1 m12 hms L5 a1 a2 B5=>?_⟩
  have nps:p≠sz:=by obtain⟨o,ho⟩:=L4.here;exact Zg ho hs0
  refine⟨_,rfl,p,c5,rfl,L5,by omega,fun wy H6 w2 w6 L6 B6=>?_⟩
  have hs6:=B6 sz _ hs5 nps.symm
  have s6:Zn H H6:=keep (keep (keep (s2.trans s3) B34) B5) B6
  obtain⟨wn,rfl⟩:∃wn:Nat,wy=wn:=⟨wy.toNat,by omega⟩
  have n100:ms.length≤1000:=by omega
  refine⟨_,rfl,_,rfl,sz,ms,wn,rfl,SqL.of hs6,m1,m12,hms,by omega,by omega,fun rn x pr t H7 hrn0 hrn hT hG s7=>?_⟩
  refine⟨rn,_,rfl,SqT.of hrn,rfl,_,_,rfl,_,_,rfl,rfl,?_⟩
  refine⟨_,rfl,_,rfl,sz,ms,wn,rfl,SqL.of (s7 _ _ hs6),m1,m12,hms,by omega,by omega,fun r ts pf H8 hr0 hr8 hat hE hP s8=>?_⟩
  have s68:=s7.trans s8
  have hs8:=s68 _ _ hs6
  have L8:=L6.same s68
  have nrp:r≠p:=fun z=>by obtain⟨o,ho⟩:=(L6.same s7).here;rw[z,ho]at hr0;cases hr0
  obtain⟨tlv,tpl,_,tok,tdp,tno⟩:=Znb m12 hG
  have hX8:=(hT.mono (Z4 s8)).dhO L8
  have hsm:=Zlu m12 hms hP
  have l144:=Zed m12
  have hY:DH H8 (.ref r) (ZcB ms.length pf):=.lst hr8 (by have:=ZmI hat hE;rw[Q0]at this;exact this)
  have hz:Rz (ZcB ms.length pf):=Zif (fun d hd=>by
   obtain⟨u,hu,rfl⟩:=Qz.mp hd
   exact Zdi (hsm _ (Qz.mpr ⟨u,hu,rfl⟩))) (by rw[Qa];omega)
  have hzw:=hz.wt
  obtain⟨gdt,lft⟩:=ZeY t tpl
  rw[tlv,Za1]at lft
  obtain⟨tht,_⟩:=Zh4 n100 tok gdt lft (by omega)
  have tdd:=tht.gd.dp
  refine⟨_,rfl,_,rfl,_,rfl,_,rfl,sz,ms,wn,x,.ref r,toD t,ZcB ms.length pf,rfl,hs8,m1,m12,hms,by omega,by omega,hX8.on,by omega,hY,by omega,fun b1 H9 hb1 s9=>?_⟩
  obtain rfl:b1=true:=hb1.mpr (Zf5 m1 (fun v hv=>(hms v hv).1) (by omega) hG hP)
  refine⟨true,true,rfl,rfl,_,rfl,Zfe rfl ?_⟩
  have hs9:=s9 _ _ hs8
  have s69:=s68.trans s9
  refine⟨_,rfl,_,rfl,_,rfl,_,rfl,_,rfl,_,rfl,p,sz,r,_,pr,wn,ms,x,toD t,ts,(Zv ms.length ms.length).map (tri pf),rfl,L8.same s9,by omega,hs9,nps.symm,m1,m12,hms,by omega,by omega,hX8.mono (Zp s9),tht.mono (by omega) (by omega) (by omega),s9 _ _ hr8,AtT.mono hat s9,hE,nrp,?_,by rw[Qa];omega,hsm,fun rp xs c10 H10 hrp nrp' hall L10 a3 a4 B10=>?_⟩
  ·have:(0,ms.length)∈Zv ms.length ms.length:=Zba.mpr ⟨by omega,Qd _⟩
   rw[Qa]
   exact List.length_pos_of_mem this
  have hs10:=B10 sz _ hs9 nps.symm
  have s10:Zn H H10:=keep (s6.trans s69) B10
  clear hX8 hY hz hzw hsm hat hE hP hr8 tht hT hG hb1
  refine⟨rp,rfl,⟨_,SqL.of hrp⟩,?_⟩
  refine ZcO (K:=K) (a:=rp) (xs:=xs) (fun n σ H11=>(∃w8 w9 w10 w11:Option V,σ=[some (.ref a),some (.int (0+(i:Int))),some (.ref p),some (.ref sz),some (.int wn),some (.int pr),some x,some (.ref r),w8,w9,w10,w11])∧Zn H10 H11) ⟨⟨_,_,_,_,rfl⟩,Zn.refl _⟩ (fun _ _ _ _ h=>SqL.of (h.2 _ _ hrp)) ?_ ?_
  ·rintro j v σ H11 hv ⟨⟨w8,w9,w10,w11,rfl⟩,s11⟩
   obtain⟨qa,u,wv,d,e,rfl,hq,hu,th,hw,hz'⟩:=hall v (QB hv)
   refine⟨qa,_,rfl,SqT.of (s11 _ _ hq),rfl,_,_,rfl,_,_,rfl,rfl,?_⟩
   have hu11:=hu.on.mono s11
   have hw11:=hw.on.mono s11
   have hs11:=s11 _ _ hs10
   obtain⟨g1,g2,g3,g4⟩:=Zgs (ns:=ms) hms (by omega) th hz'
   refine⟨_,rfl,_,rfl,_,rfl,(by show 3≤sizeLine;decide),fun e1 he1=>?_⟩
   have se:=Zc he1 (.lst [.ref sz,u,wv])
   have fe:(upd H11 e1 (.lst [.ref sz,u,wv])) e1=some (.lst [.ref sz,u,wv]):=Zb
   generalize upd H11 e1 (.lst [.ref sz,u,wv])=H12 at se fe ⊢
   have hu12:=hu11.mono se
   have hw12:=hw11.mono se
   have hs12:=se _ _ hs11
   refine⟨_,.list [.list (ms.map PyData.int),d,e],rfl,.lst (SqL.of fe) (.cons (.lst (SqL.of hs12) (ZbP ms)) (.cons hu12.dv (.cons hw12.dv .nil))),g1,g2,g3,g4,?_⟩
   have nd:=Zmj d
   have tw:=th.wt
   have tl:=th.lf
   have td:=th.gd.dp
   have zw:=hz'.wt
   refine⟨_,rfl,_,rfl,_,rfl,_,rfl,sz,ms,wn,u,wv,d,e,rfl,hs12,m1,m12,hms,by omega,by omega,hu12,by omega,hw12,by omega,fun b1 H13 hb1 s13=>?_⟩
   have hs13:=s13 _ _ hs12
   refine⟨_,rfl,_, "bool",_,_,rfl,.bl _,Zk8 K,_,rfl,ZaG ⟨_,rfl,_,rfl,_,rfl,_,rfl,_,rfl,sz,ms,wn,u,wv,d,e,rfl,hs13,m1,m12,hms,by omega,by omega,hu12.mono s13,th.gd.lay,by omega,by omega,by omega,hw12.mono s13,by omega,fun b2 H14 hb2 s14=>?_⟩⟩
   have eb:b1=b2:=by
    cases b1<;>cases b2
    ·rfl
    ·have:=hb1.mpr (hb2.mp rfl);cases this
    ·have:=hb2.mpr (hb1.mp rfl);cases this
    ·rfl
   subst eb
   refine⟨rfl,_,rfl,Zfe rfl ?_⟩
   have s1214:=s13.trans s14
   have hs14:=s1214 _ _ hs12
   refine⟨_,rfl,_,rfl,_,rfl,(by show 3≤sizeLine;decide),fun e2 he2=>?_⟩
   have se2:=Zc he2 (.lst [.ref sz,u,wv])
   have fe2:(upd H14 e2 (.lst [.ref sz,u,wv])) e2=some (.lst [.ref sz,u,wv]):=Zb
   generalize upd H14 e2 (.lst [.ref sz,u,wv])=H15 at se2 fe2 ⊢
   have s1215:=s1214.trans se2
   refine⟨_,.list [.list (ms.map PyData.int),d,e],rfl,.lst (SqL.of fe2) (.cons (.lst (SqL.of (s1215 _ _ hs12)) (ZbP ms)) (.cons (hu12.mono s1215).dv (.cons (hw12.mono s1215).dv .nil))),g1,g2,g3,g4,?_⟩
   exact⟨_,rfl,rfl,_,rfl,Zno rfl ⟨⟨_,_,_,_,rfl⟩,s11.trans (se.trans s1215)⟩⟩
  ·rintro σ H11 ⟨⟨w8,w9,w10,w11,rfl⟩,s11⟩
   exact⟨_,_,_,_,_,_,_,_,_,_,_,rfl,s10.trans s11⟩
 ·rintro σ H2 ⟨v1,v2,v3,v4,v5,v6,v7,v8,v9,v10,v11,rfl,s2⟩
  exact q H2
end
theorem ZO{K:PySem.W.Frag}{h:Heap}{mg:Str→Option Value}{x:Str}{st:Stmt}{ps:List Str}{f:Addr}{od an:Option Addr}{sl:Array (Option Value)}{oc kV dc pm cd ct:Value}(X:K.In h)(G:h.Ns mainGlobals mg)
  (a:PySem.W.nsIn K mainGlobals x=some (some (.ref f))) (l:K.lookup f=some ⟨oc,od,.func (PySem.W.fnOf x x (Zs st) (Zr st) (Zh st) .none kV dc pm an cd ct),sl⟩) (c:PySem.W.codeIn K cd x=true) (k:PySem.W.keepIn K (.ref f)=true)
  (hb:∀ (kV doc pm:Value) (an:Option Addr) (cdv ct:Value) (us:List Value),us.length=ps.length→bindArgs (PySem.W.fnOf x x (Zs st) (Zr st) (Zh st) .none kV doc pm an cdv ct) ⟨us,[]⟩=pure (ps.zip us)):Top K mg x st ps :=
 ⟨_,_,Zg5 (st:=st) l c k,PySem.W.mg_of X G a,(Zg5 (st:=st) l c k).binds hb⟩
theorem ZjA{n:Nat}{us:List Value}(h:us.length=n+1):∃a r,us=a::r∧r.length=n:=by
 obtain⟨a,r,rfl⟩:=List.exists_cons_of_length_eq_add_one h
 exact⟨a,r,rfl,Nat.succ.inj h⟩
theorem Zgl(us:List Value)(h:us.length=1):∃a0,us=[a0]:=List.length_eq_one_iff.mp h
theorem Zdz(us:List Value)(h:us.length=2):∃a0 a1,us=[a0,a1]:=by
 obtain⟨a,r,rfl,g⟩:=ZjA h
 obtain⟨b0,rfl⟩:=Zgl r g
 exact⟨a,b0,rfl⟩
theorem ZgL(us:List Value)(h:us.length=3):∃a0 a1 a2,us=[a0,a1,a2]:=by
 obtain⟨a,r,rfl,g⟩:=ZjA h
 obtain⟨b0,b1,rfl⟩:=Zdz r g
 exact⟨a,b0,b1,rfl⟩
theorem Zi3(us:List Value)(h:us.length=4):∃a0 a1 a2 a3,us=[a0,a1,a2,a3]:=by
 obtain⟨a,r,rfl,g⟩:=ZjA h
 obtain⟨b0,b1,b2,rfl⟩:=ZgL r g
 exact⟨a,b0,b1,b2,rfl⟩
theorem ZlM(us:List Value)(h:us.length=5):∃a0 a1 a2 a3 a4,us=[a0,a1,a2,a3,a4]:=by
 obtain⟨a,r,rfl,g⟩:=ZjA h
 obtain⟨b0,b1,b2,b3,rfl⟩:=Zi3 r g
 exact⟨a,b0,b1,b2,b3,rfl⟩
theorem Zow(us:List Value)(h:us.length=6):∃a0 a1 a2 a3 a4 a5,us=[a0,a1,a2,a3,a4,a5]:=by
 obtain⟨a,r,rfl,g⟩:=ZjA h
 obtain⟨b0,b1,b2,b3,b4,rfl⟩:=ZlM r g
 exact⟨a,b0,b1,b2,b3,b4,rfl⟩
theorem all_mk{l:PySem.W.OpenLaw}{w:World}{K:PySem.W.Frag}{h:Heap}{mg:Str→Option Value}{fa:Addr}(X:K.In h)(G:h.Ns mainGlobals mg)(hfa:mg "law" = some (.ref fa))
  (a0:#[Xns,K,"is_number",f0]) (l0:#[Xlk,K,f0,oc0,od0,"is_number","is_number",Zbc,kV0,dc0,pm0,an0,cd0,ct0,sl0]) (c0:#[Xci,K,cd0,"is_number"]) (k0:#[Xki,K,f0])
  (a1:#[Xns,K,"is_triple",f1]) (l1:#[Xlk,K,f1,oc1,od1,"is_triple","is_triple",Zbi,kV1,dc1,pm1,an1,cd1,ct1,sl1]) (c1:#[Xci,K,cd1,"is_triple"]) (k1:#[Xki,K,f1])
  (a2:#[Xns,K,"finds_rows",f2]) (l2:#[Xlk,K,f2,oc2,od2,"finds_rows","finds_rows",ZaZ,kV2,dc2,pm2,an2,cd2,ct2,sl2]) (c2:#[Xci,K,cd2,"finds_rows"]) (k2:#[Xki,K,f2])
  (a3:#[Xns,K,"cost_of",f3]) (l3:#[Xlk,K,f3,oc3,od3,"cost_of","cost_of",ZbS,kV3,dc3,pm3,an3,cd3,ct3,sl3]) (c3:#[Xci,K,cd3,"cost_of"]) (k3:#[Xki,K,f3])
  (a4:#[Xns,K,"size_and_cost",f4]) (l4:#[Xlk,K,f4,oc4,od4,"size_and_cost","size_and_cost",Zap,kV4,dc4,pm4,an4,cd4,ct4,sl4]) (c4:#[Xci,K,cd4,"size_and_cost"]) (k4:#[Xki,K,f4])
  (a5:#[Xns,K,"shows_near",f5]) (l5:#[Xlk,K,f5,oc5,od5,"shows_near","shows_near",Zax,kV5,dc5,pm5,an5,cd5,ct5,sl5]) (c5:#[Xci,K,cd5,"shows_near"]) (k5:#[Xki,K,f5])
  (a6:#[Xns,K,"is_near",f6]) (l6:#[Xlk,K,f6,oc6,od6,"is_near","is_near",ZbT,kV6,dc6,pm6,an6,cd6,ct6,sl6]) (c6:#[Xci,K,cd6,"is_near"]) (k6:#[Xki,K,f6])
  (a7:#[Xns,K,"are_prices",f7]) (l7:#[Xlk,K,f7,oc7,od7,"are_prices","are_prices",Zay,kV7,dc7,pm7,an7,cd7,ct7,sl7]) (c7:#[Xci,K,cd7,"are_prices"]) (k7:#[Xki,K,f7])
  (a8:#[Xns,K,"stretches_of",f8]) (l8:#[Xlk,K,f8,oc8,od8,"stretches_of","stretches_of",Zae,kV8,dc8,pm8,an8,cd8,ct8,sl8]) (c8:#[Xci,K,cd8,"stretches_of"]) (k8:#[Xki,K,f8])
  (a9:#[Xns,K,"cut_prices",f9]) (l9:#[Xlk,K,f9,oc9,od9,"cut_prices","cut_prices",Zav,kV9,dc9,pm9,an9,cd9,ct9,sl9]) (c9:#[Xci,K,cd9,"cut_prices"]) (k9:#[Xki,K,f9])
  (a10:#[Xns,K,"part_sums",f10]) (l10:#[Xlk,K,f10,oc10,od10,"part_sums","part_sums",ZaM,kV10,dc10,pm10,an10,cd10,ct10,sl10]) (c10:#[Xci,K,cd10,"part_sums"]) (k10:#[Xki,K,f10])
  (a11:#[Xns,K,"most_price",f11]) (l11:#[Xlk,K,f11,oc11,od11,"most_price","most_price",Za0,kV11,dc11,pm11,an11,cd11,ct11,sl11]) (c11:#[Xci,K,cd11,"most_price"]) (k11:#[Xki,K,f11])
  (a12:#[Xns,K,"near_plan",f12]) (l12:#[Xlk,K,f12,oc12,od12,"near_plan","near_plan",Zbd,kV12,dc12,pm12,an12,cd12,ct12,sl12]) (c12:#[Xci,K,cd12,"near_plan"]) (k12:#[Xki,K,f12])
  (a13:#[Xns,K,"prices_for",f13]) (l13:#[Xlk,K,f13,oc13,od13,"prices_for","prices_for",Zaz,kV13,dc13,pm13,an13,cd13,ct13,sl13]) (c13:#[Xci,K,cd13,"prices_for"]) (k13:#[Xki,K,f13])
  (a14:#[Xns,K,"least_groves",f14]) (l14:#[Xlk,K,f14,oc14,od14,"least_groves","least_groves",Zau,kV14,dc14,pm14,an14,cd14,ct14,sl14]) (c14:#[Xci,K,cd14,"least_groves"]) (k14:#[Xki,K,f14])
  (a15:#[Xns,K,"least_tree",f15]) (l15:#[Xlk,K,f15,oc15,od15,"least_tree","least_tree",ZaX,kV15,dc15,pm15,an15,cd15,ct15,sl15]) (c15:#[Xci,K,cd15,"least_tree"]) (k15:#[Xki,K,f15])
  (a16:#[Xns,K,"least_grove",f16]) (l16:#[Xlk,K,f16,oc16,od16,"least_grove","least_grove",ZaK,kV16,dc16,pm16,an16,cd16,ct16,sl16]) (c16:#[Xci,K,cd16,"least_grove"]) (k16:#[Xki,K,f16])
  (a17:#[Xns,K,"least_cut",f17]) (l17:#[Xlk,K,f17,oc17,od17,"least_cut","least_cut",ZaL,kV17,dc17,pm17,an17,cd17,ct17,sl17]) (c17:#[Xci,K,cd17,"least_cut"]) (k17:#[Xki,K,f17])
  (a18:#[Xns,K,"_law_mix",f18]) (l18:#[Xlk,K,f18,oc18,od18,"_law_mix","_law_mix",ZcT,kV18,dc18,pm18,an18,cd18,ct18,sl18]) (c18:#[Xci,K,cd18,"_law_mix"]) (k18:#[Xki,K,f18])
  (a19:#[Xns,K,"_law_left",f19]) (l19:#[Xlk,K,f19,oc19,od19,"_law_left","_law_left",Zca,kV19,dc19,pm19,an19,cd19,ct19,sl19]) (c19:#[Xci,K,cd19,"_law_left"]) (k19:#[Xki,K,f19])
  (a20:#[Xns,K,"_law_pick",f20]) (l20:#[Xlk,K,f20,oc20,od20,"_law_pick","_law_pick",Zcc,kV20,dc20,pm20,an20,cd20,ct20,sl20]) (c20:#[Xci,K,cd20,"_law_pick"]) (k20:#[Xki,K,f20])
  (a21:#[Xns,K,"_law_many",f21]) (l21:#[Xlk,K,f21,oc21,od21,"_law_many","_law_many",Zcf,kV21,dc21,pm21,an21,cd21,ct21,sl21]) (c21:#[Xci,K,cd21,"_law_many"]) (k21:#[Xki,K,f21])
  (a22:#[Xns,K,"_law_sizes",f22]) (l22:#[Xlk,K,f22,oc22,od22,"_law_sizes","_law_sizes",ZbM,kV22,dc22,pm22,an22,cd22,ct22,sl22]) (c22:#[Xci,K,cd22,"_law_sizes"]) (k22:#[Xki,K,f22])
  (a23:#[Xns,K,"_law_ways",f23]) (l23:#[Xlk,K,f23,oc23,od23,"_law_ways","_law_ways",Zcg,kV23,dc23,pm23,an23,cd23,ct23,sl23]) (c23:#[Xci,K,cd23,"_law_ways"]) (k23:#[Xki,K,f23])
  (a24:#[Xns,K,"_law_joined",f24]) (l24:#[Xlk,K,f24,oc24,od24,"_law_joined","_law_joined",ZbA,kV24,dc24,pm24,an24,cd24,ct24,sl24]) (c24:#[Xci,K,cd24,"_law_joined"]) (k24:#[Xki,K,f24])
  (a25:#[Xns,K,"_law_rows_in",f25]) (l25:#[Xlk,K,f25,oc25,od25,"_law_rows_in","_law_rows_in",Zbf,kV25,dc25,pm25,an25,cd25,ct25,sl25]) (c25:#[Xci,K,cd25,"_law_rows_in"]) (k25:#[Xki,K,f25])
  (a26:#[Xns,K,"_law_cost",f26]) (l26:#[Xlk,K,f26,oc26,od26,"_law_cost","_law_cost",ZbK,kV26,dc26,pm26,an26,cd26,ct26,sl26]) (c26:#[Xci,K,cd26,"_law_cost"]) (k26:#[Xki,K,f26])
  (a27:#[Xns,K,"_law_is_plan",f27]) (l27:#[Xlk,K,f27,oc27,od27,"_law_is_plan","_law_is_plan",Za8,kV27,dc27,pm27,an27,cd27,ct27,sl27]) (c27:#[Xci,K,cd27,"_law_is_plan"]) (k27:#[Xki,K,f27])
  (a28:#[Xns,K,"_law_put",f28]) (l28:#[Xlk,K,f28,oc28,od28,"_law_put","_law_put",ZcW,kV28,dc28,pm28,an28,cd28,ct28,sl28]) (c28:#[Xci,K,cd28,"_law_put"]) (k28:#[Xki,K,f28])
  (a29:#[Xns,K,"_law_spoilt",f29]) (l29:#[Xlk,K,f29,oc29,od29,"_law_spoilt","_law_spoilt",Zbx,kV29,dc29,pm29,an29,cd29,ct29,sl29]) (c29:#[Xci,K,cd29,"_law_spoilt"]) (k29:#[Xki,K,f29])
  (a30:#[Xns,K,"_law_stretches",f30]) (l30:#[Xlk,K,f30,oc30,od30,"_law_stretches","_law_stretches",Zao,kV30,dc30,pm30,an30,cd30,ct30,sl30]) (c30:#[Xci,K,cd30,"_law_stretches"]) (k30:#[Xki,K,f30])
  (a31:#[Xns,K,"_law_cuts",f31]) (l31:#[Xlk,K,f31,oc31,od31,"_law_cuts","_law_cuts",Zbr,kV31,dc31,pm31,an31,cd31,ct31,sl31]) (c31:#[Xci,K,cd31,"_law_cuts"]) (k31:#[Xki,K,f31])
  (a32:#[Xns,K,"_law_beside",f32]) (l32:#[Xlk,K,f32,oc32,od32,"_law_beside","_law_beside",Za5,kV32,dc32,pm32,an32,cd32,ct32,sl32]) (c32:#[Xci,K,cd32,"_law_beside"]) (k32:#[Xki,K,f32])
  (a33:#[Xns,K,"_law_shows",f33]) (l33:#[Xlk,K,f33,oc33,od33,"_law_shows","_law_shows",ZaI,kV33,dc33,pm33,an33,cd33,ct33,sl33]) (c33:#[Xci,K,cd33,"_law_shows"]) (k33:#[Xki,K,f33])
  (a34:#[Xns,K,"_law_other_prices",f34]) (l34:#[Xlk,K,f34,oc34,od34,"_law_other_prices","_law_other_prices",ZQ,kV34,dc34,pm34,an34,cd34,ct34,sl34]) (c34:#[Xci,K,cd34,"_law_other_prices"]) (k34:#[Xki,K,f34])
  (a35:#[Xns,K,"_law_papers",f35]) (l35:#[Xlk,K,f35,oc35,od35,"_law_papers","_law_papers",Zbw,kV35,dc35,pm35,an35,cd35,ct35,sl35]) (c35:#[Xci,K,cd35,"_law_papers"]) (k35:#[Xki,K,f35])
  (a36:#[Xns,K,"law",f36]) (l36:#[Xlk,K,f36,oc36,od36,"law","law",Zcw,kV36,dc36,pm36,an36,cd36,ct36,sl36]) (c36:#[Xci,K,cd36,"law"]) (k36:#[Xki,K,f36])
  (z0:PySem.W.nsIn K mainGlobals "abs" = some none) (z1:PySem.W.nsIn K mainGlobals "all" = some none) (z2:PySem.W.nsIn K mainGlobals "bool" = some none) (z3:PySem.W.nsIn K mainGlobals "dict" = some none) (z4:PySem.W.nsIn K mainGlobals "int" = some none) (z5:PySem.W.nsIn K mainGlobals "isinstance" = some none) (z6:PySem.W.nsIn K mainGlobals "len" = some none) (z7:PySem.W.nsIn K mainGlobals "list" = some none) (z8:PySem.W.nsIn K mainGlobals "max" = some none) (z9:PySem.W.nsIn K mainGlobals "min" = some none) (z10:PySem.W.nsIn K mainGlobals "range" = some none) (z11:PySem.W.nsIn K mainGlobals "sorted" = some none) (z12:PySem.W.nsIn K mainGlobals "str" = some none) (z13:PySem.W.nsIn K mainGlobals "sum" = some none) (z14:PySem.W.nsIn K mainGlobals "tuple" = some none) (z15:PySem.W.nsIn K mainGlobals "zip" = some none) :
  ∃fd:FuncData,(∀ (s:Shared) (v:Value),BindsTo s fd ⟨[v],[]⟩ [("_law_script",v)])∧∀base:Heap,K.In base→base.Ns mainGlobals mg→Zd6 l.prog w K mg base CX0 65 fa fd ["_law_script"] (ZhX K):=by
 have e:=hfa.symm.trans (PySem.W.mg_of X G a36)
 cases e
 have T:Zat K mg:=⟨⟨QF X G z0,QF X G z1,QF X G z2,QF X G z3,QF X G z4,QF X G z5,QF X G z6,QF X G z7,QF X G z8,QF X G z9,QF X G z10,QF X G z11,QF X G z12,QF X G z13,QF X G z14,QF X G z15⟩,ZO X G a0 l0 c0 k0 (fun _ _ _ _ _ _ us hl=>by obtain⟨_,rfl⟩:=Zgl us hl;exact rfl),ZO X G a1 l1 c1 k1 (fun _ _ _ _ _ _ us hl=>by obtain⟨_,rfl⟩:=Zgl us hl;exact rfl),ZO X G a2 l2 c2 k2 (fun _ _ _ _ _ _ us hl=>by obtain⟨_,_,_,_,rfl⟩:=Zi3 us hl;exact rfl),ZO X G a3 l3 c3 k3 (fun _ _ _ _ _ _ us hl=>by obtain⟨_,_,rfl⟩:=Zdz us hl;exact rfl),ZO X G a4 l4 c4 k4 (fun _ _ _ _ _ _ us hl=>by obtain⟨_,_,rfl⟩:=Zdz us hl;exact rfl),ZO X G a5 l5 c5 k5 (fun _ _ _ _ _ _ us hl=>by obtain⟨_,_,_,_,rfl⟩:=Zi3 us hl;exact rfl),ZO X G a6 l6 c6 k6 (fun _ _ _ _ _ _ us hl=>by obtain⟨_,_,_,rfl⟩:=ZgL us hl;exact rfl),ZO X G a7 l7 c7 k7 (fun _ _ _ _ _ _ us hl=>by obtain⟨_,_,rfl⟩:=Zdz us hl;exact rfl),ZO X G a8 l8 c8 k8 (fun _ _ _ _ _ _ us hl=>by obtain⟨_,rfl⟩:=Zgl us hl;exact rfl),ZO X G a9 l9 c9 k9 (fun _ _ _ _ _ _ us hl=>by obtain⟨_,_,rfl⟩:=Zdz us hl;exact rfl),ZO X G a10 l10 c10 k10 (fun _ _ _ _ _ _ us hl=>by obtain⟨_,_,_,_,rfl⟩:=Zi3 us hl;exact rfl),ZO X G a11 l11 c11 k11 (fun _ _ _ _ _ _ us hl=>by obtain⟨_,_,_,_,_,rfl⟩:=ZlM us hl;exact rfl),ZO X G a12 l12 c12 k12 (fun _ _ _ _ _ _ us hl=>by obtain⟨_,_,rfl⟩:=Zdz us hl;exact rfl),ZO X G a13 l13 c13 k13 (fun _ _ _ _ _ _ us hl=>by obtain⟨_,_,rfl⟩:=Zdz us hl;exact rfl),ZO X G a14 l14 c14 k14 (fun _ _ _ _ _ _ us hl=>by obtain⟨_,_,rfl⟩:=Zdz us hl;exact rfl),ZO X G a15 l15 c15 k15 (fun _ _ _ _ _ _ us hl=>by obtain⟨_,_,_,_,_,rfl⟩:=ZlM us hl;exact rfl),ZO X G a16 l16 c16 k16 (fun _ _ _ _ _ _ us hl=>by obtain⟨_,_,_,_,_,rfl⟩:=ZlM us hl;exact rfl),ZO X G a17 l17 c17 k17 (fun _ _ _ _ _ _ us hl=>by obtain⟨_,_,_,_,rfl⟩:=Zi3 us hl;exact rfl),ZO X G a18 l18 c18 k18 (fun _ _ _ _ _ _ us hl=>by obtain⟨_,_,rfl⟩:=Zdz us hl;exact rfl),ZO X G a19 l19 c19 k19 (fun _ _ _ _ _ _ us hl=>by obtain⟨_,_,rfl⟩:=Zdz us hl;exact rfl),ZO X G a20 l20 c20 k20 (fun _ _ _ _ _ _ us hl=>by obtain⟨_,_,rfl⟩:=Zdz us hl;exact rfl),ZO X G a21 l21 c21 k21 (fun _ _ _ _ _ _ us hl=>by obtain⟨_,rfl⟩:=Zgl us hl;exact rfl),ZO X G a22 l22 c22 k22 (fun _ _ _ _ _ _ us hl=>by obtain⟨_,_,rfl⟩:=Zdz us hl;exact rfl),ZO X G a23 l23 c23 k23 (fun _ _ _ _ _ _ us hl=>by obtain⟨_,rfl⟩:=Zgl us hl;exact rfl),ZO X G a24 l24 c24 k24 (fun _ _ _ _ _ _ us hl=>by obtain⟨_,_,_,rfl⟩:=ZgL us hl;exact rfl),ZO X G a25 l25 c25 k25 (fun _ _ _ _ _ _ us hl=>by obtain⟨_,rfl⟩:=Zgl us hl;exact rfl),ZO X G a26 l26 c26 k26 (fun _ _ _ _ _ _ us hl=>by obtain⟨_,_,rfl⟩:=Zdz us hl;exact rfl),ZO X G a27 l27 c27 k27 (fun _ _ _ _ _ _ us hl=>by obtain⟨_,_,_,rfl⟩:=ZgL us hl;exact rfl),ZO X G a28 l28 c28 k28 (fun _ _ _ _ _ _ us hl=>by obtain⟨_,_,_,rfl⟩:=ZgL us hl;exact rfl),ZO X G a29 l29 c29 k29 (fun _ _ _ _ _ _ us hl=>by obtain⟨_,_,_,rfl⟩:=ZgL us hl;exact rfl),ZO X G a30 l30 c30 k30 (fun _ _ _ _ _ _ us hl=>by obtain⟨_,rfl⟩:=Zgl us hl;exact rfl),ZO X G a31 l31 c31 k31 (fun _ _ _ _ _ _ us hl=>by obtain⟨_,_,_,rfl⟩:=ZgL us hl;exact rfl),ZO X G a32 l32 c32 k32 (fun _ _ _ _ _ _ us hl=>by obtain⟨_,_,_,rfl⟩:=ZgL us hl;exact rfl),ZO X G a33 l33 c33 k33 (fun _ _ _ _ _ _ us hl=>by obtain⟨_,_,_,_,rfl⟩:=Zi3 us hl;exact rfl),ZO X G a34 l34 c34 k34 (fun _ _ _ _ _ _ us hl=>by obtain⟨_,_,rfl⟩:=Zdz us hl;exact rfl),ZO X G a35 l35 c35 k35 (fun _ _ _ _ _ _ us hl=>by obtain⟨_,_,_,_,_,_,rfl⟩:=Zow us hl;exact rfl)⟩
 exact⟨PySem.W.fnOf "law" "law" (Zs Zcw) (Zr Zcw) (Zh Zcw) .none kV36 dc36 pm36 an36 cd36 ct36,fun s v=>.of_eq rfl,fun base _ _=>ZmE (Zg5 (st:=Zcw) l36 c36 k36) T⟩
theorem walk{l:PySem.W.OpenLaw}{q:Program}{loose:List Str}{XP:(Str→Option Value)→Heap→Prop}{YP:World→Heap→Prop}{d:DefRec}{K:Params→PySem.W.Frag}(hn:l.most=some 63)(hdf:d.params.defaults=[])
  (hY:∀ (w:World) (h:Heap),YP w h→(K w.params).In h)
  (F:∀ (w:World) (mg:Str→Option Value) (fa:Addr) (h:Heap),(K w.params).In h→h.Ns mainGlobals mg→mg d.name=some (.ref fa) →
   ∃fd:FuncData,(∀ (s:Shared) (u:Value),BindsTo s fd ⟨[u],[]⟩ [("_law_script",u)])∧∀base:Heap,(K w.params).In base→base.Ns mainGlobals mg→Zd6 l.prog w (K w.params) mg base CX0 65 fa fd ["_law_script"] (ZhX (K w.params))) :
  PySem.W.WalkO q loose XP YP l.row.toRowW d [] (fun f vs=>PySem.call f vs) :=
 L2.walk_of (n:=63) (k:=65) (x := "_law_script") (CX:=fun _=>CX0) (sp:=fun w=>ZhX (K w.params)) hn (by decide) hdf ⟨rfl,by decide,by decide,rfl⟩ hY F (fun _ _ a ns hl _ hS=>⟨a,ns,rfl,hS,hl,fun _=>rfl⟩) fun _ _ _ _ _ z=>z
end My
open PySem PySem.W PyProof.Rows
namespace PySem.W.Fast
def tw1789763424027486606:=0
def tw10954279713963828348:=0
def tw13611572429980660565:=0
def tw3999055155834859108:=0
def tw8353175793705016772:=0
def tw12972942687191675195:=0
def tw9919693370514695456:=0
def tw216849266414015262:=0
def tw1754273064797086359:=0
def tw12362257766786998650:=0
def tw16287656396605072159:=0
def tw4609804608328723807:=0
def tw16497941265074996400:=0
def tw5931309821711406085:=0
def tw7591537174162288497:=0
def tw3531334473805307183:=0
def tw17466732575034977641:=0
def tw11076604689785851519:=0
def tw15016842617548455291:=0
def tw17857592048726592286:=0
def tw3737599184228928831:=0
def tw5352340569740958922:=0
def tw12326774807942775259:=0
def tw790139725737820215:=0
def tw14689949804362012283:=0
def tw3345766330291066944:=0
def tw16887995564979932379:=0
def tw428939499969766410:=0
def tw12383071630542206673:=0
def tw3307596771207522947:=0
def tw18352262509588646823:=0
def tw9919306673506565296:=0
def tw13248077770491951759:=0
def tw5756221613207626455:=0
def tw7293115407429234822:=0
def tw4385743023018215004:=0
def tw10865347113684338197:=0
def tw8597457113621274029:=0
def tw14126929323673784080:=0
def tw3822868845472277332:=0
def tw10515098149524997322:=0
def tw16338469606440683651:=0
def tw37876603245012459:=0
def tw5605503320969494986:=0
def tw1796288493915593128:=0
def tw3807446351524248769:=0
def tw5439083533375060027:=0
def tw10532370118539189005:=0
def tw5289279085329258340:=0
def tw5608295140193521214:=0
def tw11123630851762362730:=0
def tw1678698898470263319:=0
def tw7453916587797821586:=0
def tw1381901264186386538:=0
def tw7328705000152165742:=0
def tw10993377455850398281:=0
def tw3188236479834912962:=0
def tw861756944939157329:=0
def tw2352262891308019477:=0
def tw10309690043478299906:=0
def tw12251167661710425304:=0
def tw8111620114169593826:=0
def tw5574672394853569017:=0
def tw7373455877473351051:=0
def tw15702036639833369231:=0
def tw214615581571203042:=0
def tw9171184333983211212:=0
def tw6074512392460084491:=0
def tw12035679878001009578:=0
def tw8680889728084498827:=0
def tw15297363637031125958:=0
def tw3483347342449541188:=0
def tw9224654957170292619:=0
def tw17737725625064942852:=0
def tw14649893407784426545:=0
def tw4579797550444223406:=0
def tw14879917733055077070:=0
def tw4656647733620214212:=0
def tw4779685451778657898:=0
def tw17711368050275572093:=0
def tw4480841337305672265:=0
def tw18344136101169279720:=0
def tw16140156788293416308:=0
def tw3276204770098137316:=0
def tw11351772905717977474:=0
def tw12645697472912345248:=0
def tw5825593010453852392:=0
def tw3651191815889968607:=0
def tw262921844655944689:=0
def tw470477659286356760:=0
def tw14908401447834025031:=0
def tw11658717579466961811:=0
def tw3256817252923886190:=0
def tw9723389750208746824:=0
def tw12514975326949699824:=0
def tw14220130937128949456:=0
def tw6424954572010827691:=0
def tw4760382303903446671:=0
def tw10022303034662101078:=0
def tw13937650659116070921:=0
def tw7189450140477716159:=0
def tw4951367700879693267:=0
def tw1235182407806245915:=0
def tw1445780088278938426:=0
def tw818404364993116459:=0
def tw6417773099031955143:=0
def tw14575698335037729909:=0
def tw2916989951462184760:=0
def tw13588365721276703333:=0
def tw1367778072913989465:=0
def tw6336212059106433940:=0
def tw5076111399048372708:=0
def tw6185221749535043192:=0
def tw9088661941858614913:=0
def tw9818844028639352980:=0
def tw11632852716247594692:=0
def tw2242408597494641199:=0
def tw871781842587812076:=0
def tw51653286258521454:=0
def tw8963295498056460719:=0
def tw15979589114792965445:=0
def tw10885011045031779471:=0
def tw6373534346885645690:=0
def tw9159576869460603568:=0
def tw6467426260193080653:=0
def tw13820346742041717193:=0
def tw17370347324649241849:=0
def tw4953278696733473321:=0
def tw18031652560911958686:=0
def tw7837418009396750648:=0
def tw8598902199162715849:=0
def tw10826653039759562637:=0
def tw13999380935960406049:=0
def tw11778301031342961990:=0
def tw16126961452601148499:=0
def tw2142330456713582705:=0
def tw13473934876755445353:=0
def tw2505427171684052574:=0
def tw9372986384641716920:=0
def tw6058021866480901273:=0
def tw11568992029213907597:=0
def tw16516181144214098558:=0
def tw16909766592509595571:=0
def tw580305518132635721:=0
def tw14913154659508109944:=0
def tw3716627825574739825:=0
def tw5686454853955216048:=0
def tw13517121799299085276:=0
def tw4833015266370238395:=0
def tw13362483574499637602:=0
def tw3289912867351468350:=0
def tw4238341205619226463:=0
def tw5559077321776845620:=0
def tw17334024536517528883:=0
def tw4712879441351705586:=0
def tw18369590369448394324:=0
def tw15102958253287488197:=0
def tw16934730909046741373:=0
def tw14970190297516080049:=0
def tw14381270883368926055:=0
def tw18031076374809269832:=0
def tw17151753213940587584:=0
def tw15652421035547944746:=0
def tw3658655971929001650:=0
def tw4161219732817961959:=0
def tw15278598194967788261:=0
def tw3133079983839089540:=0
def tw12364857259567174058:=0
def tw6186844446376207623:=0
def tw18255192929467777624:=0
def tw17304506155662090060:=0
def tw6855557296440194820:=0
def tw9220716744058994421:=0
def tw3681916808864186533:=0
def tw7279254487112527510:=0
def tw5206900387362040936:=0
def tw16825098974219571786:=0
def tw6149148713965249578:=0
def tw17071370386780844756:=0
def tw1369632110111274328:=0
def tw1439491911303652741:=0
def tw14342678194480670548:=0
def tw10963005747824069991:=0
def tw2029810320034829428:=0
def tw6455810048181112347:=0
def tw15688319615674553366:=0
def tw15116461908306993900:=0
def tw14591879092585098783:=0
def tw2797161072658557151:=0
def tw14230339608035814739:=0
def tw14668061929110906903:=0
def tw11774919980643532395:=0
def tw948783122438268969:=0
def tw8599243472510378084:=0
def tw6575281535103184231:=0
def tw2275435452031394774:=0
def tw6315315120022048562:=0
def tw11714434499439111539:=0
def tw8955903120252593796:=0
def tw17034299106924439405:=0
def tw6207501840449584930:=0
def tw14251002009948664821:=0
def tw15417194356754420989:=0
def tw3528468548824306192:=0
def tw12759895835365682392:=0
def tw10863235694632776938:=0
def tw10746539730364207230:=0
def tw16015094509899633726:=0
def tw8052204131524573767:=0
def tw3511950377573092164:=0
def tw14330316692584595947:=0
def tw6581856211237248387:=0
def tw9379662255943401458:=0
def tw3594182001321721267:=0
def tw14040762136777763548:=0
def tw6461458504511378993:=0
def tw558893217851579779:=0
end PySem.W.Fast
set_option maxRecDepth 100000 in
set_option maxHeartbeats 0 in
theorem PySem.Challenge.cw_mergetree_k43_near_ones_shown_holds : PySem.Challenge.rw_mergetree_k43_near_ones_shown.Holds := by
 w_on;o_law;k_head;(case hw=>w_witness2)
 k_fill
 refine My.walk (l:=PySem.Challenge.rw_mergetree_k43_near_ones_shown) rfl rfl (fun w h Y=>PySem.W.kIn_of Y) ?F
 case F =>
  intro w mg fa h KX G hmg
  refine' My.all_mk KX G hmg ?a0 ?l0 ?c0 ?k0 ?a1 ?l1 ?c1 ?k1 ?a2 ?l2 ?c2 ?k2 ?a3 ?l3 ?c3 ?k3 ?a4 ?l4 ?c4 ?k4 ?a5 ?l5 ?c5 ?k5 ?a6 ?l6 ?c6 ?k6 ?a7 ?l7 ?c7 ?k7 ?a8 ?l8 ?c8 ?k8 ?a9 ?l9 ?c9 ?k9 ?a10 ?l10 ?c10 ?k10 ?a11 ?l11 ?c11 ?k11 ?a12 ?l12 ?c12 ?k12 ?a13 ?l13 ?c13 ?k13 ?a14 ?l14 ?c14 ?k14 ?a15 ?l15 ?c15 ?k15 ?a16 ?l16 ?c16 ?k16 ?a17 ?l17 ?c17 ?k17 ?a18 ?l18 ?c18 ?k18 ?a19 ?l19 ?c19 ?k19 ?a20 ?l20 ?c20 ?k20 ?a21 ?l21 ?c21 ?k21 ?a22 ?l22 ?c22 ?k22 ?a23 ?l23 ?c23 ?k23 ?a24 ?l24 ?c24 ?k24 ?a25 ?l25 ?c25 ?k25 ?a26 ?l26 ?c26 ?k26 ?a27 ?l27 ?c27 ?k27 ?a28 ?l28 ?c28 ?k28 ?a29 ?l29 ?c29 ?k29 ?a30 ?l30 ?c30 ?k30 ?a31 ?l31 ?c31 ?k31 ?a32 ?l32 ?c32 ?k32 ?a33 ?l33 ?c33 ?k33 ?a34 ?l34 ?c34 ?k34 ?a35 ?l35 ?c35 ?k35 ?a36 ?l36 ?c36 ?k36 ?z0 ?z1 ?z2 ?z3 ?z4 ?z5 ?z6 ?z7 ?z8 ?z9 ?z10 ?z11 ?z12 ?z13 ?z14 ?z15
  (case a0|l0|c0|k0=>k_is)
  (case a1|l1|c1|k1=>k_is)
  (case a2|l2|c2|k2=>k_is)
  (case a3|l3|c3|k3=>k_is)
  (case a4|l4|c4|k4=>k_is)
  (case a5|l5|c5|k5=>k_is)
  (case a6|l6|c6|k6=>k_is)
  (case a7|l7|c7|k7=>k_is)
  (case a8|l8|c8|k8=>k_is)
  (case a9|l9|c9|k9=>k_is)
  (case a10|l10|c10|k10=>k_is)
  (case a11|l11|c11|k11=>k_is)
  (case a12|l12|c12|k12=>k_is)
  (case a13|l13|c13|k13=>k_is)
  (case a14|l14|c14|k14=>k_is)
  (case a15|l15|c15|k15=>k_is)
  (case a16|l16|c16|k16=>k_is)
  (case a17|l17|c17|k17=>k_is)
  (case a18|l18|c18|k18=>k_is)
  (case a19|l19|c19|k19=>k_is)
  (case a20|l20|c20|k20=>k_is)
  (case a21|l21|c21|k21=>k_is)
  (case a22|l22|c22|k22=>k_is)
  (case a23|l23|c23|k23=>k_is)
  (case a24|l24|c24|k24=>k_is)
  (case a25|l25|c25|k25=>k_is)
  (case a26|l26|c26|k26=>k_is)
  (case a27|l27|c27|k27=>k_is)
  (case a28|l28|c28|k28=>k_is)
  (case a29|l29|c29|k29=>k_is)
  (case a30|l30|c30|k30=>k_is)
  (case a31|l31|c31|k31=>k_is)
  (case a32|l32|c32|k32=>k_is)
  (case a33|l33|c33|k33=>k_is)
  (case a34|l34|c34|k34=>k_is)
  (case a35|l35|c35|k35=>k_is)
  (case a36|l36|c36|k36=>k_is)
  (case z0=>k_is)
  (case z1=>k_is)
  (case z2=>k_is)
  (case z3=>k_is)
  (case z4=>k_is)
  (case z5=>k_is)
  (case z6=>k_is)
  (case z7=>k_is)
  (case z8=>k_is)
  (case z9=>k_is)
  (case z10=>k_is)
  (case z11=>k_is)
  (case z12=>k_is)
  (case z13=>k_is)
  (case z14=>k_is)
  (case z15=>k_is)
