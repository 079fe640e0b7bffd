import PyProof.Rows.All
import Wide.All
import OpenK.AllK
import Wide.FinOn
import Lean
import PyProof.EqAt
import PyProof.EqKinds
import PyProof.TupleCall
import PyProof.AttrMissHeap
import KE.KEqDict
import KE.KItemsList
import PyProof.WalksMore
import PyProof.TupleOfStr
import PySem.Challenge.RW_mergetree_k08_two_rows_merged
set_option maxHeartbeats 4000000
set_option maxRecDepth 100000
set_option Elab.async false
set_option linter.all false
local macro_rules|`(tactic|ac_rfl)=>`(tactic|decide +kernel)
abbrev Qa:=@List.getElem?_eq_getElem
abbrev Qb:=@List.length_map
abbrev Qc:=@PySem.Heap.get?_push_of_some
abbrev Qd:=@List.length_append
abbrev Qe:=@List.mem_append_right
abbrev Qf:=@List.mem_singleton
abbrev Qg:=@List.mem_cons_of_mem
abbrev Qh:=@List.map_append
abbrev Qi:=@PySem.Heap.lt_size
abbrev Qj:=@List.getElem?_eq_some_iff
abbrev Qk:=@List.size_toArray
abbrev Ql:=@Nat.le_refl
abbrev Qm:=@Bool.false_ne_true
abbrev Qn:=@List.mem_append
abbrev Qo:=@Nat.lt_of_lt_of_le
abbrev Qp:=@Option.some.inj
abbrev Qq:=@List.mem_cons_self
abbrev Qr:=@PySem.Heap.get?_push_size
abbrev Qs:=@Array.length_toList
abbrev Qt:=@List.mem_cons
abbrev Qu:=@List.getElem?_map
abbrev Qv:=@List.map_cons
abbrev Qw:=@PySem.W.mg_none_of
abbrev Qx:=@Nat.ne_of_lt
abbrev Qy:=@PySem.boot_len
abbrev Qz:=@Array.toList_append
abbrev QA:=@Nat.zero_le
abbrev QB:=@List.length_take
abbrev QC:=@List.eq_nil_of_length_eq_zero
abbrev QD:=@List.mem_map_of_mem
abbrev QE:=@PySem.F.plainAttrs_list
abbrev QF:=@Array.getElem_toList
abbrev QG:=@List.take_of_length_le
abbrev QH:=@Array.getElem?_toList
abbrev QI:=@List.append_assoc
abbrev QJ:=@List.mem_append_left
abbrev QK:=@PySem.W.kia_one
abbrev QL:=@PySem.W.kia_tup
abbrev QM:=@Nat.le_trans
abbrev QN:=@List.take_append_drop
abbrev QO:=@PySem.F.slot_list_append
abbrev QP:=@PySem.F.type_list_append
abbrev QR:=@List.mem_of_getElem?
abbrev QS:=@List.length_drop
abbrev QT:=@PyProof.Rows.callWith_type1
abbrev QU:=@Nat.ne_of_gt
abbrev QV:=@List.getElem?_append_right
abbrev QW:=@List.filterMap_cons
abbrev QX:=@List.getElem_mem
abbrev QY:=@List.mem_iff_getElem
abbrev QZ:=@List.pairwise_append
abbrev Q0:=@List.nodup_cons
abbrev Q1:=@PySem.mem_of_lookup
abbrev Q3:=@Nat.add_lt_add_left
abbrev Q4:=@Nat.lt_irrefl
abbrev Q5:=@List.length_cons
abbrev Q6:=@List.getElem?_toArray
abbrev Q7:=@List.getElem?_eq_none
abbrev Q8:=@Nat.le_succ
abbrev Q9:=@Array.toList_push
abbrev Qaa:=@List.flatten_cons
abbrev Qab:=@List.take_add_one
abbrev Qac:=@PySem.Heap.size_push
abbrev Qad:=@Nat.lt_add_of_pos_right
abbrev Qae:=@List.pairwise_cons
abbrev Qaf:=@List.map_map
abbrev Qag:=@List.length_zipIdx
abbrev Qah:=@List.length_replicate
abbrev Qai:=@List.getElem_drop
abbrev Qaj:=@List.getElem_take
abbrev Qak:=@Array.toList_reverse
abbrev Qal:=@List.lookup_cons
abbrev Qam:=@Nat.le_add_right
abbrev Qan:=@List.mem_map
abbrev Qao:=@List.getElem?_append_left
abbrev Qap:=@List.pairwise_iff_getElem
abbrev Qaq:=@List.reverse_append
abbrev Qar:=@List.flatten_append
abbrev Qas:=@List.map_congr_left
abbrev Qat:=@Array.getElem_mem_toList
abbrev Qau:=@Bool.eq_iff_iff
abbrev Qav:=@Int.emod_lt_of_pos
abbrev Qaw:=@List.pairwise_singleton
abbrev Qax:=@PySem.W.kitx_list
abbrev Qay:=@PySem.W.kitx_dict
abbrev Qaz:=@List.Perm.append_right
abbrev QaA:=@List.Perm.refl
abbrev QaB:=@Int.toNat_natCast
abbrev QaC:=@List.flatMap_cons
abbrev QaD:=@List.pairwise_map
abbrev QaF:=@List.all_eq_true
namespace L2
open PySem PySem.Spec PyProof.Rows
abbrev Key:=Sum Int Str
def Zf1:Key→Value→Bool
 | .inl k,v=>Value.isInt k v
 | .inr x,v=>Value.isStrOf x v
def ZjQ(w:World):Key→Int
 | .inl k=>hashInt k
 | .inr x=>hashStr w x
theorem ZF:∀ {k:Key} {v:Value},Zf1 k v=true→(∃i t,k=Sum.inl i∧v=Value.int i t)∨(∃x t,k=Sum.inr x∧v=Value.str x t)
 | .inl i,v,h=>by
  obtain⟨t,e⟩:=Value.isInt_shape (k:=i) (v:=v) h
  exact .inl ⟨i,t,rfl,e⟩
 | .inr x,v,h=>by
  obtain⟨t,e⟩:=Value.isStrOf_shape (x:=x) (v:=v) h
  exact .inr ⟨x,t,rfl,e⟩
theorem Zh3(a b:Int):decide ((Sum.inl a:Key)=Sum.inl b)=(a == b):=by
 by_cases e:a=b
 ·subst e;simp
 ·have h:¬ (Sum.inl a:Key)=Sum.inl b:=fun q=>e (Sum.inl.inj q)
  rw[decide_eq_false h]
  exact(beq_eq_false_iff_ne.mpr e).symm
theorem Zh0(a b:Str):decide ((Sum.inr a:Key)=Sum.inr b)=decide (a=b):=by
 by_cases e:a=b
 ·subst e;simp
 ·have h:¬ (Sum.inr a:Key)=Sum.inr b:=fun q=>e (Sum.inr.inj q)
  rw[decide_eq_false h,decide_eq_false e]
theorem ZhN(a:Int)(b:Str):decide ((Sum.inl a:Key)=Sum.inr b)=false:=decide_eq_false (fun q=>nomatch q)
theorem Zir(a:Str)(b:Int):decide ((Sum.inr a:Key)=Sum.inl b)=false:=decide_eq_false (fun q=>nomatch q)
def Zbw(prog:Program)(w:World):PySem.KeyKind prog w Key where
 is:=Zf1
 hash:=ZjQ w
 inj:=fun v a b ha hb=>by
  rcases ZF ha with⟨i,t,rfl,rfl⟩|⟨x,t,rfl,rfl⟩
  ·rcases ZF hb with⟨j,u,rfl,e⟩|⟨y,u,rfl,e⟩
   ·injection e with e1 _;rw[e1]
   ·exact nomatch e
  ·rcases ZF hb with⟨j,u,rfl,e⟩|⟨y,u,rfl,e⟩
   ·exact nomatch e
   ·injection e with e1 _;rw[e1]
 byValue:=fun k v h=>by
  rcases ZF h with⟨i,t,rfl,rfl⟩|⟨x,t,rfl,rfl⟩<;>rfl
 pyHash:=fun hv h=>by
  rcases ZF hv with⟨i,t,rfl,rfl⟩|⟨x,t,rfl,rfl⟩
  ·exact wpAny_pyHash_int h
  ·exact wpAny_pyHash_str h
 eqBool:=fun hu hv h=>by
  rcases ZF hu with⟨i,t,rfl,rfl⟩|⟨x,t,rfl,rfl⟩
  ·rcases ZF hv with⟨j,u,rfl,rfl⟩|⟨y,u,rfl,rfl⟩
   ·rw[Zh3]at h;exact wpAny_eqBool_int h
   ·rw[ZhN]at h;exact SeqAt.EqAt.int_str i t y u _ _ _ _ h
  ·rcases ZF hv with⟨j,u,rfl,rfl⟩|⟨y,u,rfl,rfl⟩
   ·rw[Zir]at h;exact SeqAt.EqAt.str_int x t j u _ _ _ _ h
   ·rw[Zh0]at h;exact wpAny_eqBool_str h
 «strs»:=fun k x t v h=>by
  rcases ZF h with⟨i,u,rfl,e⟩|⟨y,u,rfl,e⟩
  ·exact nomatch e
  ·injection e with e1 _
   subst e1
   cases v<;>rfl
theorem ZhU(prog:Program)(w:World)(k:Key)(v:Value):(Zbw prog w).is k v=Zf1 k v:=rfl
inductive V where
 | non|bl (b:Bool)|int (i:Int)|str (x:Str)|byt (b:Array UInt8)|flt (b:UInt64)|ref (a:Addr)|ty (n:String)
 deriving DecidableEq
def Zo:V→Value→Prop
 | .non,u=>u=Value.none
 | .bl b,u=>u=Value.bool b
 | .int i,u=>∃t,u=Value.int i t
 | .str x,u=>∃t,u=Value.str x t
 | .byt b,u=>∃t,u=Value.bytes b t
 | .flt b,u=>∃t,u=Value.float b t
 | .ref a,u=>u=Value.ref a
 | .ty n,u=>u=Value.type n
abbrev Zm:List V→List Value→Prop:=Paired Zo
theorem Zm.length{xs:List V}{us:List Value}(r:Zm xs us):xs.length=us.length:=Paired.length r
theorem Zm.get:∀ {xs:List V} {us:List Value} {i:Nat} {x:V},Zm xs us→xs[i]? = some x→∃u,us[i]? = some u∧Zo x u
 | _,_,_,_,.nil,e=>by simp at e
 | _,_,0,_,.cons r _,e=>by simp at e;subst e;exact⟨_,rfl,r⟩
 | _,_,i+1,x,.cons _ t,e=>by
  obtain⟨u,h1,h2⟩:=Zm.get (i:=i) (x:=x) t (by simpa using e)
  exact⟨u,by simpa using h1,h2⟩
theorem Zm.set{x:V}{u:Value}(r:Zo x u):∀ {xs:List V} {us:List Value} (i:Nat),Zm xs us→Zm (xs.set i x) (us.set i u)
 | _,_,_,.nil=>.nil
 | _,_,0,.cons _ t=>.cons r t
 | _,_,i+1,.cons q t=>.cons q (Zm.set r i t)
theorem Zm.append:∀ {xs ys:List V} {us ws:List Value},Zm xs us→Zm ys ws→Zm (xs++ys) (us++ws)
 | _,_,_,_,.nil,s=>s
 | _,_,_,_,.cons r t,s=>.cons r (Zm.append t s)
def ZhR:Option V→Option Value→Prop
 | some v,some u=>Zo v u
 | none,none=>True
 | _,_=>False
def KV{κ:Type}:List (κ×V)→List (κ×Value)→Prop:=Paired fun (p:κ×V) (q:κ×Value)=>p.1=q.1∧Zo p.2 q.2
def kV:Key→V
 | .inl i=>.int i
 | .inr x=>.str x
inductive HO where
  | lst (xs:List V)
  | tup (xs:List V)
  | dK (kvs:List (Key×V))|dT (kvs:List (List Key×V))
  | set (S:Int→Bool) (n:Nat)
  | ins (C dx:Addr) (fs:List (Str×V))
  | own (x:Addr)
  | xd (fs:List (Str×V))
  | met (f x:Addr)
  | rng (lo hi:Int)
  | frz (o:Obj) (u:HO)
  | tbl (ps:Array Value)
  | ext (φ:Heap→Prop)
abbrev Hp:=Addr→Option HO
def upd(H:Hp)(a:Addr)(o:HO):Hp:=fun b=>if b=a then some o else H b
theorem Zd{H:Hp}{a:Addr}{o:HO}:upd H a o a=some o:=by unfold upd;rw[if_pos rfl]
theorem Zf{H:Hp}{a b:Addr}{o:HO}(h:b≠a):upd H a o b=H b:=by unfold upd;rw[if_neg h]
theorem Zhs{H:Hp}{a b:Addr}{o u:HO}(h:H a=some o)(h':H b=some u)(d:o≠u):a≠b:=by
 intro e;subst e;rw[h]at h';exact d (Qp h')
theorem Zc{H:Hp}{a b:Addr}{o:HO}(h:H a=some o)(h':H b=none):a≠b:=by
 intro e;subst e;rw[h]at h';cases h'
section
variable (P:Program) (w:World)
def ZN(H:Hp)(h:Heap)(a:Addr):HO→Prop
 | .lst xs=>xs.length≤sizeLine∧∃ (its:List Value) (n:Nat),Zm xs its∧h.get? a=some { cls:=.type "list",data:=.seq its.toArray n }
 | .tup xs=>xs.length≤sizeLine∧∃its:List Value,Zm xs its∧IsTup h a its.toArray
 | .dK kvs=>kvs.length≤sizeLine∧(a == sysModules)=false∧∃vs,KV kvs vs∧h.DictOf (Zbw P w) a vs
 | .dT kvs=>kvs.length≤sizeLine∧(a == sysModules)=false∧∃xs:List (List Key×Addr×Value),
   Paired (fun (p:List Key×V) (q:List Key×Addr×Value)=>p.1=q.1∧H q.2.1=some (.tup (p.1.map kV))∧Zo p.2 q.2.2) kvs xs ∧
   ∃o es ep,h.get? a=some o∧o.ExactDict∧o.data=.dict es ep∧es.toList=xs.map (entryOfKey (tupleKind (Zbw P w)))∧(xs.map (·.1)).Nodup
 | .set S n=>h.SetOf (intKind P w) a S n
 | .ins C dx fs=>H dx=some (.own a)∧fs.length≤1000∧dx≠a∧h.get? a=some (PySem.W.instObj C dx) ∧
   ∃mA,h.Ns1 dx mA∧(∀f,ZhR (fs.lookup f) (mA f))∧PySem.Within mA (fs.map (·.1))
 | .own _=>∃o,h.get? a=some o
 | .xd fs=>∃mA,h.Ns1 a mA∧∀f,ZhR (fs.lookup f) (mA f)
 | .rng lo hi=>∃t u v,h.get? a=some { cls:=.type "range",data:=.fields #[.int lo t,.int hi u,.int 1 v] }
 | .frz o u=>h.get? a=some o∧ZN H h a u
 | .tbl ps=>h.get? a=some { cls:=.none,data:=.fields ps }
 | .met f x=>h.get? a=some (PySem.W.methodObj (.ref f) (.ref x))
 | .ext φ=>φ h∧(∃o,h.get? a=some o)∧∀h1 h2:Heap,φ h1→(∀o,h1.get? a=some o→h2.get? a=some o)→φ h2
def HOk(H:Hp)(h:Heap):Prop:=∀a o,H a=some o→ZN P w H h a o
end
section
variable {P:Program} {w:World} {H H':Hp} {h h':Heap} {a:Addr} {o:HO}
theorem ZN.lt(x:ZN P w H h a o):a<h.objs.size:=by
 cases o with
 | lst xs=>obtain⟨_,_,_,_,e⟩:=x;exact Qi e
 | tup xs=>obtain⟨_,_,_,p⟩:=x;exact p.lt
 | dK kvs=>obtain⟨_,_,_,_,o,_,_,e,_⟩:=x;exact Qi e
 | dT kvs=>obtain⟨_,_,_,_,o,_,_,e,_⟩:=x;exact Qi e
 | set S n=>obtain⟨o,_,_,_,e,_⟩:=x;exact Qi e
 | ins C dx fs=>obtain⟨_,_,_,e,_⟩:=x;exact Qi e
 | own y=>obtain⟨_,e⟩:=x;exact Qi e
 | xd fs=>obtain⟨_,⟨_,_,_,e,_⟩,_⟩:=x;exact Qi e
 | rng lo hi=>obtain⟨_,_,_,e⟩:=x;exact Qi e
 | frz ob u=>obtain⟨e,_⟩:=x;exact Qi e
 | tbl ps=>exact Qi (show h.get? a=some _ from x)
 | met f y=>exact Qi (show h.get? a=some _ from x)
 | ext φ=>obtain⟨_,⟨_,e⟩,_⟩:=x;exact Qi e
theorem Paired.mapP{α β:Type}{F G:α→β→Prop}:∀ {l₁:List α} {l₂:List β},Paired F l₁ l₂→(∀a b,F a b→G a b)→Paired G l₁ l₂
 | _,_,.nil,_=>.nil
 | _,_,.cons r t,f=>.cons (f _ _ r) (Paired.mapP t f)
theorem ZN.stay(x:ZN P w H h a o)(k:∀b u,(b=a∨H b=some (.own a))→h.get? b=some u→h'.get? b=some u)
  (ho:∀b,H b=some (.own a)→H' b=some (.own a)) (ht:∀b xs,H b=some (.tup xs)→H' b=some (.tup xs)):ZN P w H' h' a o:=by
 induction o with
 | lst xs=>obtain⟨z,its,n,r,e⟩:=x;exact⟨z,its,n,r,k _ _ (.inl rfl) e⟩
 | tup xs=>obtain⟨z,its,r,ob,e,c⟩:=x;exact⟨z,its,r,ob,k _ _ (.inl rfl) e,c⟩
 | dK kvs=>obtain⟨z,y,vs,r,ob,es,ep,e,c⟩:=x;exact⟨z,y,vs,r,ob,es,ep,k _ _ (.inl rfl) e,c⟩
 | dT kvs =>
  obtain⟨z,y,xs,r,ob,es,ep,e,c⟩:=x
  exact⟨z,y,xs,Paired.mapP r fun p q z=>⟨z.1,ht _ _ z.2.1,z.2.2⟩,ob,es,ep,k _ _ (.inl rfl) e,c⟩
 | set S n=>obtain⟨ob,es,ep,t,e,c⟩:=x;exact⟨ob,es,ep,t,k _ _ (.inl rfl) e,c⟩
 | ins C dx fs =>
  obtain⟨d,z,ne,e,mA,⟨od,es,ep,e2,c⟩,r⟩:=x
  exact⟨ho _ d,z,ne,k _ _ (.inl rfl) e,mA,⟨od,es,ep,k _ _ (.inr d) e2,c⟩,r⟩
 | own y=>obtain⟨ob,e⟩:=x;exact⟨ob,k _ _ (.inl rfl) e⟩
 | xd fs=>obtain⟨mA,⟨od,es,ep,e,c⟩,r⟩:=x;exact⟨mA,⟨od,es,ep,k _ _ (.inl rfl) e,c⟩,r⟩
 | rng lo hi=>obtain⟨t,u,v,e⟩:=x;exact⟨t,u,v,k _ _ (.inl rfl) e⟩
 | frz ob u ih=>obtain⟨e,q⟩:=x;exact⟨k _ _ (.inl rfl) e,ih q⟩
 | tbl ps =>
  have e:h.get? a=some { cls:=.none,data:=.fields ps }:=x
  show h'.get? a=some { cls:=.none,data:=.fields ps }
  exact k a _ (.inl rfl) e
 | met f y =>
  have e:h.get? a=some (PySem.W.methodObj (.ref f) (.ref y)):=x
  show h'.get? a=some (PySem.W.methodObj (.ref f) (.ref y))
  exact k a _ (.inl rfl) e
 | ext φ=>obtain⟨p,⟨o,e⟩,st⟩:=x;exact⟨st _ _ p fun o q=>k _ _ (.inl rfl) q,⟨o,k _ _ (.inl rfl) e⟩,st⟩
theorem HOk.lt(x:HOk P w H h)(e:H a=some o):a<h.objs.size:=(x a o e).lt
theorem HOk.fresh(x:HOk P w H h)(e:h.objs.size≤a):H a=none:=by
 cases q:H a with
 | none=>rfl
 | some u=>exact absurd (Qo (x.lt q) e) (Q4 _)
theorem HOk.kept(x:HOk P w H h)(k:∀b u,h.get? b=some u→h'.get? b=some u):HOk P w H h':=fun a o e =>
 (x a o e).stay (fun b u _ q=>k b u q) (fun _ q=>q) fun _ _ q=>q
theorem HOk.laid(x:HOk P w H h)(k:∀b u,h.get? b=some u→h'.get? b=some u)(hp:h.objs.size≤a)(new:ZN P w (upd H a o) h' a o):HOk P w (upd H a o) h':=fun b u e=>by
 have hn:=x.fresh hp
 by_cases hb:b=a
 ·subst hb;rw[Zd]at e;cases e;exact new
 ·rw[Zf hb]at e
  exact(x b u e).stay (fun c v _ q=>k c v q) (fun c q=>by rw[Zf (Zc q hn)];exact q) fun c xs q=>by rw[Zf (Zc q hn)];exact q
end
def Rd(H:Hp)(a:Addr)(u:HO):Prop:=H a=some u∨∃o,H a=some (.frz o u)
theorem Rd.ok{P:Program}{w:World}{H:Hp}{h:Heap}{a:Addr}{u:HO}(r:Rd H a u)(x:HOk P w H h):ZN P w H h a u:=by
 rcases r with r|⟨o,r⟩
 ·exact x a u r
 ·obtain⟨_,q⟩:=x a _ r
  exact q
def Mut:Option HO→Prop
 | some (.lst _)=>True
 | some (.dK _)=>True
 | some (.dT _)=>True
 | some (.set _ _)=>True
 | some (.ins _ _ _)=>True
 | some (.ext _)=>True
 | _=>False
section
variable {P:Program} {w:World} {H:Hp} {h h':Heap} {x e:Addr} {o':HO}
theorem HOk.write(ok:HOk P w H h)(mu:Mut (H x))(he:e=x∨H e=some (.own x))(k:∀b u,b≠e→h.get? b=some u→h'.get? b=some u)(heo:∃u,h'.get? e=some u)
  (new:ZN P w (upd H x o') h' x o'):HOk P w (upd H x o') h':=fun b u q=>by
 have nown:∀c y,H c=some (.own y)→c≠x:=fun c y r z=>by subst z;rw[r]at mu;exact mu
 have ntup:∀c xs,H c=some (.tup xs)→c≠x:=fun c xs r z=>by subst z;rw[r]at mu;exact mu
 by_cases hb:b=x
 ·subst hb;rw[Zd]at q;cases q;exact new
 ·rw[Zf hb]at q
  by_cases hbe:b=e
  ·have q':H b=some (.own x):=by
    rcases he with z|z
    ·exact absurd (hbe.trans z) hb
    ·rw[hbe];exact z
   rw[q]at q';cases q'
   obtain⟨v,hv⟩:=heo
   exact⟨v,by rw[hbe];exact hv⟩
  ·refine(ok b u q).stay (fun c v hc r=>k c v ?_ r) (fun c r=>by rw[Zf (nown c b r)];exact r) fun c xs r=>by rw[Zf (ntup c xs r)];exact r
   rcases hc with rfl|hc
   ·exact hbe
   ·rintro rfl
    rcases he with z|z
    ·exact nown c b hc z
    ·rw[hc]at z;cases z;exact hb rfl
end
structure Un (fs ex:List Addr) (H H':Hp) (h h':Heap):Prop where
 keep:∀b o,h.get? b=some o→H b=none→b ∉ fs→b ∉ ex→h'.get? b=some o
 slot:∀b o,h.get? b=some o→H b=none→b∈fs→b ∉ ex→∃sl,h'.get? b=some { o with slots:=sl }
 free:∀b o,h.get? b=some o→H b=none→b ∉ ex→H' b=none
 there:∀b o,h.get? b=some o→b ∉ ex→∃o',h'.get? b=some o'
 tups:∀b xs,H b=some (.tup xs)→H' b=some (.tup xs)
 frzs:∀b o u,H b=some (.frz o u)→H' b=some (.frz o u)
 tbls:∀b ps,H b=some (.tbl ps)→∃more,H' b=some (.tbl (ps++more))
section
variable {fs fs' ex ex':List Addr} {H H1 H2:Hp} {h h1 h2 h':Heap} {a x e:Addr} {o:HO}
theorem Un.any(u:Un fs ex H H1 h h1){b:Addr}{ob:Obj}(q:h.get? b=some ob)(n:H b=none)(hx:b ∉ ex):∃sl,h1.get? b=some { ob with slots:=sl }:=by
 by_cases hb:b∈fs
 ·exact u.slot b ob q n hb hx
 ·exact⟨ob.slots,u.keep b ob q n hb hx⟩
theorem Un.kept(k:∀b u,h.get? b=some u→h'.get? b=some u):Un fs ex H H h h' :=
 ⟨fun b ob q _ _ _=>k b ob q,fun b ob q _ _ _=>⟨ob.slots,k b ob q⟩,fun _ _ _ n _=>n,fun b ob q _=>⟨ob,k b ob q⟩,fun _ _ q=>q,fun _ _ _ q=>q,fun _ ps q=>⟨#[],by rw[q];simp⟩⟩
theorem Un.refl:Un fs ex H H h h:=Un.kept fun _ _ q=>q
theorem Un.laid(k:∀b u,h.get? b=some u→h'.get? b=some u)(hp:h.objs.size≤a)(hn:H a=none):Un fs ex H (upd H a o) h h' where
 keep:=fun b u q _ _ _=>k b u q
 slot:=fun b u q _ _ _=>⟨u.slots,k b u q⟩
 free:=fun b u q n _=>by rw[Zf (Qx (Qo (Qi q) hp))];exact n
 there:=fun b u q _=>⟨u,k b u q⟩
 tups:=fun b xs q=>by rw[Zf (Zc q hn)];exact q
 frzs:=fun b u xs q=>by rw[Zf (Zc q hn)];exact q
 tbls:=fun b ps q=>⟨#[],by rw[Zf (Zc q hn),q];simp⟩
theorem Un.write(mu:Mut (H x))(he:e=x∨H e=some (.own x))(k:∀b u,b≠e→h.get? b=some u→h'.get? b=some u)(heo:∃u,h'.get? e=some u):Un fs ex H (upd H x o) h h':=by
 have hx:∀b,H b=none→b≠x:=fun b n z=>by subst z;rw[n]at mu;exact mu
 have hb:∀b,H b=none→b≠e:=fun b n z=>by
  subst z
  rcases he with r|r
  ·exact hx b n r
  ·rw[n]at r;cases r
 have hm:∀b u,H b=some u→¬ Mut (some u)→b≠x:=fun b u q nm z=>by subst z;rw[q]at mu;exact nm mu
 refine⟨fun b u q n _ _=>k b u (hb b n) q,fun b u q n _ _=>⟨u.slots,k b u (hb b n) q⟩,fun b u q n _=>by rw[Zf (hx b n)];exact n,fun b u q _=>?_,
  fun b xs q=>by rw[Zf (hm b _ q fun z=>z)];exact q,fun b u xs q=>by rw[Zf (hm b _ q fun z=>z)];exact q,fun b ps q=>⟨#[],by rw[Zf (hm b _ q fun z=>z),q];simp⟩⟩
 by_cases hbe:b=e
 ·subst hbe;exact heo
 ·exact⟨u,k b u hbe q⟩
end
def trk(h:Heap)(H:Hp):List Addr:=(List.range h.objs.size).filter fun a=>(H a).isSome
def ZcU(h:Heap)(H:Hp):Heap:=PySem.W.hideAll h (trk h H)
theorem Ze2(h:Heap)(H:Hp):(ZcU h H).objs.size=h.objs.size:=PySem.W.hideAll_size _ _
theorem Zgf{h:Heap}{H:Hp}{b:Addr}{o:Obj}(e:h.get? b=some o)(n:H b=none):(ZcU h H).get? b=some o :=
 PySem.W.hideAll_get _ e fun hm=>by
  have q:(H b).isSome=true:=(List.mem_filter.mp hm).2
  rw[n]at q;simp at q
theorem ZgX{h:Heap}{H:Hp}{b:Addr}{o:Obj}(e:(ZcU h H).get? b=some o):h.get? b=some o∧H b=none:=by
 have e':h.get? b=some o:=PySem.W.of_hideAll (trk h H) e
 refine⟨e',?_⟩
 cases q:H b with
 | none=>rfl
 | some x =>
  have hm:b∈trk h H:=List.mem_filter.mpr ⟨List.mem_range.mpr (Qi e'),by simp[q]⟩
  have z:(ZcU h H).get? b=none:=PySem.W.hideAll_none (trk h H) hm
  rw[z]at e;cases e
def ZgZ(g h:Heap)(L:Addr):List (Addr×Obj):=(List.range h.objs.size).filterMap fun a=>if a=L∨(g.get? a).isSome=true then none else (h.get? a).map fun o=>(a,o)
def rest(g h:Heap)(L d:Addr):List (Addr×Obj):=(ZgZ g h L).filter fun p=>decide (p.1≠d)
structure Mod (K:PySem.W.Frag) (mg:Str→Option Value) (base:Heap):Prop where
 kin:K.In base
 glob:base.Ns mainGlobals mg
 blt:∃mb,base.Ns builtinsNs mb∧∀x:Str,x ≠ "__name__"→mb x=bootBuiltins x
 nolimit:base.NoLimit
structure Cx where
 prog:Program
 w:World
 K:PySem.W.Frag
 mg:Str→Option Value
 base:Heap
 A:Around
 N:List Str
 s₀:Shared
 H₀:Hp
 env:Env
 outer:List Env
 stack:List Env
 ex:List Addr
 fn:Str→Bool
 calm:Bool
 pn:List (Addr×Obj)
 xe:Value→Shared→Prop
def frs(l:List Env):List Addr:=l.filterMap (·.frame)
abbrev Cx.fs(X:Cx):List Addr:=frs X.outer
def Vis(sc:Scope)(x:Str):Prop:=sc.names.lookup x=some .local∨sc.names.lookup x=some .cell∨sc.names.lookup x=some .free
def Loc(sc:Scope)(x:Str):Prop:=sc.names.lookup x=some .local∨sc.names.lookup x=some .cell
def ZjX(env:Env)(h:Heap)(m:Str→Option Value)(x:Str)(u:Value):Prop :=
 (env.kindOf x=some .local∧m x=some u)∨((env.kindOf x=some .cell∨env.kindOf x=some .free)∧∃c,env.cells.lookup x=some c∧h.IsCell c (some u))
structure Cx.Ok (X:Cx):Prop where
 mod:Mod X.K X.mg X.base
 kind:X.env.scope.kind=.function
 glob:X.env.globals=mainGlobals
 blt:X.env.builtins=builtinsNs
 above:X.s₀.heap.objs.size≤X.env.locals
 inj:∀x y c,X.env.cells.lookup x=some c→X.env.cells.lookup y=some c→x=y
 has:∀x,(X.env.kindOf x=some .cell∨X.env.kindOf x=some .free)→∃c,X.env.cells.lookup x=some c
 cab:∀x c,X.fn x=true→X.env.cells.lookup x=some c→X.s₀.heap.objs.size≤c
 hd:X.calm=true→X.A.handled=none
 frames:X.A.frames=some X.stack
 stk:X.stack=X.outer∨(X.stack=X.env::X.outer∧X.env.frame=some X.env.locals)
 exf:∀b∈X.ex,b≠X.env.locals∧∀x c,X.env.cells.lookup x=some c→c≠b
 bs:∀b o,X.base.get? b=some o→X.s₀.heap.get? b=some o∧X.H₀ b=none
 bsz:X.base.objs.size≤X.s₀.heap.objs.size
 noex:∀b o,X.base.get? b=some o→b ∉ X.ex
 exfs:∀b∈X.ex,b ∉ X.fs
 funs:X.s₀.heap.FunFrames X.base X.outer
 frf:∀b∈X.fs,X.H₀ b=none
structure Inv (X:Cx) (pins:List (Addr×Obj)) (σ:List (Option V)) (H:Hp) (s:Shared):Prop where
 ok:X.Ok
 os:s.os=X.s₀.os
 bare:AllBare s.gens
 base:Un X.fs X.ex X.H₀ H X.s₀.heap s.heap
 loc:∃m,s.heap.Ns X.env.locals m∧∀ (i:Nat) (x:Str) (v:V),X.N[i]? = some x→σ[i]? = some (some v)→Vis X.env.scope x→∃u,Zo v u∧ZjX X.env s.heap m x u
 cell:∀x c,X.env.cells.lookup x=some c→∃v,s.heap.IsCell c v
 free:H X.env.locals=none
 freeC:∀x c,X.env.cells.lookup x=some c→H c=none
 pin:∀p∈X.pn++pins,s.heap.get? p.1=some p.2∧H p.1=none∧p.1≠X.env.locals∧p.1 ∉ X.fs∧∀v,p.2.data≠.cell v
 hok:HOk X.prog X.w H s.heap
 len:σ.length=X.N.length
section
variable {X:Cx} {pins:List (Addr×Obj)} {σ:List (Option V)} {H H':Hp} {s:Shared} {h':Heap}
theorem Cx.Ok.nofr(ok:X.Ok){b:Addr}{o:Obj}(e:X.base.get? b=some o):b ∉ X.fs:=fun hb=>by
 have:=(ok.funs.mem hb).1
 rw[e]at this;cases this
theorem Inv.bs(I:Inv X pins σ H s):∀b o,X.base.get? b=some o→s.heap.get? b=some o∧H b=none:=fun b o e =>
 ⟨I.base.keep b o (I.ok.bs b o e).1 (I.ok.bs b o e).2 (I.ok.nofr e) (I.ok.noex b o e),I.base.free b o (I.ok.bs b o e).1 (I.ok.bs b o e).2 (I.ok.noex b o e)⟩
theorem Inv.bk(I:Inv X pins σ H s):∀b o,X.base.get? b=some o→s.heap.get? b=some o:=fun b o e=>(I.bs b o e).1
theorem Inv.mod(I:Inv X pins σ H s):Mod X.K X.mg X.base:=I.ok.mod
theorem Inv.kIn(I:Inv X pins σ H s):X.K.In s.heap:=I.ok.mod.kin.keeps I.bk
theorem Inv.lt(I:Inv X pins σ H s):X.env.locals<s.heap.objs.size:=let ⟨_,hn,_⟩:=I.loc;hn.lt
theorem Inv.sz(I:Inv X pins σ H s):X.s₀.heap.objs.size≤s.heap.objs.size:=QM I.ok.above (Nat.le_of_lt I.lt)
theorem Inv.nofs(I:Inv X pins σ H s){a:Addr}(h:s.heap.objs.size≤a):a ∉ X.fs:=fun hb=>by
 obtain⟨_,o,ho,_⟩:=I.ok.funs.mem hb
 exact absurd (Qo (Qi ho) (QM I.sz h)) (Q4 _)
theorem Inv.cne(I:Inv X pins σ H s):∀x c,X.env.cells.lookup x=some c→c≠X.env.locals:=fun x c e z=>by
 obtain⟨v,o,ho,hd⟩:=I.cell x c e
 obtain⟨m,⟨o',es,ep,ho',hd',_⟩,_⟩:=I.loc
 rw[z,ho']at ho;cases ho;rw[hd']at hd;cases hd
theorem Inv.funs(I:Inv X pins σ H s):s.heap.FunFrames X.base X.outer:=by
 have all:∀ (l:List Env),(∀b∈frs l,b∈X.fs)→X.s₀.heap.FunFrames X.base l→s.heap.FunFrames X.base l:=by
  intro l
  induction l with
  | nil=>intro _ _;trivial
  | cons env r ih =>
   intro hs hl
   obtain⟨hk,⟨L,o,hf,hn,ho,hd⟩,hr⟩:=hl
   have hL:L∈X.fs:=hs L (by unfold frs;rw[QW,hf];exact Qq)
   obtain⟨sl,e⟩:=I.base.slot L o ho (I.ok.frf L hL) hL fun z=>I.ok.exfs L z hL
   exact⟨hk,⟨L,_,hf,hn,e,hd⟩,ih (fun b hb=>hs b (by unfold frs;rw[QW,hf];exact Qg _ hb)) hr⟩
 exact all X.outer (fun _ hb=>hb) I.ok.funs
theorem Inv.stack(I:Inv X pins σ H s):s.heap.FunFrames X.base X.stack:=by
 rcases I.ok.stk with e|⟨e,hf⟩
 ·rw[e];exact I.funs
 ·rw[e]
  obtain⟨m,hn,_⟩:=I.loc
  refine .cons (by rw[I.ok.kind];decide) hf hn ?_ I.funs
  exact Heap.get?_none_of_le (QM I.ok.bsz I.ok.above)
theorem Inv.stkSub(I:Inv X pins σ H s):∀b∈frs X.stack,b∈X.env.locals::X.fs:=fun b hb=>by
 rcases I.ok.stk with e|⟨e,hf⟩
 ·rw[e]at hb;exact Qg _ hb
 ·rw[e]at hb
  unfold frs at hb
  rw[QW,hf]at hb
  exact hb
theorem Inv.stkFree(I:Inv X pins σ H s):∀b∈frs X.stack,H b=none:=fun b hb=>by
 rcases Qt.mp (I.stkSub b hb) with e|hb
 ·rw[e];exact I.free
 ·obtain⟨_,o,ho,_⟩:=I.ok.funs.mem hb
  exact I.base.free b o ho (I.ok.frf b hb) fun z=>I.ok.exfs b z hb
theorem Inv.step{g':Array GenState}{t':Nat}{d':Drawn}{ch:List Addr}(I:Inv X pins σ H s)
  (hch:∀b∈ch,(b∈X.ex∨X.s₀.heap.objs.size≤b)∧b≠X.env.locals∧(∀x c,X.env.cells.lookup x=some c→c≠b)∧∀p∈X.pn++pins,p.1≠b)
  (keep:∀b o,b≠X.env.locals→b ∉ X.fs→b ∉ ch→s.heap.get? b=some o→H b=none→h'.get? b=some o)
  (slot:∀b o,b≠X.env.locals→b∈X.fs→b ∉ ch→s.heap.get? b=some o→H b=none→∃sl,h'.get? b=some { o with slots:=sl }) (free:∀b o,b ∉ ch→s.heap.get? b=some o→H b=none→H' b=none)
  (there:∀b o,b ∉ ch→s.heap.get? b=some o→∃o',h'.get? b=some o')
  (tups:∀b xs,H b=some (.tup xs)→H' b=some (.tup xs)) (frzs:∀b o u,H b=some (.frz o u)→H' b=some (.frz o u)) (tbls:∀b ps,H b=some (.tbl ps)→∃more,H' b=some (.tbl (ps++more)))
  (ns:∀m,s.heap.Ns X.env.locals m→h'.Ns X.env.locals m) (hok:HOk X.prog X.w H' h') (hg:AllBare g') :
  Inv X pins σ H' { s with heap:=h',gens:=g',drawn:=d',toks:=t' }:=by
 have neL:∀b o,X.s₀.heap.get? b=some o→b≠X.env.locals:=fun b o e=>Qx (Qo (Qi e) I.ok.above)
 have neC:∀b o,X.s₀.heap.get? b=some o→b ∉ X.ex→b ∉ ch:=fun b o e hx hb=>by
  rcases(hch b hb).1 with z|z
  ·exact hx z
  ·exact absurd (Qo (Qi e) z) (Q4 _)
 have cellK:∀x c,X.env.cells.lookup x=some c→∀v,s.heap.IsCell c v→h'.IsCell c v:=fun x c e v ⟨o,ho,hd⟩=>by
  have nch:c ∉ ch:=fun z=>(hch c z).2.2.1 x c e rfl
  by_cases hc:c∈X.fs
  ·obtain⟨sl,q⟩:=slot c o (I.cne x c e) hc nch ho (I.freeC x c e)
   exact⟨_,q,hd⟩
  ·exact⟨o,keep c o (I.cne x c e) hc nch ho (I.freeC x c e),hd⟩
 refine⟨I.ok,I.os,hg,⟨fun b o e n hb hx=>?_,fun b o e n hb hx=>?_,fun b o e n hx=>?_,fun b o e hx=>?_,fun b xs e=>tups b xs (I.base.tups b xs e),fun b o xs e=>frzs b o xs (I.base.frzs b o xs e),fun b ps e=>?_⟩,?_,fun x c e=>?_,?_,fun x c e=>?_,fun p hp=>?_,hok,I.len⟩
 ·exact keep b o (neL b o e) hb (neC b o e hx) (I.base.keep b o e n hb hx) (I.base.free b o e n hx)
 ·obtain⟨sl,e1⟩:=I.base.slot b o e n hb hx
  obtain⟨sl',e2⟩:=slot b _ (neL b o e) hb (neC b o e hx) e1 (I.base.free b o e n hx)
  exact⟨sl',e2⟩
 ·obtain⟨o',e1⟩:=I.base.there b o e hx
  exact free b o' (neC b o e hx) e1 (I.base.free b o e n hx)
 ·obtain⟨o',e1⟩:=I.base.there b o e hx
  exact there b o' (neC b o e hx) e1
 ·obtain⟨m1,e1⟩:=I.base.tbls b ps e
  obtain⟨m2,e2⟩:=tbls b _ e1
  exact⟨m1++m2,by rw[e2,Array.append_assoc]⟩
 ·obtain⟨m,hn,hl⟩:=I.loc
  refine⟨m,ns m hn,fun i x v e1 e2 e3=>?_⟩
  obtain⟨u,r,l⟩:=hl i x v e1 e2 e3
  refine⟨u,r,?_⟩
  rcases l with l|⟨k,c,e,z⟩
  ·exact .inl l
  ·exact .inr ⟨k,c,e,cellK x c e _ z⟩
 ·obtain⟨v,z⟩:=I.cell x c e
  exact⟨v,cellK x c e v z⟩
 ·obtain⟨m,⟨o,_,_,ho,_⟩,_⟩:=I.loc
  exact free _ o (fun z=>(hch _ z).2.1 rfl) ho I.free
 ·obtain⟨v,o,ho,hd⟩:=I.cell x c e
  exact free c o (fun z=>(hch c z).2.2.1 x c e rfl) ho (I.freeC x c e)
 ·obtain⟨e,n,ne,nf,d⟩:=I.pin p hp
  have nch:p.1 ∉ ch:=fun z=>(hch p.1 z).2.2.2 p hp rfl
  exact⟨keep p.1 p.2 ne nf nch e n,free p.1 p.2 nch e n,ne,nf,d⟩
theorem Inv.un{t':Nat}(I:Inv X pins σ H s)(u:Un X.fs [] H H' s.heap h')(hok:HOk X.prog X.w H' h'):Inv X pins σ H' { s with heap:=h',toks:=t' }:=by
 obtain⟨m,⟨o,es,ep,ho,r⟩,_⟩:=id I.loc
 obtain⟨sl,hL⟩:=u.any ho I.free (by simp)
 exact I.step (g':=s.gens) (d':=s.drawn) (ch:=[]) (fun _ z=>nomatch z) (fun b o _ hb _ e n=>u.keep b o e n hb (by simp)) (fun b o _ hb _ e n=>u.slot b o e n hb (by simp)) (fun b o _ e n=>u.free b o e n (by simp)) (fun b o _ e=>u.there b o e (by simp)) u.tups u.frzs u.tbls (fun m' hm=>by
  obtain⟨o',es',ep',ho',r'⟩:=hm
  rw[ho]at ho';cases ho'
  exact⟨_,es',ep',hL,r'⟩) hok I.bare
theorem Inv.call{g':Array GenState}{t':Nat}{d':Drawn}{ch:List Addr}(I:Inv X pins σ H s)(u:Un (frs X.stack) ch H H' s.heap h')(hok:HOk X.prog X.w H' h')(hg:AllBare g')
  (hch:∀b∈ch,(b∈X.ex∨X.s₀.heap.objs.size≤b)∧b≠X.env.locals∧(∀x c,X.env.cells.lookup x=some c→c≠b)∧∀p∈X.pn++pins,p.1≠b) :
  Inv X pins σ H' { s with heap:=h',gens:=g',drawn:=d',toks:=t' }:=by
 obtain⟨m,⟨o,es,ep,ho,r⟩,_⟩:=id I.loc
 obtain⟨sl,hL⟩:=u.any ho I.free fun z=>(hch _ z).2.1 rfl
 exact I.step (ch:=ch) hch (fun b o hL hb hc e n=>u.keep b o e n (fun z=>(Qt.mp (I.stkSub b z)).elim hL hb) hc) (fun b o _ _ hc e n=>u.any e n hc) (fun b o hc e n=>u.free b o e n hc) (fun b o hc e=>u.there b o e hc) u.tups u.frzs u.tbls (fun m' hm=>by
  obtain⟨o',es',ep',ho',r'⟩:=hm
  rw[ho]at ho';cases ho'
  exact⟨_,es',ep',hL,r'⟩) hok hg
theorem Inv.turned{t':Nat}{it:Addr}(I:Inv X pins σ H s)(k:∀b o,b≠it→s.heap.get? b=some o→h'.get? b=some o)(hn:H it=none)(hL:it≠X.env.locals)
  (h1:it∈X.ex∨X.s₀.heap.objs.size≤it) (h2:∀x c,X.env.cells.lookup x=some c→c≠it) (h3:∀p∈X.pn++pins,p.1≠it):Inv X pins σ H { s with heap:=h',toks:=t' }:=by
 have nit:∀b u,H b=some u→b≠it:=fun b u e z=>by rw[z,hn]at e;cases e
 refine I.step (g':=s.gens) (d':=s.drawn) (ch:=[it]) (fun b hb=>?_) (fun b o _ _ hc e _=>k b o (fun z=>hc (by simp[z])) e) (fun b o _ _ hc e _=>⟨o.slots,k b o (fun z=>hc (by simp[z])) e⟩) (fun _ _ _ _ n=>n)
  (fun b o hc e=>⟨o,k b o (fun z=>hc (by simp[z])) e⟩) (fun _ _ e=>e) (fun _ _ _ e=>e) (fun b ps e=>⟨#[],by rw[e];simp⟩) (fun m hm=>?_) (fun b u e=>?_) I.bare
 ·have e:b=it:=by simpa using hb
  subst e
  exact⟨h1,hL,h2,h3⟩
 ·obtain⟨o,es,ep,ho,r⟩:=hm
  exact⟨o,es,ep,k _ o (Ne.symm hL) ho,r⟩
 ·refine(I.hok b u e).stay (fun c v hc q=>k c v ?_ q) (fun _ q=>q) fun _ _ q=>q
  rcases hc with z|z
  ·rw[z];exact nit b u e
  ·exact nit c _ z
theorem Inv.tok(I:Inv X pins σ H s)(t:Nat):Inv X pins σ H { s with toks:=t }:=I.un (h':=s.heap) (t':=t) Un.refl I.hok
theorem Inv.kept{t':Nat}(I:Inv X pins σ H s)(k:∀b u,s.heap.get? b=some u→h'.get? b=some u):Inv X pins σ H { s with heap:=h',toks:=t' }:=I.un (Un.kept k) (I.hok.kept k)
theorem Inv.laid{a:Addr}{o:HO}{t':Nat}(I:Inv X pins σ H s)(k:∀b u,s.heap.get? b=some u→h'.get? b=some u)(hp:s.heap.objs.size≤a)(new:ZN X.prog X.w (upd H a o) h' a o) :
  Inv X pins σ (upd H a o) { s with heap:=h',toks:=t' }:=I.un (Un.laid k hp (I.hok.fresh hp)) (I.hok.laid k hp new)
theorem Inv.write{x e:Addr}{o:HO}{t':Nat}(I:Inv X pins σ H s)(mu:Mut (H x))(he:e=x∨H e=some (.own x))(k:∀b u,b≠e→s.heap.get? b=some u→h'.get? b=some u)(heo:∃u,h'.get? e=some u)
  (new:ZN X.prog X.w (upd H x o) h' x o):Inv X pins σ (upd H x o) { s with heap:=h',toks:=t' }:=I.un (Un.write mu he k heo) (I.hok.write mu he k heo new)
theorem Inv.pins_of{pins':List (Addr×Obj)}(I:Inv X pins σ H s)(h:∀p∈pins',s.heap.get? p.1=some p.2∧H p.1=none∧p.1≠X.env.locals∧p.1 ∉ X.fs∧∀v,p.2.data≠.cell v):Inv X pins' σ H s :=
 ⟨I.ok,I.os,I.bare,I.base,I.loc,I.cell,I.free,I.freeC,fun p hp=>(Qn.mp hp).elim (fun z=>I.pin p (QJ _ z)) (h p),I.hok,I.len⟩
theorem Zdl{N:List Str}(hN:N.Nodup){i j:Nat}{x:Str}(a:N[i]? = some x)(b:N[j]? = some x):i=j:=by
 obtain⟨h1,e1⟩:=Qj.mp a
 obtain⟨h2,e2⟩:=Qj.mp b
 exact(List.getElem_inj hN).mp (e1.trans e2.symm)
theorem Zct{M:Model}{A:Around}{E:Value→Shared→Prop}{i:Nat}{x:Str}{v:V}{u:Value}{Q:Unit→Shared→Prop}(I:Inv X pins σ H s)(hN:X.N.Nodup)(hi:X.N[i]? = some x)(hx:Loc X.env.scope x)(r:Zo v u)
  (h:∀s',Inv X pins (σ.set i (some v)) H s'→(∃a,Heap.SameBut a s.heap s'.heap∧(a=X.env.locals∨X.env.cells.lookup x=some a))→Q () s') (hf:X.fn x=true∨X.env.scope.names.lookup x=some .local:=by first|exact .inl rfl|exact .inr rfl|assumption):wpAny M A (storeName X.env x u) Q E s:=by
 obtain⟨m,hn,hl⟩:=id I.loc
 have hcls:(X.env.scope.kind == .class||(X.env.scope.kind == .module&&X.env.locals != X.env.globals))=false:=by rw[I.ok.kind];rfl
 have hiσ:i<σ.length:=by rw[I.len];exact(Qj.mp hi).1
 have cne:=I.cne
 have tracked:∀ {a:Addr} {h':Heap},(∃o,s.heap.get? a=some o∧H a=none)→Heap.SameBut a s.heap h'→HOk X.prog X.w H h':=fun {a h'} ha hs b ob e=>by
  obtain⟨_,_,hfree⟩:=ha
  refine(I.hok b ob e).stay (fun c w' hc q=>(hs.2 c ?_).trans q) (fun _ q=>q) fun _ _ q=>q
  rintro rfl
  rcases hc with rfl|hc
  ·rw[hfree]at e;cases e
  ·rw[hfree]at hc;cases hc
 rcases hx with hk|hk
 ·refine wpAny_storeName_local hk hn (fun h' hn' hs=>?_) hcls
  obtain⟨oL,_,_,hoL,_⟩:=id hn
  refine h _ ⟨I.ok,I.os,I.bare,⟨fun b o e n hb hx=>?_,fun b o e n hb hx=>?_,I.base.free,fun b o e hx=>?_,I.base.tups,I.base.frzs,I.base.tbls⟩,⟨_,hn',fun j y v' e1 e2 e3=>?_⟩,fun y c e=>?_,I.free,I.freeC,fun p hp=>?_,tracked ⟨oL,hoL,I.free⟩ hs,by simpa using I.len⟩ ⟨_,hs,.inl rfl⟩
  ·exact(hs.2 b (Qx (Qo (Qi e) I.ok.above))).trans (I.base.keep b o e n hb hx)
  ·obtain⟨sl,e1⟩:=I.base.slot b o e n hb hx
   exact⟨sl,(hs.2 b (Qx (Qo (Qi e) I.ok.above))).trans e1⟩
  ·obtain⟨o',e1⟩:=I.base.there b o e hx
   exact⟨o',(hs.2 b (Qx (Qo (Qi e) I.ok.above))).trans e1⟩
  ·by_cases hj:j=i
   ·subst hj
    rw[hi]at e1;cases e1
    rw[List.getElem?_set_self hiσ]at e2
    cases e2
    exact⟨u,r,.inl ⟨hk,by simp⟩⟩
   ·rw[List.getElem?_set_ne (Ne.symm hj)]at e2
    obtain⟨u',r',q⟩:=hl j y v' e1 e2 e3
    refine⟨u',r',?_⟩
    rcases q with⟨k,e⟩|⟨k,c,e,z⟩
    ·refine .inl ⟨k,?_⟩
     have:y≠x:=fun e=>hj (Zdl hN e1 (e ▸ hi))
     simp[this,e]
    ·exact .inr ⟨k,c,e,z.sameBut hs (cne y c e)⟩
  ·obtain⟨w',z⟩:=I.cell y c e
   exact⟨w',z.sameBut hs (cne y c e)⟩
  ·obtain⟨e,n,ne,nf,d⟩:=I.pin p hp
   exact⟨(hs.2 p.1 ne).trans e,n,ne,nf,d⟩
 ·have hfn:X.fn x=true:=by
   rcases hf with z|z
   ·exact z
   ·rw[z]at hk;cases hk
  obtain⟨c,hc⟩:=I.ok.has x (.inl hk)
  obtain⟨w',z⟩:=I.cell x c hc
  refine wpAny_storeName_cell I.ok.kind hk hc z (fun h' hc' hs=>?_)
  obtain⟨oc,hoc,hocd⟩:=id z
  refine h { s with heap:=h' } ⟨I.ok,I.os,I.bare,⟨fun b o e n hb hx=>?_,fun b o e n hb hx=>?_,I.base.free,fun b o e hx=>?_,I.base.tups,I.base.frzs,I.base.tbls⟩,⟨m,hn.sameBut hs (Ne.symm (cne x c hc)),fun j y v' e1 e2 e3=>?_⟩,fun y c' e=>?_,I.free,I.freeC,fun p hp=>?_,tracked ⟨oc,hoc,I.freeC x c hc⟩ hs,by simpa using I.len⟩ ⟨c,hs,.inr hc⟩
  ·exact(hs.2 b (Qx (Qo (Qi e) (I.ok.cab x c hfn hc)))).trans (I.base.keep b o e n hb hx)
  ·obtain⟨sl,e1⟩:=I.base.slot b o e n hb hx
   exact⟨sl,(hs.2 b (Qx (Qo (Qi e) (I.ok.cab x c hfn hc)))).trans e1⟩
  ·obtain⟨o',e1⟩:=I.base.there b o e hx
   exact⟨o',(hs.2 b (Qx (Qo (Qi e) (I.ok.cab x c hfn hc)))).trans e1⟩
  ·by_cases hj:j=i
   ·subst hj
    rw[hi]at e1;cases e1
    rw[List.getElem?_set_self hiσ]at e2
    cases e2
    exact⟨u,r,.inr ⟨.inl hk,c,hc,hc'⟩⟩
   ·rw[List.getElem?_set_ne (Ne.symm hj)]at e2
    obtain⟨u',r',q⟩:=hl j y v' e1 e2 e3
    refine⟨u',r',?_⟩
    rcases q with q|⟨k,c',e,z'⟩
    ·exact .inl q
    ·refine .inr ⟨k,c',e,z'.sameBut hs ?_⟩
     rintro rfl
     exact hj (Zdl hN e1 (I.ok.inj _ _ _ e hc ▸ hi))
  ·by_cases hcc:c'=c
   ·subst hcc;exact⟨_,hc'⟩
   ·obtain⟨w2,z2⟩:=I.cell y c' e
    exact⟨w2,z2.sameBut hs hcc⟩
  ·obtain⟨e,n,ne,nf,d⟩:=I.pin p hp
   refine⟨(hs.2 p.1 ?_).trans e,n,ne,nf,d⟩
   intro q
   rw[q,hoc]at e
   have q':oc=p.2:=Qp e
   exact d w' (by rw[← q'];exact hocd)
theorem Zb8{M:Model}{A:Around}{E:Value→Shared→Prop}{i:Nat}{x:Str}{v:V}{u:Value}{Q:Unit→Shared→Prop}(I:Inv X pins σ H s)(hN:X.N.Nodup)(hi:X.N[i]? = some x)(hx:Loc X.env.scope x)(r:Zo v u)
  (h:∀s',Inv X pins (σ.set i (some v)) H s'→Q () s') (hf:X.fn x=true∨X.env.scope.names.lookup x=some .local:=by first|exact .inl rfl|exact .inr rfl|assumption):wpAny M A (storeName X.env x u) Q E s :=
 Zct I hN hi hx r (fun s' I' _=>h s' I') hf
theorem Inv.call'{s':Shared}{ch:List Addr}(I:Inv X pins σ H s)(ho:s'.os=s.os)(u:Un (frs X.stack) ch H H' s.heap s'.heap)(hok:HOk X.prog X.w H' s'.heap)(hg:AllBare s'.gens)
  (hch:∀b∈ch,(b∈X.ex∨X.s₀.heap.objs.size≤b)∧b≠X.env.locals∧(∀x c,X.env.cells.lookup x=some c→c≠b)∧∀p∈X.pn++pins,p.1≠b):Inv X pins σ H' s':=by
 obtain⟨h',g',d',t',o'⟩:=s'
 have e:o'=s.os:=ho
 subst e
 exact I.call (g':=g') (t':=t') (d':=d') u hok hg hch
end
abbrev XK:=Value→Option Addr→Hp→Prop
abbrev St:=List (Option V)
abbrev VK:=V→Hp→Prop
abbrev TE:=St→Hp→VK→Prop
abbrev TT:=St→Hp→(Bool→Hp→Prop)→Prop
abbrev TA:=St→Hp→(List V→Hp→Prop)→Prop
structure Zb3 where
 nx:St→Hp→Prop
 rt:VK
 bk:St→Hp→Prop:=fun _ _=>False
 ct:St→Hp→Prop:=fun _ _=>False
abbrev TS:=Zb3→St→Hp→Prop
def EP(X:Cx)(pins:List (Addr×Obj))(σ:St)(Q:VK)(u:Value)(s':Shared):Prop:=∃v H',Inv X pins σ H' s'∧Zo v u∧Q v H'
def TP(X:Cx)(pins:List (Addr×Obj))(σ:St)(Q:Bool→Hp→Prop)(b:Bool)(s':Shared):Prop:=∃H',Inv X pins σ H' s'∧Q b H'
def AP(X:Cx)(pins:List (Addr×Obj))(σ:St)(Q:List V→Hp→Prop)(us:List Value)(s':Shared):Prop:=∃vs H',Inv X pins σ H' s'∧Zm vs us∧Q vs H'
def SP(X:Cx)(pins:List (Addr×Obj))(D:Zb3)(f:Flow)(s':Shared):Prop :=
 match f with
 | .next=>∃σ' H',Inv X pins σ' H' s'∧D.nx σ' H'
 | .brk=>∃σ' H',Inv X pins σ' H' s'∧D.bk σ' H'
 | .cont=>∃σ' H',Inv X pins σ' H' s'∧D.ct σ' H'
 | .ret u=>∃v σ' H',Inv X pins σ' H' s'∧Zo v u∧D.rt v H'
def PE(X:Cx)(e:Expr)(t:TE):Prop :=
 ∀ (pins:List (Addr×Obj)) (s:Shared) (σ:St) (H:Hp) (Q:VK),Inv X pins σ H s→t σ H Q→wpAny (model X.prog X.w) X.A (eval e X.env) (EP X pins σ Q) X.xe s
def PT(X:Cx)(e:Expr)(t:TT):Prop :=
 ∀ (pins:List (Addr×Obj)) (s:Shared) (σ:St) (H:Hp) (Q:Bool→Hp→Prop),Inv X pins σ H s→t σ H Q→wpAny (model X.prog X.w) X.A (isTrue e X.env (eval e X.env)) (TP X pins σ Q) X.xe s
def PW(X:Cx)(e:Expr)(t:TT):Prop :=
 ∀ (whole:Sem Value) (pins:List (Addr×Obj)) (s:Shared) (σ:St) (H:Hp) (Q:Bool→Hp→Prop),Inv X pins σ H s→t σ H Q→wpAny (model X.prog X.w) X.A (isTrue e X.env whole) (TP X pins σ Q) X.xe s
theorem PW.pt{X:Cx}{e:Expr}{t:TT}(h:PW X e t):PT X e t:=h _
def PA(X:Cx)(es:List Expr)(t:TA):Prop :=
 ∀ (pos:Pos) (pins:List (Addr×Obj)) (s:Shared) (σ:St) (H:Hp) (Q:List V→Hp→Prop),Inv X pins σ H s→t σ H Q→wpAny (model X.prog X.w) X.A (spliced (backTo pos (starEach es X.env))) (AP X pins σ Q) X.xe s
def PS(X:Cx)(st:Stmt)(t:TS):Prop :=
 ∀ (pins:List (Addr×Obj)) (s:Shared) (σ:St) (H:Hp) (D:Zb3),Inv X pins σ H s→t D σ H→wpAny (model X.prog X.w) X.A (exec st X.env) (SP X pins D) X.xe s
def PSs(X:Cx)(st:List Stmt)(t:TS):Prop :=
 ∀ (pins:List (Addr×Obj)) (s:Shared) (σ:St) (H:Hp) (D:Zb3),Inv X pins σ H s→t D σ H→wpAny (model X.prog X.w) X.A (execs st X.env) (SP X pins D) X.xe s
theorem thn{α:Type}{t:Sem α}{Q Q':α→Shared→Prop}{M:Model}{A:Around}{E:Value→Shared→Prop}{s:Shared}(h:wpAny M A t Q E s)(hQ:∀a s,Q a s→Q' a s):wpAny M A t Q' E s:=wpAny_mono h hQ fun _ _ x=>x
section
variable {X:Cx}
def ZgC(i:Nat):TE:=fun σ H Q=>∃v,σ[i]? = some (some v)∧Q v H
def tC(v:V):TE:=fun _ H Q=>Q v H
theorem Zd8{i:Nat}{x:Str}{pos:Pos}(hN:X.N[i]? = some x)(hv:Vis X.env.scope x)(hd:(x == ("__debug__" : Str))=false:=by decide)(hcd:(x == ("__classdict__" : Str))=false:=by decide):PE X (.Name x pos) (ZgC i):=by
 intro pins s σ H Q I h
 obtain⟨v,e,h⟩:=h
 obtain⟨m,hn,hl⟩:=I.loc
 obtain⟨u,r,l⟩:=hl i x v hN e hv
 have fin:EP X pins σ Q u s:=⟨v,H,I,r,h⟩
 rcases l with⟨hk,hm⟩|⟨hk,c,hc,hcell⟩
 ·exact wpAny_Name (wpAny_loadName_local I.ok.kind hk hn hm fin) hd
 ·rcases hk with hk|hk
  ·exact wpAny_Name (wpAny_loadName_cell I.ok.kind hk hc hcell fin) hd
  ·exact wpAny_Name (wpAny_loadName_free I.ok.kind hk hc hcell fin hcd) hd
theorem Zi{i j pos}:PE X (.Constant (.int i) j pos) (tC (.int i)):=fun _ _ _ H _ I h=>wpAny_Constant_int ⟨.int i,H,I.tok _,⟨_,rfl⟩,h⟩
theorem ZdB{b j pos}:PE X (.Constant (.bool b) j pos) (tC (.bl b)):=fun _ _ _ H _ I h=>Constant_bool ⟨.bl b,H,I,rfl,h⟩
theorem ZhK{j pos}:PE X (.Constant .none j pos) (tC .non):=fun _ _ _ H _ I h=>Constant_none ⟨.non,H,I,rfl,h⟩
theorem ZZ{x j pos}:PE X (.Constant (.str x) j pos) (tC (.str x)):=fun _ _ _ H _ I h=>Calls.Constant_str ⟨.str x,H,I.tok _,⟨_,rfl⟩,h⟩
def Gl(X:Cx)(x:Str):Prop:=X.env.kindOf x=some .globalImplicit
theorem Zhf{E:Value→Shared→Prop}{pins:List (Addr×Obj)}{s:Shared}{σ:St}{H:Hp}{x:Str}{u:Value}{pos:Pos}{Q:Value→Shared→Prop}(I:Inv X pins σ H s)(hg:Gl X x)(hm:X.mg x=some u)(h:Q u s)
  (hd:(x == ("__debug__" : Str))=false:=by decide):wpAny (model X.prog X.w) X.A (eval (.Name x pos) X.env) Q E s :=
 Calls.Name_function_global I.ok.kind hg (Calls.loadGlobal_global (by rw[I.ok.glob];exact I.mod.glob.keeps I.bk) hm h) hd
theorem Zbk{E:Value→Shared→Prop}{pins:List (Addr×Obj)}{s:Shared}{σ:St}{H:Hp}{x:Str}{u:Value}{pos:Pos}{Q:Value→Shared→Prop}(I:Inv X pins σ H s)(hg:Gl X x)(hm:X.mg x=none)(hv:bootBuiltins x=some u)(h:Q u s)
  (hn:x ≠ "__name__":=by decide) (hd:(x == ("__debug__" : Str))=false:=by decide):wpAny (model X.prog X.w) X.A (eval (.Name x pos) X.env) Q E s:=by
 obtain⟨mb,h1,h2⟩:=I.mod.blt
 exact Calls.Name_function_global I.ok.kind hg (Calls.loadGlobal_builtin (by rw[I.ok.glob];exact I.mod.glob.keeps I.bk) hm (by rw[I.ok.blt];exact h1.keeps I.bk) ((h2 x hn).trans hv) h) hd
theorem Zhg{x:Str}{v:V}{u:Value}{pos:Pos}(hg:Gl X x)(hm:X.mg x=none)(hv:bootBuiltins x=some u)(r:Zo v u)(hn:x ≠ "__name__":=by decide)(hd:(x == ("__debug__" : Str))=false:=by decide):PE X (.Name x pos) (tC v) :=
 fun _ _ _ H _ I h=>Zbk I hg hm hv ⟨v,H,I,r,h⟩ hn hd
def t2I(ta tb:TE)(k:Int→Int→Hp→Prop):St→Hp→Prop:=fun σ H=>ta σ H fun x H1=>tb σ H1 fun y H2=>∃i j,x=.int i∧y=.int j∧k i j H2
def tAdd(ta tb:TE):TE:=fun σ H Q=>t2I ta tb (fun i j H2=>Q (.int (i+j)) H2) σ H
def tSub(ta tb:TE):TE:=fun σ H Q=>t2I ta tb (fun i j H2=>Q (.int (i-j)) H2) σ H
def tMul(ta tb:TE):TE:=fun σ H Q=>t2I ta tb (fun i j H2=>(-(2 ^ 64)<i∧i<2 ^ 64)∧Q (.int (i*j)) H2) σ H
variable {a b:Expr} {ta tb:TE} {pos:Pos}
def PC(X:Cx)(op:CmpOp)(a b:Expr)(t:TE):Prop :=
 ∀ (pins:List (Addr×Obj)) (s:Shared) (σ:St) (H:Hp) (Q:VK),Inv X pins σ H s→t σ H Q →
  wpAny (model X.prog X.w) X.A (eval a X.env) (fun v s₁=>wpAny (model X.prog X.w) X.A (eval b X.env) (fun u s₂=>wpAny (model X.prog X.w) X.A (compareOp op v u) (EP X pins σ Q) X.xe s₂) X.xe s₁) X.xe s
def ZeV(p:Int→Int→Bool)(ta tb:TE):TE:=fun σ H Q=>t2I ta tb (fun i j H2=>Q (.bl (p i j)) H2) σ H
abbrev tLt:TE→TE→TE:=ZeV fun i j=>decide (i<j)
abbrev tLe:TE→TE→TE:=ZeV fun i j=>decide (i≤j)
abbrev tGt:TE→TE→TE:=ZeV fun i j=>decide (j<i)
abbrev tGe:TE→TE→TE:=ZeV fun i j=>decide (j≤i)
abbrev tEqI:TE→TE→TE:=ZeV fun i j=>decide (i=j)
abbrev tNeI:TE→TE→TE:=ZeV fun i j=>!decide (i=j)
def tIsN(ta:TE):TE:=fun σ H Q=>ta σ H fun x H1=>Q (.bl (decide (x=.non))) H1
def tNotN(ta:TE):TE:=fun σ H Q=>ta σ H fun x H1=>Q (.bl (!decide (x=.non))) H1
def tB(t:TE):TT:=fun σ H Q=>t σ H fun x H1=>∃c,x=.bl c∧Q c H1
theorem ZcO{e:Expr}{t:TE}(h:PE X e t)(he:∀whole,isTrue e X.env whole=(do let v ← whole;standAt e.pos;holding [v] (truthy v)):=by intro _;rfl):PT X e (tB t):=by
 intro pins s σ H Q I hw
 refine isTrue_plain (thn (h pins s σ H _ I hw) ?_) (he _)
 rintro v s1 ⟨x,H1,I1,r1,q1⟩
 obtain⟨d,rfl,q⟩:=q1
 cases r1
 exact wpAny_truthy_bool ⟨H1,I1,q⟩
variable {tA tB':TT} {rest:List Expr}
def ZjP(t u:TT):TT:=fun σ H Q=>t σ H fun c H1=>if c=true then u σ H1 Q else Q false H1
def tOr(t u:TT):TT:=fun σ H Q=>t σ H fun c H1=>if c=true then Q true H1 else u σ H1 Q
def Zjy(t:TT):TT:=fun σ H Q=>t σ H fun c H1=>Q (!c) H1
theorem ZbW(ha:PT X a tA):PW X (.BoolOp .And [a] pos) tA:=by
 intro wh pins s σ H Q I h
 refine isTrue_and (thn (ha pins s σ H Q I h) fun c s1 e=>?_)
 cases c with
 | true=>exact isTrue_and_nil e
 | false=>exact e
theorem ZcW(ha:PT X a tA):PW X (.BoolOp .Or [a] pos) tA:=by
 intro wh pins s σ H Q I h
 refine isTrue_or (thn (ha pins s σ H Q I h) fun c s1 e=>?_)
 cases c with
 | false=>exact isTrue_or_nil e
 | true=>exact e
theorem ZbY(ha:PT X a tA)(hb:PW X (.BoolOp .And (b::rest) pos) tB'):PW X (.BoolOp .And (a::b::rest) pos) (ZjP tA tB'):=by
 intro wh pins s σ H Q I h
 refine isTrue_and (thn (ha pins s σ H _ I h) ?_)
 rintro c s1 ⟨H1,I1,q1⟩
 cases c with
 | true=>exact hb wh pins s1 σ H1 Q I1 q1
 | false=>exact⟨H1,I1,q1⟩
theorem Zem(ha:PT X a tA)(hb:PW X (.BoolOp .Or (b::rest) pos) tB'):PW X (.BoolOp .Or (a::b::rest) pos) (tOr tA tB'):=by
 intro wh pins s σ H Q I h
 refine isTrue_or (thn (ha pins s σ H _ I h) ?_)
 rintro c s1 ⟨H1,I1,q1⟩
 cases c with
 | true=>exact⟨H1,I1,q1⟩
 | false=>exact hb wh pins s1 σ H1 Q I1 q1
theorem ZhI(ha:PT X a tA):PT X (.UnaryOp .Not a pos) (Zjy tA):=by
 intro pins s σ H Q I h
 exact isTrue_not (ha pins s σ H (fun c H1=>Q (!c) H1) I h)
def ZiR(ta tb:TE):TE:=fun σ H Q=>ta σ H fun x H1=>∃c,x=.bl c∧if c=true then tb σ H1 Q else Q (.bl false) H1
def tOrV(ta tb:TE):TE:=fun σ H Q=>ta σ H fun x H1=>∃c,x=.bl c∧if c=true then Q (.bl true) H1 else tb σ H1 Q
def Zi7(ta:TE):TE:=fun σ H Q=>ta σ H fun x H1=>∃c,x=.bl c∧Q (.bl (!c)) H1
theorem Zdi{op}{t:TE}(h:PE X a t):PE X (.BoolOp op [a] pos) t:=fun pins s σ H Q I hw=>BoolOp_one (h pins s σ H Q I hw)
theorem Zce(ha:PE X a ta)(hb:PE X (.BoolOp .And (b::rest) pos) tb):PE X (.BoolOp .And (a::b::rest) pos) (ZiR ta tb):=by
 intro pins s σ H Q I h
 refine BoolOp_and (thn (ha pins s σ H _ I h) ?_)
 rintro v s1 ⟨x,H1,I1,r1,q1⟩
 obtain⟨c,rfl,q1⟩:=q1
 cases r1
 refine wpAny_truthy_bool ?_
 cases c with
 | true=>exact hb pins s1 σ H1 Q I1 q1
 | false=>exact⟨.bl false,H1,I1,rfl,q1⟩
theorem ZhH(ha:PE X a ta):PE X (.UnaryOp .Not a pos) (Zi7 ta):=by
 intro pins s σ H Q I h
 refine UnaryOp_ (thn (ha pins s σ H _ I h) ?_)
 rintro v s1 ⟨x,H1,I1,r1,q1⟩
 obtain⟨c,rfl,q1⟩:=q1
 cases r1
 exact not_of (wpAny_truthy_bool ⟨.bl (!c),H1,I1,rfl,q1⟩)
def tIf(t:TT)(ta tb:TE):TE:=fun σ H Q=>t σ H fun c H1=>if c=true then ta σ H1 Q else tb σ H1 Q
theorem ZdW{c:Expr}(hc:PT X c tA)(ha:PE X a ta)(hb:PE X b tb):PE X (.IfExp c a b pos) (tIf tA ta tb):=by
 intro pins s σ H Q I h
 refine wpAny_IfExp (thn (hc pins s σ H _ I h) ?_)
 rintro d s1 ⟨H1,I1,q1⟩
 cases d with
 | true=>exact ha pins s1 σ H1 Q I1 q1
 | false=>exact hb pins s1 σ H1 Q I1 q1
end
def SqL(K:PySem.W.Frag)(H:Hp)(a:Addr)(xs:List V):Prop :=
 Rd H a (.lst xs) ∨
  ∃ (o:Obj) (its:Array Value) (n:Nat),K.lookup a=some o∧o.cls=.type "list"∧o.dict=none∧o.data=.seq its n∧its.size≤sizeLine∧Zm xs its.toList
def SqT(K:PySem.W.Frag)(H:Hp)(a:Addr)(xs:List V):Prop :=
 Rd H a (.tup xs) ∨
  ∃ (o:Obj) (its:Array Value) (n:Nat),K.lookup a=some o∧o.cls=.type "tuple"∧o.data=.seq its n∧its.size≤sizeLine∧Zm xs its.toList
def Zj7:Value→Option V
 | .none=>some .non
 | .bool b=>some (.bl b)
 | .int i _=>some (.int i)
 | .str x _=>some (.str x)
 | .bytes b _=>some (.byt b)
 | .float b _=>some (.flt b)
 | .ref a=>some (.ref a)
 | .type n=>some (.ty n)
 | _=>none
theorem Zo.abs{x:V}{u:Value}(r:Zo x u):Zj7 u=some x:=by
 cases x with
 | non=>cases r;rfl
 | bl _=>cases r;rfl
 | int _=>obtain⟨t,rfl⟩:=r;rfl
 | str _=>obtain⟨t,rfl⟩:=r;rfl
 | byt _=>obtain⟨t,rfl⟩:=r;rfl
 | flt _=>obtain⟨t,rfl⟩:=r;rfl
 | ref _=>cases r;rfl
 | ty _=>cases r;rfl
theorem Zo.inj{x y:V}{u:Value}(r:Zo x u)(q:Zo y u):x=y:=Qp (r.abs.symm.trans q.abs)
theorem Zm.inj:∀ {xs ys:List V} {us:List Value},Zm xs us→Zm ys us→xs=ys
 | _,_,_,.nil,.nil=>rfl
 | _,_,_,.cons r t,.cons r' t'=>by rw[r.inj r',Zm.inj t t']
section
variable {X:Cx} {pins:List (Addr×Obj)} {σ:St} {H:Hp} {s:Shared} {a:Addr} {xs ys:List V}
theorem SqL.of{K:PySem.W.Frag}(h:H a=some (.lst xs)):SqL K H a xs:=.inl (.inl h)
theorem SqT.of{K:PySem.W.Frag}(h:H a=some (.tup xs)):SqT K H a xs:=.inl (.inl h)
theorem Inv.list(I:Inv X pins σ H s)(h:SqL X.K H a xs):∃its:List Value,Zm xs its∧PlainL s.heap a its.toArray∧xs.length≤sizeLine:=by
 rcases h with h|⟨o,its,n,hk,hc,hd,hs,hz,r⟩
 ·obtain⟨z,its,n,r,e⟩:=h.ok I.hok
  exact⟨its,r,⟨_,n,e,rfl,rfl,rfl⟩,z⟩
 ·refine⟨its.toList,r,⟨o,n,I.kIn a o hk,hc,hd,by simpa using hs⟩,?_⟩
  have e:=r.length
  simp only[Array.length_toList]at e
  omega
theorem Inv.tuple(I:Inv X pins σ H s)(h:SqT X.K H a xs):∃its:List Value,Zm xs its∧IsTup s.heap a its.toArray∧xs.length≤sizeLine:=by
 rcases h with h|⟨o,its,n,hk,hc,hs,hz,r⟩
 ·obtain⟨z,its,r,p⟩:=h.ok I.hok
  exact⟨its,r,p,z⟩
 ·refine⟨its.toList,r,⟨o,I.kIn a o hk,hc,n,by simpa using hs⟩,?_⟩
  have e:=r.length
  simp only[Array.length_toList]at e
  omega
theorem Inv.list_inj(I:Inv X pins σ H s)(h:SqL X.K H a xs)(h':SqL X.K H a ys):xs=ys:=by
 obtain⟨its,r,⟨o,n,e,_,_,d⟩,_⟩:=I.list h
 obtain⟨its',r',⟨o',n',e',_,_,d'⟩,_⟩:=I.list h'
 rw[e]at e';cases e'
 rw[d]at d'
 injection d' with d1 _
 have:its=its':=by simpa using congrArg Array.toList d1
 subst this
 exact r.inj r'
theorem Inv.tuple_inj(I:Inv X pins σ H s)(h:SqT X.K H a xs)(h':SqT X.K H a ys):xs=ys:=by
 obtain⟨its,r,⟨o,e,_,n,d⟩,_⟩:=I.tuple h
 obtain⟨its',r',⟨o',e',_,n',d'⟩,_⟩:=I.tuple h'
 rw[e]at e';cases e'
 rw[d]at d'
 injection d' with d1 _
 have:its=its':=by simpa using congrArg Array.toList d1
 subst this
 exact r.inj r'
end
abbrev Cx.wish(X:Cx)(E:Value→Shared→Prop):Cx:={ X with xe:=E }
abbrev Cx.nox(X:Cx):Cx:=X.wish fun _ _=>False
theorem Cx.Ok.wish{X:Cx}(ok:X.Ok)(E:Value→Shared→Prop):(X.wish E).Ok :=
 ⟨ok.mod,ok.kind,ok.glob,ok.blt,ok.above,ok.inj,ok.has,ok.cab,ok.hd,ok.frames,ok.stk,ok.exf,ok.bs,ok.bsz,ok.noex,ok.exfs,ok.funs,ok.frf⟩
theorem Cx.Ok.unwish{X:Cx}{E:Value→Shared→Prop}(ok:(X.wish E).Ok):X.Ok :=
 ⟨ok.mod,ok.kind,ok.glob,ok.blt,ok.above,ok.inj,ok.has,ok.cab,ok.hd,ok.frames,ok.stk,ok.exf,ok.bs,ok.bsz,ok.noex,ok.exfs,ok.funs,ok.frf⟩
section
variable {X:Cx} {pins:List (Addr×Obj)} {σ:St} {H:Hp} {s:Shared} {E:Value→Shared→Prop}
theorem Inv.wish(I:Inv X pins σ H s)(E:Value→Shared→Prop):Inv (X.wish E) pins σ H s:=⟨I.ok.wish E,I.os,I.bare,I.base,I.loc,I.cell,I.free,I.freeC,I.pin,I.hok,I.len⟩
theorem Inv.unwish(I:Inv (X.wish E) pins σ H s):Inv X pins σ H s:=⟨I.ok.unwish,I.os,I.bare,I.base,I.loc,I.cell,I.free,I.freeC,I.pin,I.hok,I.len⟩
theorem SP.unwish{D:Zb3}{f:Flow}{s':Shared}(h:SP (X.wish E) pins D f s'):SP X pins D f s':=by
 cases f with
 | next=>obtain⟨σ',H',I,q⟩:=h;exact⟨σ',H',I.unwish,q⟩
 | brk=>obtain⟨σ',H',I,q⟩:=h;exact⟨σ',H',I.unwish,q⟩
 | cont=>obtain⟨σ',H',I,q⟩:=h;exact⟨σ',H',I.unwish,q⟩
 | ret u=>obtain⟨v,σ',H',I,r,q⟩:=h;exact⟨v,σ',H',I.unwish,r,q⟩
theorem PSs.nox{st:List Stmt}{t:TS}(h:PSs X.nox st t):PSs X st t:=fun pins s σ H D I hw =>
 wpAny_mono (h pins s σ H D (I.wish _) hw) (fun _ _ q=>q.unwish) fun _ _ z=>False.elim z
end
section
variable {X:Cx} {st:Stmt} {rest:List Stmt} {t u:TS} {e:Expr} {te:TE} {pos:Pos}
def Zjl:TS:=fun D σ H=>D.nx σ H
def ZjJ(t u:TS):TS:=fun D σ H=>t { D with nx:=u D } σ H
theorem ZO:PSs X [] Zjl:=fun _ _ σ H _ I h=>wpAny_execs_nil ⟨σ,H,I,h⟩
theorem Zg(h1:PS X st t)(h2:PSs X rest u):PSs X (st::rest) (ZjJ t u):=by
 intro pins s σ H D I h
 refine wpAny_execs_cons (thn (h1 pins s σ H { D with nx:=u D } I h) fun f s1 q=>?_)
 cases f with
 | next =>
  obtain⟨σ',H',I',q⟩:=q
  exact h2 pins s1 σ' H' D I' q
 | ret v=>exact q
 | brk=>exact q
 | cont=>exact q
theorem Zk(h1:PS X st t):PSs X [st] t:=by
 intro pins s σ H D I h
 refine wpAny_execs_cons (thn (h1 pins s σ H D I h) fun f s1 q=>?_)
 cases f with
 | next=>exact wpAny_execs_nil q
 | ret v=>exact q
 | brk=>exact q
 | cont=>exact q
def tBreak:TS:=fun D σ H=>D.bk σ H
def tCont:TS:=fun D σ H=>D.ct σ H
theorem Inv.quiet{pins:List (Addr×Obj)}{σ:St}{H:Hp}{s:Shared}(I:Inv X pins σ H s):interactive X.env=false:=by simp[interactive,I.ok.kind]
def Zje(te:TE):TS:=fun D σ H=>te σ H fun _ H1=>D.nx σ H1
theorem Zau(he:PE X e te)(hs:swapsWith e none pos.line X.env=pure false:=by rfl):PS X (.Expr e pos) (Zje te):=by
 intro pins s σ H D I h
 exact wpAny_Expr_any (thn (he pins s σ H _ I h) fun v s1 ⟨x,H1,I1,r1,q1⟩=>⟨σ,H1,I1,q1⟩) I.quiet hs
def Zj8(te:TE):TS:=fun D σ H=>te σ H D.rt
theorem Zy(he:PE X e te):PS X (.Return (some e) pos) (Zj8 te):=by
 intro pins s σ H D I h
 exact wpAny_Return_some (thn (he pins s σ H _ I h) fun v s1 ⟨x,H1,I1,r1,q1⟩=>⟨x,σ,H1,I1,r1,q1⟩)
def tRetN:TS:=fun D _ H=>D.rt .non H
def ZjK(c:TT)(t u:TS):TS:=fun D σ H=>c σ H fun b H1=>if b=true then t D σ H1 else u D σ H1
theorem Zan{c:Expr}{a b:List Stmt}{tc:TT}(hc:PT X c tc)(ha:PSs X a t)(hb:PSs X b u):PS X (.If c a b pos) (ZjK tc t u):=by
 intro pins s σ H D I h
 refine wpAny_If (thn (hc pins s σ H _ I h) ?_)
 rintro d s1 ⟨H1,I1,q1⟩
 cases d with
 | true=>exact ha pins s1 σ H1 D I1 q1
 | false=>exact hb pins s1 σ H1 D I1 q1
def tNever:TS:=fun _ _ _=>False
end
abbrev TG:=V→St→Hp→(St→Hp→Prop)→Prop
abbrev TGs:=List V→St→Hp→(St→Hp→Prop)→Prop
def PG(X:Cx)(target:Expr)(t:TG):Prop :=
 ∀ (pins:List (Addr×Obj)) (s:Shared) (σ:St) (H:Hp) (v:V) (u:Value) (Q:St→Hp→Prop),Inv X pins σ H s→Zo v u→t v σ H Q →
  wpAny (model X.prog X.w) X.A (assign target X.env u) (fun _ s'=>∃σ' H',Inv X pins σ' H' s'∧Q σ' H') X.xe s
def PGs(X:Cx)(ts:List Expr)(t:TGs):Prop :=
 ∀ (pins:List (Addr×Obj)) (s:Shared) (σ:St) (H:Hp) (vs:List V) (us:List Value) (Q:St→Hp→Prop),Inv X pins σ H s→Zm vs us→t vs σ H Q →
  wpAny (model X.prog X.w) X.A (assignInOrder ((assignEach ts X.env).map (·.2)) us) (fun _ s'=>∃σ' H',Inv X pins σ' H' s'∧Q σ' H') X.xe s
abbrev ZeS:=V→V→V→Hp→(Hp→Prop)→Prop
def Zjc(X:Cx)(t:ZeS):Prop :=
 ∀ (pins:List (Addr×Obj)) (s:Shared) (σ:St) (H:Hp) (o i v:V) (ov iv u:Value) (Q:Hp→Prop),Inv X pins σ H s→Zo o ov→Zo i iv→Zo v u→t o i v H Q →
  wpAny (model X.prog X.w) X.A (setItem ov iv u) (fun _ s'=>∃H',Inv X pins σ H' s'∧Q H') X.xe s
abbrev TIp:=V→V→Hp→VK→Prop
def PIp(X:Cx)(op:Operator)(t:TIp):Prop :=
 ∀ (pins:List (Addr×Obj)) (s:Shared) (σ:St) (H:Hp) (x y:V) (v u:Value) (Q:VK),Inv X pins σ H s→Zo x v→Zo y u→t x y H Q →
  wpAny (model X.prog X.w) X.A (inplaceOp op v u) (EP X pins σ Q) X.xe s
section
variable {X:Cx} {pos:Pos}
def Zez(i:Nat):TG:=fun v σ H Q=>Q (σ.set i (some v)) H
theorem Z2{i:Nat}{x:Str}(hN:X.N.Nodup)(hi:X.N[i]? = some x)(hx:Loc X.env.scope x)(hf:X.fn x=true∨X.env.scope.names.lookup x=some .local:=by first|exact .inl rfl|exact .inr rfl|assumption):PG X (.Name x pos) (Zez i):=by
 intro pins s σ H v u Q I r h
 exact wpAny_assign_Name (Zb8 I hN hi hx r (fun s' I'=>⟨_,H,I',h⟩) hf)
def Zjw:TGs:=fun vs σ H Q=>vs=[]∧Q σ H
def ZiJ(t:TG)(u:TGs):TGs:=fun vs σ H Q=>∃v r,vs=v::r∧t v σ H fun σ' H'=>u r σ' H' Q
theorem Zba:PGs X [] Zjw:=by
 intro pins s σ H vs us Q I r h
 obtain⟨e,h⟩:=h
 subst e
 cases r
 exact assignInOrder_nil ⟨σ,H,I,h⟩
theorem ZI{e:Expr}{es:List Expr}{t:TG}{u:TGs}(h1:PG X e t)(h2:PGs X es u)
  (hs:(assignEach (e::es) X.env).map (·.2)=assign e X.env::(assignEach es X.env).map (·.2):=by rfl):PGs X (e::es) (ZiJ t u):=by
 intro pins s σ H vs us Q I r h
 obtain⟨v,vr,e1,h⟩:=h
 subst e1
 cases r with
 | cons r rr =>
  rw[hs]
  refine assignInOrder_cons (thn (h1 pins s σ H _ _ _ I r h) ?_)
  rintro _ s1 ⟨σ1,H1,I1,q1⟩
  exact h2 pins s1 σ1 H1 _ _ Q I1 rr q1
def ZiK(K:PySem.W.Frag)(n:Nat)(t:TGs):TG:=fun v σ H Q=>∃a xs,v=.ref a∧SqT K H a xs∧xs.length=n∧t xs σ H Q
theorem ZhF{es:List Expr}{k:Nat}{t:TGs}{n:Nat}(hc:X.calm=true)(h:PGs X es t)
  (hn:(assignEach es X.env).length=n:=by rfl) (hst:(assignEach es X.env).findIdx? (·.1)=none:=by rfl):PG X (.Tuple es k pos) (ZiK X.K n t):=by
 intro pins s σ H v u Q I r hw
 obtain⟨a,xs,e1,hq,hl,hw⟩:=hw
 subst e1
 cases r
 obtain⟨its,rv,ht,hz⟩:=I.tuple hq
 refine assign_Tuple_tuple (I.ok.hd hc) ht (by simp[hn,← hl,rv.length]) hst fun h' hx=>?_
 have I1:Inv X pins σ H { s with heap:=h' }:=I.kept (t':=s.toks) fun b o e=>hx b o (Qx (Qi e)) e
 exact h pins _ σ H xs _ Q I1 (by simpa using rv) hw
def ZjD(to ti:TE)(t:ZeS):TG:=fun v σ H Q=>to σ H fun o H1=>ti σ H1 fun i H2=>t o i v H2 fun H3=>Q σ H3
theorem Zgc{o i:Expr}{to ti:TE}{t:ZeS}(ho:PE X o to)(hi:PE X i ti)(hs:Zjc X t)
  (ha:∀v,assign (.Subscript o i pos) X.env v=(do
   let ov ← holding [v] (eval o X.env)
   let iv ← holding [v,ov] (eval i X.env)
   standAt pos
   holding [v,ov,iv] (setItem ov iv v)
   release [v,ov,iv] []):=by intro _;rfl):PG X (.Subscript o i pos) (ZjD to ti t):=by
 intro pins s σ H v u Q I r h
 rw[ha]
 refine wpAny_bind (wpAny_holding (thn (ho pins s σ H _ I h) ?_))
 rintro ov s1 ⟨x,H1,I1,r1,q1⟩
 refine wpAny_bind (wpAny_holding (thn (hi pins s1 σ H1 _ I1 q1) ?_))
 rintro iv s2 ⟨y,H2,I2,r2,q2⟩
 refine wpAny_bind (wpAny_standAt (wpAny_bind (wpAny_holding (thn (hs pins s2 σ H2 x y v ov iv u _ I2 r1 r2 r q2) ?_))))
 rintro _ s3 ⟨H3,I3,q3⟩
 exact wpAny_release ⟨σ,H3,I3,q3⟩
def Zit(te:TE)(g:TG):TS:=fun D σ H=>te σ H fun x H1=>g x σ H1 D.nx
theorem Zeb{tg e:Expr}{te:TE}{g:TG}(he:PE X e te)(hg:PG X tg g)(hs:swapsWithSole [tg] e pos.line X.env=pure false:=by rfl)(hw:swappedStores [tg] e X.env=pure none:=by rfl)
  (h1:(assignEach [tg] X.env).map (·.2)=[assign tg X.env]:=by rfl):PS X (.Assign [tg] e pos) (Zit te g):=by
 intro pins s σ H D I h
 refine wpAny_Assign_stores (thn (he pins s σ H _ I h) ?_) hs hw
 rintro v s1 ⟨x,H1,I1,r1,q1⟩
 rw[h1]
 exact thn (hg pins s1 σ H1 x v _ I1 r1 q1) fun _ s2 q=>q
theorem ZA{i:Nat}{x:Str}{e:Expr}{te:TE}{pos':Pos}(hN:X.N.Nodup)(hi:X.N[i]? = some x)(hx:Loc X.env.scope x)(he:PE X e te)(hs:swapsWith e (some (.Name x pos')) pos.line X.env=pure false:=by rfl)(hf:X.fn x=true∨X.env.scope.names.lookup x=some .local:=by first|exact .inl rfl|exact .inr rfl|assumption) :
  PS X (.Assign [.Name x pos'] e pos) (Zit te (Zez i)):=by
 intro pins s σ H D I h
 refine wpAny_Assign_Name (thn (he pins s σ H _ I h) ?_) hs
 rintro v s1 ⟨y,H1,I1,r1,q1⟩
 exact Zb8 I1 hN hi hx r1 (fun s2 I2=>⟨_,H1,I2,q1⟩) hf
def tPar(i j:Nat)(ta:TA):TS:=fun D σ H=>ta σ H fun vs H1=>∃v w,vs=[v,w]∧D.nx ((σ.set i (some v)).set j (some w)) H1
def Zjz(i:Nat)(te:TE)(ti:TIp):TS:=fun D σ H=>∃x,σ[i]? = some (some x)∧te σ H fun y H1=>ti x y H1 fun z H2=>D.nx (σ.set i (some z)) H2
theorem Zeg{i:Nat}{x:Str}{e:Expr}{te:TE}{op:Operator}{ti:TIp}{pos':Pos}(hN:X.N.Nodup)(hi:X.N[i]? = some x)(hx:Loc X.env.scope x)(he:PE X e te)(ho:PIp X op ti)(hf:X.fn x=true∨X.env.scope.names.lookup x=some .local:=by first|exact .inl rfl|exact .inr rfl|assumption) :
  PS X (.AugAssign (.Name x pos') op e pos) (Zjz i te ti):=by
 intro pins s σ H D I h
 obtain⟨v,e1,h⟩:=h
 obtain⟨m,hn,hl⟩:=I.loc
 have vis:Vis X.env.scope x:=by rcases hx with k|k;exact .inl k;exact .inr (.inl k)
 obtain⟨u,r,l⟩:=hl i x v hi e1 vis
 refine wpAny_AugAssign_Name ?_
 have go:wpAny (model X.prog X.w) X.A (eval e X.env) (fun w s₂=>wpAny (model X.prog X.w) X.A (inplaceOp op u w) (fun r s₃=>wpAny (model X.prog X.w) X.A (storeName X.env x r) (fun _=>SP X pins D .next) X.xe s₃) X.xe s₂) X.xe s:=by
  refine thn (he pins s σ H _ I h) ?_
  rintro w s1 ⟨y,H1,I1,r1,q1⟩
  refine thn (ho pins s1 σ H1 v y u w _ I1 r r1 q1) ?_
  rintro z s2 ⟨zv,H2,I2,r2,q2⟩
  exact Zb8 I2 hN hi hx r2 (fun s3 I3=>⟨_,H2,I3,q2⟩) hf
 rcases l with⟨hk,hm⟩|⟨hk,c,hc,hcell⟩
 ·exact wpAny_loadName_local I.ok.kind hk hn hm go
 ·rcases hk with hk|hk
  ·exact wpAny_loadName_cell I.ok.kind hk hc hcell go
  ·rcases hx with k|k
   ·have:X.env.scope.names.lookup x=some .free:=hk
    rw[k]at this;cases this
   ·have:X.env.scope.names.lookup x=some .free:=hk
    rw[k]at this;cases this
def tAugS(to ti te:TE)(tget:V→V→Hp→VK→Prop)(tip:TIp)(tset:ZeS):TS:=fun D σ H=>to σ H fun o H1=>ti σ H1 fun i H2=>tget o i H2 fun x H3=>te σ H3 fun y H4=>tip x y H4 fun z H5=>tset o i z H5 fun H6=>D.nx σ H6
def PGet(X:Cx)(t:V→V→Hp→VK→Prop):Prop :=
 ∀ (pins:List (Addr×Obj)) (s:Shared) (σ:St) (H:Hp) (o i:V) (ov iv:Value) (Q:VK),Inv X pins σ H s→Zo o ov→Zo i iv→t o i H Q →
  wpAny (model X.prog X.w) X.A (getItem ov iv) (EP X pins σ Q) X.xe s
def ipI(f:Int→Int→Int):TIp:=fun x y H Q=>∃i j,x=.int i∧y=.int j∧Q (.int (f i j)) H
theorem Zek:PIp X .Add (ipI fun i j=>i+j):=by
 intro pins s σ H x y v u Q I r1 r2 h
 obtain⟨i,j,e1,e2,q⟩:=h
 subst e1;subst e2
 obtain⟨t,rfl⟩:=r1
 obtain⟨t',rfl⟩:=r2
 exact iadd_int ⟨.int _,H,I.tok _,⟨_,rfl⟩,q⟩
end
section
variable {X:Cx} {pos:Pos}
def Zil(c:TT)(tb:TS):TS:=fun D σ H=>∃W:Nat→St→Hp→Prop,(∃m,W m σ H)∧∀m σ H,W m σ H →
 c σ H fun b H1=>if b=true then ∃N:St→Hp→Prop,(∀σ' H',N σ' H'→∃m',m'<m∧W m' σ' H')∧tb { D with nx:=N,ct:=N,bk:=D.nx } σ H1 else D.nx σ H1
theorem Zdo{c:Expr}{body:List Stmt}{tc:TT}{tb:TS}(hp:PassesOwn (model X.prog X.w) X.A X.env X.xe)(hc:PT X c tc)(hb:PSs X body tb):PS X (.While c body [] pos) (Zil tc tb):=by
 intro pins s σ H D I h
 obtain⟨W,⟨m0,w0⟩,turn⟩:=h
 refine wpAny_While (codeAny_whileLoop (fun n s'=>∃σ' H',Inv X pins σ' H' s'∧W n σ' H') ?_ m0 ⟨σ,H,I,w0⟩)
 rintro n s1 ⟨σ1,H1,I1,w1⟩
 refine wpAny_passesOwn hp (thn (hc pins s1 σ1 H1 _ I1 (turn n σ1 H1 w1)) ?_)
 rintro b s2 ⟨H2,I2,q2⟩
 cases b with
 | true =>
  obtain⟨N,hN,q2⟩:=q2
  rw[if_pos rfl]
  refine wpAny_passesOwn hp (thn (hb pins s2 σ1 H2 _ I2 q2) fun f s3 q3=>?_)
  cases f with
  | next =>
   obtain⟨σ3,H3,I3,n3⟩:=q3
   obtain⟨m',hm,w3⟩:=hN σ3 H3 n3
   exact⟨m',hm,σ3,H3,I3,w3⟩
  | cont =>
   obtain⟨σ3,H3,I3,n3⟩:=q3
   obtain⟨m',hm,w3⟩:=hN σ3 H3 n3
   exact⟨m',hm,σ3,H3,I3,w3⟩
  | brk=>exact q3
  | ret v=>exact q3
 | false =>
  rw[if_neg Qm]
  exact wpAny_execs_nil ⟨σ1,H2,I2,q2⟩
end
structure It where
 go:Nat→Hp→Prop
 yld:Nat→Hp→V→Hp→Prop
 stop:Nat→Hp→Prop
def ZbS(X:Cx)(pins:List (Addr×Obj))(H:Hp)(b:Addr):Prop :=
 H b=none∧b≠X.env.locals∧b ∉ X.fs∧(b∈X.ex∨X.s₀.heap.objs.size≤b)∧(∀x c,X.env.cells.lookup x=some c→c≠b)∧∀p∈X.pn++pins,p.1≠b
theorem Inv.fpOk{X:Cx}{pins:List (Addr×Obj)}{σ:St}{H H':Hp}{s:Shared}{b:Addr}(I:Inv X pins σ H s)(hb:s.heap.objs.size≤b)(hn:H' b=none):ZbS X pins H' b:=by
 refine⟨hn,QU (Qo I.lt hb),I.nofs hb,.inr (QM I.sz hb),fun x c e z=>?_,fun p hp z=>?_⟩
 ·obtain⟨v,q⟩:=I.cell x c e
  exact absurd (Qo q.lt (by rw[z];exact hb)) (Q4 _)
 ·exact absurd (Qo (Qi (I.pin p hp).1) (by rw[z];exact hb)) (Q4 _)
structure Zga (P:Program) (w:World) (K:PySem.W.Frag) (tg:Expr) (J:It) (fp:List Addr) (it:Addr) (tn:Nat→Heap→Prop):Prop where
 mem:it∈fp
 obj:∀i h,tn i h→∀b∈fp,∃o,h.get? b=some o∧∀v,o.data≠.cell v
 keep:∀i h h',tn i h→(∀b∈fp,∀o,h.get? b=some o→h'.get? b=some o)→tn i h'
 item:∀ (X:Cx),X.prog=P→X.w=w→X.K=K→X.calm=true→∀ (i:Nat) (pins:List (Addr×Obj)) (s:Shared) (σ:St) (H:Hp) (E:Value→Shared→Prop),Inv X pins σ H s→(∀b∈fp,ZbS X pins H b)→tn i s.heap→J.go i H →
  wpAny (model P w) X.A (pyNext (.ref it)) (fun r s1=>∃u,r=some u ∧
   wpAny (model P w) X.A (letOwnedTupleGo tg (.ref it) u) (fun _ s2=>∃x H',Inv X pins σ H' s2∧Zo x u∧J.yld i H x H'∧tn (i+1) s2.heap∧∀b∈fp,H' b=none) E s1) E s
 done:∀ (X:Cx),X.prog=P→X.w=w→X.K=K→X.calm=true→∀ (i:Nat) (pins:List (Addr×Obj)) (s:Shared) (σ:St) (H:Hp) (E:Value→Shared→Prop),Inv X pins σ H s→(∀b∈fp,ZbS X pins H b)→tn i s.heap→J.stop i H →
  wpAny (model P w) X.A (pyNext (.ref it)) (fun r s1=>r=none∧Inv X pins σ H s1) E s
 self:∀ (A:Around) (i:Nat) (s:Shared) (Q:Value→Shared→Prop) (E:Value→Shared→Prop),tn i s.heap→Q (.ref it) s→wpAny (model P w) A (pyIter (.ref it)) Q E s
abbrev TI:=St→Hp→(It→Hp→Prop)→Prop
def PIE(X:Cx)(pins:List (Addr×Obj))(σ:St)(tg:Expr)(R:It→Hp→Prop)(itv:Value)(s2:Shared):Prop :=
 ∃ (it:Addr) (fp:List Addr) (tn:Nat→Heap→Prop) (J:It) (H':Hp),itv=.ref it∧Inv X pins σ H' s2∧Zga X.prog X.w X.K tg J fp it tn∧tn 0 s2.heap∧(∀b∈fp,ZbS X pins H' b)∧R J H'
def PI(X:Cx)(tg iter:Expr)(wi:TI):Prop :=
 ∀ (pins:List (Addr×Obj)) (s:Shared) (σ:St) (H:Hp) (R:It→Hp→Prop),Inv X pins σ H s→wi σ H R →
  wpAny (model X.prog X.w) X.A (eval iter X.env) (fun v s1=>wpAny (model X.prog X.w) X.A (pyIter v) (PIE X pins σ tg R) X.xe s1) X.xe s
theorem Zhp{M:Model}{A:Around}{E:Value→Shared→Prop}{s:Shared}{tg:Expr}{it:Addr}{u:Value}{o:Obj}{n:String}{vs:Array Value}{Q:Unit→Shared→Prop}(ho:s.heap.get? it=some o)(hc:o.cls=.type n)(hd:o.data=.fields vs)
  (hn:["enumerate", "zip", "dict_itemiterator", "dict_reverseitemiterator", "odict_iterator", "itertools.zip_longest", "itertools.pairwise"].contains n=false) (hQ:Q () s):wpAny M A (letOwnedTupleGo tg (.ref it) u) Q E s:=by
 unfold letOwnedTupleGo
 cases tg<;>first
  | exact wpAny_pure hQ
  | (cases u<;>first
    | exact wpAny_pure hQ
    | (refine wpAny_bind (wpAny_load ho ?_);rw[hc,hd];show wpAny M A (if (["enumerate", "zip", "dict_itemiterator", "dict_reverseitemiterator", "odict_iterator", "itertools.zip_longest", "itertools.pairwise"].contains n&&vs[0]? == some (rawInt _))=true then _ else _) Q E s;rw[if_neg (by intro h;rw[hn,Bool.false_and]at h;cases h)];exact wpAny_pure hQ))
def Itl(K:PySem.W.Frag)(a:Addr):It :=
 ⟨fun i H=>∃xs x,SqL K H a xs∧xs[i]? = some x,fun i H x H'=>H'=H∧∀xs,SqL K H a xs→xs[i]? = some x,fun i H=>∃xs,SqL K H a xs∧xs.length≤i⟩
def Itt(K:PySem.W.Frag)(a:Addr):It :=
 ⟨fun i H=>∃xs x,SqT K H a xs∧xs[i]? = some x,fun i H x H'=>H'=H∧∀xs,SqT K H a xs→xs[i]? = some x,fun i H=>∃xs,SqT K H a xs∧xs.length≤i⟩
def Itr(lo:Int)(n:Nat):It:=⟨fun i _=>i<n,fun i H x H'=>H'=H∧x=.int (lo+i),fun i _=>n≤i⟩
theorem Ze4{P:Program}{w:World}{K:PySem.W.Frag}{tg:Expr}(a it:Addr):Zga P w K tg (Itl K a) [it] it (fun i h=>h.IsListIter it a i) where
 mem:=by simp
 obj:=fun i h st b hb=>by
  have e:b=it:=by simpa using hb
  subst e
  obtain⟨o,e,c,d⟩:=st
  exact⟨o,e,fun v z=>by rw[d]at z;cases z⟩
 keep:=fun i h h' st k=>st.at fun o e=>k it (by simp) o e
 item:=by
  intro X hP hw hK hc i pins s σ H E I hf st hg
  subst hP hw hK
  obtain⟨xs,x,hq,hx⟩:=hg
  obtain⟨its,rv,p,hz⟩:=I.list hq
  obtain⟨u,hu,ru⟩:=rv.get hx
  obtain⟨f0,f1,f2,f3,f4,f5⟩:=hf it (by simp)
  refine wpAny_pyNext_list_item st p.isList (x:=u) (by simpa using hu) fun h' st' sb=>?_
  have I1:Inv X pins σ H { s with heap:=h' }:=I.turned (t':=s.toks) (fun b o hb e=>(sb.2 b hb).trans e) f0 f1 f3 f4 f5
  obtain⟨o,e,c,d⟩:=id st'
  exact⟨u,rfl,Zhp (s:={ s with heap:=h' }) e c d (by decide) ⟨x,H,I1,ru,⟨rfl,fun ys hy=>by rw[I.list_inj hy hq];exact hx⟩,st',fun b hb=>(hf b hb).1⟩⟩
 done:=by
  intro X hP hw hK hc i pins s σ H E I hf st hg
  subst hP hw hK
  obtain⟨xs,hq,hx⟩:=hg
  obtain⟨its,rv,p,hz⟩:=I.list hq
  obtain⟨f0,f1,f2,f3,f4,f5⟩:=hf it (by simp)
  have hl:=rv.length
  exact wpAny_pyNext_list_end (I.ok.hd hc) st p.isList (by simp;omega) fun h' eb=>⟨rfl,I.turned (t':=s.toks) (fun b o hb e=>eb b o hb e) f0 f1 f3 f4 f5⟩
 self:=fun _ _ _ _ _ st h=>wpAny_pyIter_listiter st h
theorem Zej{P:Program}{w:World}{K:PySem.W.Frag}{tg:Expr}(it:Addr)(lo:Int)(n:Nat):Zga P w K tg (Itr lo n) [it] it (fun i h=>IsRangeIter h it (lo+(i:Nat)*1) ((n:Int)-(i:Nat)) 1) where
 mem:=by simp
 obj:=fun i h st b hb=>by
  have e:b=it:=by simpa using hb
  subst e
  exact⟨_,st,fun v z=>by
   have z':Data.fields _=Data.cell v:=z
   cases z'⟩
 keep:=fun i h h' st k=>k it (by simp) _ st
 item:=by
  intro X hP hw hK hc i pins s σ H E I hf st hg
  subst hP hw hK
  obtain⟨f0,f1,f2,f3,f4,f5⟩:=hf it (by simp)
  have W:=Walks.range (prog:=X.prog) (w:=X.w) (I.ok.hd hc) it lo 1 n
  refine W.item i s _ _ hg st fun v h' tk hv st' kk=>?_
  obtain⟨t,rfl⟩:=hv
  have I1:Inv X pins σ H { s with heap:=h',toks:=tk }:=I.turned (fun b o hb e=>kk b o (by simpa using hb) e) f0 f1 f3 f4 f5
  refine⟨_,rfl,Zhp (s:={ s with heap:=h',toks:=tk }) (n := "range_iterator") st' rfl rfl (by decide) ⟨.int (lo+i),H,I1,⟨t,?_⟩,⟨rfl,rfl⟩,st',fun b hb=>(hf b hb).1⟩⟩
  rw[Int.mul_one]
 done:=by
  intro X hP hw hK hc i pins s σ H E I hf st hg
  subst hP hw hK
  obtain⟨f0,f1,f2,f3,f4,f5⟩:=hf it (by simp)
  exact wpAny_pyNext_range_end (I.ok.hd hc) st (by have:n≤i:=hg;omega) fun h' eb=>⟨rfl,I.turned (t':=s.toks) (fun b o hb e=>eb b o hb e) f0 f1 f3 f4 f5⟩
 self:=fun _ _ _ _ _ st h=>wpAny_pyIter_rangeiter st h
section
variable {X:Cx} {tg:Expr}
def ZhB(K:PySem.W.Frag)(tl:TE):TI:=fun σ H R=>tl σ H fun x H1=>∃a,x=.ref a∧(∃xs,SqL K H1 a xs)∧R (Itl K a) H1
def iTup(K:PySem.W.Frag)(tl:TE):TI:=fun σ H R=>tl σ H fun x H1=>∃a,x=.ref a∧(∃xs,SqT K H1 a xs)∧R (Itt K a) H1
theorem Zhe{l:Expr}{tl:TE}(hl:PE X l tl):PI X tg l (ZhB X.K tl):=by
 intro pins s σ H R I h
 refine thn (hl pins s σ H _ I h) ?_
 rintro v s1 ⟨x,H1,I1,r1,q1⟩
 obtain⟨a,e,⟨xs,hq⟩,q⟩:=q1
 subst e
 cases r1
 obtain⟨its,rv,p,hz⟩:=I1.list hq
 refine wpAny_pyIter_list p.isList ?_
 refine⟨s1.heap.objs.size,[s1.heap.objs.size],_,_,H1,rfl,I1.kept (t':=s1.toks) fun b o e=>Qc _ e,Ze4 a _,⟨_,Qr _ rfl,rfl,rfl⟩,fun b hb=>?_,q⟩
 have e:b=s1.heap.objs.size:=by simpa using hb
 subst e
 exact I1.fpOk (Ql _) (I1.hok.fresh (Ql _))
theorem Zdz{pins:List (Addr×Obj)}{σ:St}{H:Hp}{s:Shared}{R:It→Hp→Prop}{E:Value→Shared→Prop}{lo hi:Int}{t u v:Tok}{tk:Nat}(I:Inv X pins σ H s)(h1:-(2 ^ 62)≤lo)(h2:lo<2 ^ 62)(h3:-(2 ^ 62)≤hi)(h4:hi<2 ^ 62)
  (q:R (Itr lo (hi-lo).toNat) H):wpAny (model X.prog X.w) X.A (pyIter (.ref s.heap.objs.size)) (PIE X pins σ tg R) E { s with heap:=s.heap.push { cls:=.type "range",data:=.fields #[.int lo t,.int hi u,.int 1 v] },toks:=tk }:=by
 refine wpAny_pyIter_range (IsRange.new ..) (small_one h1 h2 h3 h4) ?_
 have I1:Inv X pins σ H { s with heap:=s.heap.push { cls:=.type "range",data:=.fields #[.int lo t,.int hi u,.int 1 v] },toks:=tk }:=I.kept fun b o e=>Qc _ e
 refine⟨(s.heap.push { cls:=.type "range",data:=.fields #[.int lo t,.int hi u,.int 1 v] }).objs.size,[(s.heap.push { cls:=.type "range",data:=.fields #[.int lo t,.int hi u,.int 1 v] }).objs.size],_,_,H,rfl,
  I1.kept (t':=tk) fun b o e=>Qc _ e,Zej _ lo (hi-lo).toNat,?_,fun b hb=>?_,q⟩
 ·have e1:lo+((0:Nat):Int)*1=lo:=by simp
  have e2:(((hi-lo).toNat:Nat):Int)-((0:Nat):Int)=Builtin.Range.rangeSize lo hi 1:=by rw[rangeSize_one];split<;>omega
  show IsRangeIter _ _ (lo+((0:Nat):Int)*1) ((((hi-lo).toNat:Nat):Int)-((0:Nat):Int)) 1
  rw[e1,e2]
  exact Qr _ rfl
 ·have e:b=(s.heap.push { cls:=.type "range",data:=.fields #[.int lo t,.int hi u,.int 1 v] }).objs.size:=by simpa using hb
  subst e
  exact I1.fpOk (Ql _) (I1.hok.fresh (Ql _))
def Zi6(ta:TA):TI:=fun σ H R=>ta σ H fun vs H1=>∃j:Int,vs=[.int j] ∧ -(2 ^ 62)≤j∧j<2 ^ 62∧R (Itr 0 j.toNat) H1
def ZiL(ta:TA):TI:=fun σ H R=>ta σ H fun vs H1=>∃i j:Int,vs=[.int i,.int j]∧(-(2 ^ 62)≤i∧i<2 ^ 62 ∧ -(2 ^ 62)≤j∧j<2 ^ 62)∧R (Itr i (j-i).toNat) H1
theorem ZY{a:Expr}{ta:TA}{p pos:Pos}(hg:Gl X "range")(hm:X.mg "range" = none)(ha:PA X [a] ta)(hs:starEach [a] X.env=[(false,eval a X.env)]:=by rfl):PI X tg (.Call (.Name "range" p) [a] [] pos) (Zi6 ta):=by
 intro pins s σ H R I h
 refine Call_ (Zbk I hg hm boot_range (QT (thn (ha pos pins s σ H _ I h) ?_) hs rfl))
 rintro us s1 ⟨vs,H1,I1,r1,q1⟩
 obtain⟨j,e,q1,q2,q⟩:=q1
 subst e
 cases r1 with
 | cons r rr =>
  cases rr
  obtain⟨t,rfl⟩:=r
  exact call_range_1 (Zdz I1 (by omega) (by omega) q1 q2 (by simpa using q))
theorem Zcs{a b:Expr}{ta:TA}{p pos:Pos}(hg:Gl X "range")(hm:X.mg "range" = none)(ha:PA X [a,b] ta)(hs:starEach [a,b] X.env=[(false,eval a X.env),(false,eval b X.env)]:=by rfl)(hs2:starEach [b] X.env=[(false,eval b X.env)]:=by rfl) :
  PI X tg (.Call (.Name "range" p) [a,b] [] pos) (ZiL ta):=by
 intro pins s σ H R I h
 refine Call_ (Zbk I hg hm boot_range (QT (thn (ha pos pins s σ H _ I h) ?_) (by rw[hs,hs2]) (by rw[hs2];rfl)))
 rintro us s1 ⟨vs,H1,I1,r1,q1⟩
 obtain⟨i,j,e,⟨q1,q2,q3,q4⟩,q⟩:=q1
 subst e
 cases r1 with
 | cons r rr =>
  cases rr with
  | cons r' rr =>
   cases rr
   obtain⟨t,rfl⟩:=r
   obtain⟨t',rfl⟩:=r'
   exact call_range_2 (Zdz I1 q1 q2 q3 q4 q)
def Zjq(wi:TI)(g:TG)(tb:TS):TS:=fun D σ H=>wi σ H fun J H1=>∃W:Nat→Nat→St→Hp→Prop,(∃m,W 0 m σ H1)∧∀i m σ H,W i m σ H →
 (J.stop i H∧D.nx σ H)∨(J.go i H∧∃N:St→Hp→Prop,(∀σ' H',N σ' H'→∃m',m'<m∧W (i+1) m' σ' H')∧∀x H',J.yld i H x H'→g x σ H' fun σ2 H2=>tb { D with nx:=N,ct:=N,bk:=D.nx } σ2 H2)
def Zcg(fp:List Addr)(h:Heap):List (Addr×Obj):=fp.filterMap fun b=>(h.get? b).map fun o=>(b,o)
theorem ZaP{fp:List Addr}{h:Heap}{b:Addr}{o:Obj}(hb:b∈fp)(e:h.get? b=some o):(b,o)∈Zcg fp h:=List.mem_filterMap.mpr ⟨b,hb,by rw[e];rfl⟩
theorem ZeX{fp:List Addr}{h:Heap}{p:Addr×Obj}(hp:p∈Zcg fp h):p.1∈fp∧h.get? p.1=some p.2:=by
 obtain⟨b,hb,e⟩:=List.mem_filterMap.mp hp
 cases q:h.get? b with
 | none=>rw[q]at e;cases e
 | some o =>
  rw[q]at e
  have e':(b,o)=p:=Qp e
  subst e'
  exact⟨hb,q⟩
theorem Inv.pinned{pins:List (Addr×Obj)}{σ:St}{H:Hp}{s:Shared}{fp:List Addr}(I:Inv X pins σ H s)(hf:∀b∈fp,ZbS X pins H b)(ho:∀b∈fp,∃o,s.heap.get? b=some o∧∀v,o.data≠.cell v):Inv X (pins++Zcg fp s.heap) σ H s :=
 I.pins_of fun p hp=>(Qn.mp hp).elim (fun z=>I.pin p (Qe _ z)) fun z=>by
  obtain⟨hb,e⟩:=ZeX z
  obtain⟨f0,f1,f2,_⟩:=hf p.1 hb
  obtain⟨o,e',d⟩:=ho p.1 hb
  rw[e]at e';cases e'
  exact⟨e,f0,f1,f2,d⟩
theorem Inv.unpinned{pins pl:List (Addr×Obj)}{σ:St}{H:Hp}{s:Shared}(I:Inv X (pins++pl) σ H s):Inv X pins σ H s:=I.pins_of fun p hp=>I.pin p (Qe _ (QJ _ hp))
theorem Zbj{iter:Expr}{body:List Stmt}{wi:TI}{g:TG}{tb:TS}{pos:Pos}(hp:PassesOwn (model X.prog X.w) X.A X.env X.xe)(hc:X.calm=true)(hi:PI X tg iter wi)(hg:PG X tg g)(hb:PSs X body tb)
  (hs:∀x,foldedSetIterable iter X.env x=pure x:=by intro _;rfl):PS X (.For tg iter body [] pos) (Zjq wi g tb):=by
 intro pins s σ H D I h
 refine wpAny_For (thn (hi pins s σ H _ I h) fun v s1 h1=>thn h1 fun itv s2 h2=>?_) hs
 obtain⟨it,fp,tn,J,H2,e,I2,T,st2,f2,W,⟨m0,w0⟩,turn⟩:=h2
 subst e
 have stat:∀ {H':Hp},(∀b∈fp,H' b=none)→∀b∈fp,ZbS X pins H' b:=fun hn b hb=>⟨hn b hb,(f2 b hb).2⟩
 refine codeAny_forLoop_any (fun n s'=>∃i σ' H',Inv X pins σ' H' s'∧tn i s'.heap∧(∀b∈fp,H' b=none)∧W i n σ' H') ?_ m0 ⟨0,σ,H2,I2,st2,fun b hb=>(f2 b hb).1,w0⟩
 rintro n s3 ⟨i,σ3,H3,I3,st3,fr3,w3⟩
 rcases turn i n σ3 H3 w3 with⟨stop,qn⟩|⟨go,N,hN,step⟩
 ·refine wpAny_passesOwn hp (thn (T.done X rfl rfl rfl hc i pins s3 σ3 H3 X.xe I3 (stat fr3) st3 stop) ?_)
  rintro r s4 ⟨hr,I4⟩
  subst hr
  exact wpAny_execs_nil ⟨σ3,H3,I4,qn⟩
 ·refine wpAny_passesOwn hp (thn (T.item X rfl rfl rfl hc i pins s3 σ3 H3 X.xe I3 (stat fr3) st3 go) ?_)
  rintro r s4 ⟨u,hr,h4⟩
  subst hr
  refine wpAny_passesOwn hp (thn h4 ?_)
  rintro _ s5 ⟨x,H5,I5,r5,y5,st5,fr5⟩
  have I5':=I5.pinned (stat fr5) (T.obj _ _ st5)
  refine wpAny_passesOwn hp (thn (hg _ s5 σ3 H5 x u _ I5' r5 (step x H5 y5)) ?_)
  rintro _ s6 ⟨σ6,H6,I6,q6⟩
  refine wpAny_passesOwn hp (thn (hb _ s6 σ6 H6 _ I6 q6) fun f s7 q7=>?_)
  have again:∀ {σ7:St} {H7:Hp},Inv X (pins++Zcg fp s5.heap) σ7 H7 s7→N σ7 H7→∃m,m<n∧∃i σ' H',Inv X pins σ' H' s7∧tn i s7.heap∧(∀b∈fp,H' b=none)∧W i m σ' H':=fun {σ7 H7} I7 n7=>by
   obtain⟨m',hm,w7⟩:=hN σ7 H7 n7
   refine⟨m',hm,i+1,σ7,H7,I7.unpinned,T.keep _ _ _ st5 fun b hb o e=>(I7.pin (b,o) (Qe _ (Qe _ (ZaP hb e)))).1,fun b hb=>?_,w7⟩
   obtain⟨o,e,d⟩:=T.obj _ _ st5 b hb
   exact(I7.pin (b,o) (Qe _ (Qe _ (ZaP hb e)))).2.1
  cases f with
  | next=>obtain⟨σ7,H7,I7,n7⟩:=q7;exact again I7 n7
  | cont=>obtain⟨σ7,H7,I7,n7⟩:=q7;exact again I7 n7
  | brk=>obtain⟨σ7,H7,I7,q7⟩:=q7;exact⟨σ7,H7,I7.unpinned,q7⟩
  | ret v=>obtain⟨x7,σ7,H7,I7,r7,q7⟩:=q7;exact⟨x7,σ7,H7,I7.unpinned,r7,q7⟩
end
theorem Zah{lo:Int}{n:Nat}{g:TG}{tb:TS}{D:Zb3}{σ:St}{H:Hp}(Pv:Nat→St→Hp→Prop)(h0:Pv 0 σ H)
  (hs:∀i σ H,i<n→Pv i σ H→g (.int (lo+i)) σ H fun σ2 H2=>tb { D with nx:=Pv (i+1),ct:=Pv (i+1),bk:=D.nx } σ2 H2) (hd:∀σ H,Pv n σ H→D.nx σ H) :
  ∃W:Nat→Nat→St→Hp→Prop,(∃m,W 0 m σ H)∧∀i m σ H,W i m σ H →
   ((Itr lo n).stop i H∧D.nx σ H)∨((Itr lo n).go i H∧∃N:St→Hp→Prop,(∀σ' H',N σ' H'→∃m',m'<m∧W (i+1) m' σ' H')∧∀x H',(Itr lo n).yld i H x H'→g x σ H' fun σ2 H2=>tb { D with nx:=N,ct:=N,bk:=D.nx } σ2 H2):=by
 refine⟨fun i m σ H=>m=n-i∧i≤n∧Pv i σ H,⟨n,by simp,QA _,h0⟩,?_⟩
 rintro i m σ H ⟨rfl,hi,p⟩
 by_cases hlt:i<n
 ·refine .inr ⟨hlt,Pv (i+1),fun σ' H' p'=>⟨n-(i+1),by omega,rfl,hlt,p'⟩,fun x H' y=>?_⟩
  obtain⟨e,y⟩:=y
  subst e y
  exact hs i σ _ hlt p
 ·have e:i=n:=by omega
  subst e
  exact .inl ⟨Ql _,hd σ H p⟩
abbrev R2:=V→V→Hp→VK→Prop
def OpR(X:Cx)(f:Value→Value→Sem Value)(r:R2):Prop :=
 ∀ (pins:List (Addr×Obj)) (s:Shared) (σ:St) (H:Hp) (x y:V) (v u:Value) (Q:VK),Inv X pins σ H s→Zo x v→Zo y u→r x y H Q →
  wpAny (model X.prog X.w) X.A (f v u) (EP X pins σ Q) X.xe s
def UnR(X:Cx)(f:Value→Sem Value)(r:V→Hp→VK→Prop):Prop :=
 ∀ (pins:List (Addr×Obj)) (s:Shared) (σ:St) (H:Hp) (x:V) (v:Value) (Q:VK),Inv X pins σ H s→Zo x v→r x H Q →
  wpAny (model X.prog X.w) X.A (f v) (EP X pins σ Q) X.xe s
def ZT(X:Cx)(f:Value)(r:List V→Hp→VK→Prop):Prop :=
 ∀ (pins:List (Addr×Obj)) (s:Shared) (σ:St) (H:Hp) (xs:List V) (us:List Value) (Q:VK),Inv X pins σ H s→Zm xs us→r xs H Q →
  wpAny (model X.prog X.w) X.A (call f us) (EP X pins σ Q) X.xe s
def TruR(X:Cx)(r:V→Hp→(Bool→Hp→Prop)→Prop):Prop :=
 ∀ (pins:List (Addr×Obj)) (s:Shared) (σ:St) (H:Hp) (x:V) (v:Value) (Q:Bool→Hp→Prop),Inv X pins σ H s→Zo x v→r x H Q →
  wpAny (model X.prog X.w) X.A (truthy v) (TP X pins σ Q) X.xe s
def tOp(r:R2)(ta tb:TE):TE:=fun σ H Q=>ta σ H fun x H1=>tb σ H1 fun y H2=>r x y H2 Q
def tUn(r:V→Hp→VK→Prop)(ta:TE):TE:=fun σ H Q=>ta σ H fun x H1=>r x H1 Q
def rI(C:Int→Int→Prop)(g:Int→Int→V):R2:=fun x y H Q=>∃i j,x=.int i∧y=.int j∧C i j∧Q (g i j) H
def rI0(g:Int→Int→V):R2:=fun x y H Q=>∃i j,x=.int i∧y=.int j∧Q (g i j) H
def rU(g:Int→V):V→Hp→VK→Prop:=fun x H Q=>∃i,x=.int i∧Q (g i) H
section
variable {X:Cx} {a b c:Expr} {ta tb tc:TE} {pos:Pos}
theorem Ziu(ha:PE X a ta)(hb:PE X b tb){pins:List (Addr×Obj)}{s:Shared}{σ:St}{H:Hp}{R:V→V→Hp→Prop}(I:Inv X pins σ H s)
  (h:ta σ H fun x H1=>tb σ H1 fun y H2=>R x y H2) {Q:Value→Shared→Prop} {f:Value→Value→Sem Value}
  (hf:∀v u s2 x y H2,Inv X pins σ H2 s2→Zo x v→Zo y u→R x y H2→wpAny (model X.prog X.w) X.A (f v u) Q X.xe s2) :
  wpAny (model X.prog X.w) X.A (eval a X.env) (fun v s₁=>wpAny (model X.prog X.w) X.A (eval b X.env) (fun u s₂=>wpAny (model X.prog X.w) X.A (f v u) Q X.xe s₂) X.xe s₁) X.xe s:=by
 refine thn (ha pins s σ H _ I h) ?_
 rintro v s1 ⟨x,H1,I1,r1,q1⟩
 refine thn (hb pins s1 σ H1 _ I1 q1) ?_
 rintro u s2 ⟨y,H2,I2,r2,q2⟩
 exact hf v u s2 x y H2 I2 r1 r2 q2
theorem ZP{op:Operator}{r:R2}(ho:OpR X (binaryOp op) r)(ha:PE X a ta)(hb:PE X b tb):PE X (.BinOp a op b pos) (tOp r ta tb):=by
 intro pins s σ H Q I h
 exact wpAny_BinOp (Ziu ha hb I h fun v u s2 x y H2 I2 rx ry q=>ho pins s2 σ H2 x y v u Q I2 rx ry q)
theorem Zhm{op:UnaryOp}{r:V→Hp→VK→Prop}(ho:UnR X (unaryOp op) r)(ha:PE X a ta):PE X (.UnaryOp op a pos) (tUn r ta):=by
 intro pins s σ H Q I h
 exact UnaryOp_ (thn (ha pins s σ H _ I h) fun v s1 ⟨x,H1,I1,r1,q1⟩=>ho pins s1 σ H1 x v Q I1 r1 q1)
theorem opI{f:Value→Value→Sem Value}{C:Int→Int→Prop}{g:Int→Int→Int}
  (rule:∀ (i j:Int) (t u:Tok) (s:Shared) (Q:Value→Shared→Prop) (E:Value→Shared→Prop),C i j→Q (.int (g i j) s.toks) { s with toks:=s.toks+1 }→wpAny (model X.prog X.w) X.A (f (.int i t) (.int j u)) Q E s) :
  OpR X f (rI C fun i j=>.int (g i j)):=by
 intro pins s σ H x y v u Q I rx ry h
 obtain⟨i,j,rfl,rfl,hc,q⟩:=h
 obtain⟨t,rfl⟩:=rx
 obtain⟨t',rfl⟩:=ry
 exact rule i j t t' s _ _ hc ⟨.int (g i j),H,I.tok _,⟨_,rfl⟩,q⟩
theorem Zj5{f:Value→Value→Sem Value}{g:Int→Int→Int}
  (rule:∀ (i j:Int) (t u:Tok) (s:Shared) (Q:Value→Shared→Prop) (E:Value→Shared→Prop),Q (.int (g i j) s.toks) { s with toks:=s.toks+1 }→wpAny (model X.prog X.w) X.A (f (.int i t) (.int j u)) Q E s) :
  OpR X f (rI0 fun i j=>.int (g i j)):=by
 intro pins s σ H x y v u Q I rx ry h
 obtain⟨i,j,rfl,rfl,q⟩:=h
 obtain⟨t,rfl⟩:=rx
 obtain⟨t',rfl⟩:=ry
 exact rule i j t t' s _ _ ⟨.int (g i j),H,I.tok _,⟨_,rfl⟩,q⟩
theorem ZgE{f:Value→Value→Sem Value}{g:Int→Int→Bool}
  (rule:∀ (i j:Int) (t u:Tok) (s:Shared) (Q:Value→Shared→Prop) (E:Value→Shared→Prop),Q (.bool (g i j)) s→wpAny (model X.prog X.w) X.A (f (.int i t) (.int j u)) Q E s) :
  OpR X f (rI0 fun i j=>.bl (g i j)):=by
 intro pins s σ H x y v u Q I rx ry h
 obtain⟨i,j,rfl,rfl,q⟩:=h
 obtain⟨t,rfl⟩:=rx
 obtain⟨t',rfl⟩:=ry
 exact rule i j t t' s _ _ ⟨.bl (g i j),H,I,rfl,q⟩
def ZjE(i j:Int):Prop:=0<j∧j<1073741824
def CDivN(i j:Int):Prop:=j≠0∧j.natAbs<1073741824
def ZiN(i j:Int):Prop:=0≤j∧j≤1000000∧i.natAbs<2 ^ 64
def ZhW(i j:Int):Prop:=(-(2 ^ 64)<i∧i<2 ^ 64)∨(-(2 ^ 64)<j∧j<2 ^ 64)
theorem ZhW.ok{i j:Int}(h:ZhW i j):IntMulOk i j:=by
 rcases h with⟨h1,h2⟩|⟨h1,h2⟩
 ·exact .of_left (intBits_le_64 h1 h2)
 ·exact .of_right (intBits_le_64 h1 h2)
theorem Zbm:OpR X (binaryOp .Add) (rI0 fun i j=>.int (i+j)):=Zj5 fun _ _ _ _ _ _ _ q=>add_int q
theorem ZbK:OpR X (binaryOp .Mult) (rI ZhW fun i j=>.int (i*j)):=opI fun _ _ _ _ _ _ _ hc q=>mul_int q hc.ok
theorem Zer:OpR X (binaryOp .FloorDiv) (rI ZjE fun i j=>.int (i / j)):=opI fun i j _ _ _ _ _ hc q=>by
 have h1:(0:Int)<j:=hc.1
 have h2:j<1073741824:=hc.2
 exact floordiv_int (by omega) (by rw[Int.fdiv_eq_ediv_of_nonneg i (by omega)];exact q) (.inl (PyProof.noPylong_small (by omega)))
theorem Zb5:OpR X (binaryOp .Mod) (rI (fun _ j=>0<j) fun i j=>.int (i % j)):=opI fun i j _ _ _ _ _ hc q=>by
 have h1:(0:Int)<j:=hc
 exact mod_int' (by omega) (by rw[Int.fmod_eq_emod_of_nonneg i (by omega)];exact q)
theorem Zh9:OpR X (binaryOp .Pow) (rI ZiN fun i j=>.int (i ^ j.toNat)):=opI fun _ _ _ _ _ _ _ hc q=>pow_int_small hc.1 hc.2.1 hc.2.2 q
theorem unI{f:Value→Sem Value}{g:Int→Int}
  (rule:∀ (i:Int) (t:Tok) (s:Shared) (Q:Value→Shared→Prop) (E:Value→Shared→Prop),Q (.int (g i) s.toks) { s with toks:=s.toks+1 }→wpAny (model X.prog X.w) X.A (f (.int i t)) Q E s) :
  UnR X f (rU fun i=>.int (g i)):=by
 intro pins s σ H x v Q I rx h
 obtain⟨i,rfl,q⟩:=h
 obtain⟨t,rfl⟩:=rx
 exact rule i t s _ _ ⟨.int (g i),H,I.tok _,⟨_,rfl⟩,q⟩
theorem Zgb:UnR X (unaryOp .USub) (rU fun i=>.int (-i)):=unI fun _ _ _ _ _ q=>neg_int q
end
def Zjf:V→V→Bool
 | .non,.non=>true|.non,.int _=>true|.int _,.non=>true|.non,.bl _=>true|.bl _,.non=>true|.non,.str _=>true|.str _,.non=>true
 | .int _,.int _=>true|.bl _,.bl _=>true|.str _,.str _=>true|.byt _,.byt _=>true
 | .int _,.str _=>true|.str _,.int _=>true|.bl _,.str _=>true|.str _,.bl _=>true
 | _,_=>false
def rEq:R2:=fun x y H Q=>Zjf x y=true∧Q (.bl (decide (x=y))) H
def rNe:R2:=fun x y H Q=>Zjf x y=true∧Q (.bl (!decide (x=y))) H
theorem ZeD{i j:Int}:decide (V.int i=V.int j)=(i == j):=by
 rw[Qau]
 simp
theorem ZfJ{i j:Bool}:decide (V.bl i=V.bl j)=(i == j):=by
 rw[Qau]
 simp
theorem ZeM{i j:Str}:decide (V.str i=V.str j)=(i == j):=by
 rw[Qau]
 simp
theorem Zen{i j:Array UInt8}:decide (V.byt i=V.byt j)=(i.toList == j.toList):=by
 rw[Qau]
 cases i
 cases j
 simp
section
variable {X:Cx} {a b c:Expr} {ta tb tc:TE} {pos:Pos}
theorem Zp{pins:List (Addr×Obj)}{σ:St}{H:Hp}{s:Shared}{Q:VK}{k k':Bool}(I:Inv X pins σ H s)(q:Q (.bl k) H)(e:k=k'):EP X pins σ Q (.bool k') s:=by
 subst e
 exact⟨.bl k,H,I,rfl,q⟩
theorem Zas:OpR X (compareOp .Eq) rEq:=by
 intro pins s σ H x y v u Q I rx ry h
 obtain⟨hs,q⟩:=h
 cases x with
 | non =>
  cases rx
  cases y with
  | non=>cases ry;exact PySem.EqNone.eq_none_none (Zp I q (by simp))
  | bl j=>cases ry;exact PySem.EqNone.eq_none_bool (Zp I q (by simp))
  | int j=>obtain⟨t',rfl⟩:=ry;exact PySem.EqNone.eq_none_int (Zp I q (by simp))
  | str j=>obtain⟨t',rfl⟩:=ry;exact PySem.EqNone.eq_none_str (Zp I q (by simp))
  | _=>exact absurd (show false=true from hs) Qm
 | bl i =>
  cases rx
  cases y with
  | non=>cases ry;exact PySem.EqNone.eq_bool_none (Zp I q (by simp))
  | bl j=>cases ry;exact eq_bool (Zp I q ZfJ)
  | str j=>obtain⟨t',rfl⟩:=ry;exact PySem.EqMixed.eq_bool_str (Zp I q (by simp))
  | _=>exact absurd (show false=true from hs) Qm
 | int i =>
  obtain⟨t,rfl⟩:=rx
  cases y with
  | non=>cases ry;exact PySem.EqNone.eq_int_none (Zp I q (by simp))
  | int j=>obtain⟨t',rfl⟩:=ry;exact eq_int (Zp I q ZeD)
  | str j=>obtain⟨t',rfl⟩:=ry;exact PySem.EqMixed.eq_int_str (Zp I q (by simp))
  | _=>exact absurd (show false=true from hs) Qm
 | str i =>
  obtain⟨t,rfl⟩:=rx
  cases y with
  | non=>cases ry;exact PySem.EqNone.eq_str_none (Zp I q (by simp))
  | bl j=>cases ry;exact PySem.EqMixed.eq_str_bool (Zp I q (by simp))
  | int j=>obtain⟨t',rfl⟩:=ry;exact PySem.EqMixed.eq_str_int (Zp I q (by simp))
  | str j=>obtain⟨t',rfl⟩:=ry;exact eq_str (Zp I q ZeM)
  | _=>exact absurd (show false=true from hs) Qm
 | byt i =>
  obtain⟨t,rfl⟩:=rx
  cases y with
  | byt j=>obtain⟨t',rfl⟩:=ry;exact PySem.W.eq_bytes (Zp I q Zen)
  | _=>exact absurd (show false=true from hs) Qm
 | _=>cases y<;>exact absurd (show false=true from hs) Qm
theorem ZhD:OpR X (compareOp .NotEq) rNe:=by
 intro pins s σ H x y v u Q I rx ry h
 obtain⟨hs,q⟩:=h
 cases x with
 | non =>
  cases rx
  cases y with
  | non=>cases ry;exact PySem.EqNone.ne_none_none (Zp I q (by simp))
  | bl j=>cases ry;exact PySem.EqNone.ne_none_bool (Zp I q (by simp))
  | int j=>obtain⟨t',rfl⟩:=ry;exact PySem.EqNone.ne_none_int (Zp I q (by simp))
  | str j=>obtain⟨t',rfl⟩:=ry;exact PySem.EqNone.ne_none_str (Zp I q (by simp))
  | _=>exact absurd (show false=true from hs) Qm
 | bl i =>
  cases rx
  cases y with
  | non=>cases ry;exact PySem.EqNone.ne_bool_none (Zp I q (by simp))
  | bl j=>cases ry;exact ne_bool (Zp I q (congrArg not ZfJ))
  | str j=>obtain⟨t',rfl⟩:=ry;exact PySem.EqMixed.ne_bool_str (Zp I q (by simp))
  | _=>exact absurd (show false=true from hs) Qm
 | int i =>
  obtain⟨t,rfl⟩:=rx
  cases y with
  | non=>cases ry;exact PySem.EqNone.ne_int_none (Zp I q (by simp))
  | int j=>obtain⟨t',rfl⟩:=ry;exact ne_int (Zp I q (congrArg not ZeD))
  | str j=>obtain⟨t',rfl⟩:=ry;exact PySem.EqMixed.ne_int_str (Zp I q (by simp))
  | _=>exact absurd (show false=true from hs) Qm
 | str i =>
  obtain⟨t,rfl⟩:=rx
  cases y with
  | non=>cases ry;exact PySem.EqNone.ne_str_none (Zp I q (by simp))
  | bl j=>cases ry;exact PySem.EqMixed.ne_str_bool (Zp I q (by simp))
  | int j=>obtain⟨t',rfl⟩:=ry;exact PySem.EqMixed.ne_str_int (Zp I q (by simp))
  | str j=>obtain⟨t',rfl⟩:=ry;exact ne_str (Zp I q (congrArg not ZeM))
  | _=>exact absurd (show false=true from hs) Qm
 | byt i =>
  obtain⟨t,rfl⟩:=rx
  cases y with
  | byt j=>obtain⟨t',rfl⟩:=ry;exact PySem.W.ne_bytes (Zp I q (congrArg not Zen))
  | _=>exact absurd (show false=true from hs) Qm
 | _=>cases y<;>exact absurd (show false=true from hs) Qm
theorem ZdP:OpR X (compareOp .Lt) (rI0 fun i j=>.bl (decide (i<j))):=ZgE fun _ _ _ _ _ _ _ q=>lt_int q
theorem ZiI:OpR X (compareOp .LtE) (rI0 fun i j=>.bl (decide (i≤j))):=ZgE fun _ _ _ _ _ _ _ q=>le_int q
theorem Ziz:OpR X (compareOp .Gt) (rI0 fun i j=>.bl (decide (j<i))):=ZgE fun _ _ _ _ _ _ _ q=>gt_int q
theorem Zjm:OpR X (compareOp .GtE) (rI0 fun i j=>.bl (decide (j≤i))):=ZgE fun _ _ _ _ _ _ _ q=>ge_int q
theorem Ze7:OpR X (compareOp .Lt) (fun x y H Q=>∃i j,x=.str i∧y=.str j∧Q (.bl (decide (i.cps.toList<j.cps.toList))) H):=by
 intro pins s σ H x y v u Q I rx ry h
 obtain⟨i,j,rfl,rfl,q⟩:=h
 obtain⟨t,rfl⟩:=rx
 obtain⟨t',rfl⟩:=ry
 exact lt_str (Zp I q rfl)
theorem Zh7:OpR X (compareOp .Is) (fun x y H Q=>y=.non∧Q (.bl (decide (x=.non))) H):=by
 intro pins s σ H x y v u Q I rx ry h
 obtain⟨rfl,q⟩:=h
 cases ry
 refine is_none_gen (Zp I q ?_)
 cases x<;>first
  | (cases rx;rfl)
  | (obtain⟨t,rfl⟩:=rx;rfl)
def isObj:HO→Bool
 | .lst _=>true
 | .ins _ _ _=>true
 | _=>false
theorem Zq(b:Expr){op:CmpOp}(h:op≠.In:=by decide)(h2:op≠.NotIn:=by decide):behindInMarks op b=false:=by
 have e1:(op == CmpOp.In)=false:=by cases op<;>first|rfl|exact absurd rfl h
 have e2:(op == CmpOp.NotIn)=false:=by cases op<;>first|rfl|exact absurd rfl h2
 cases b<;>simp[behindInMarks,e1,e2]
theorem ZaM{op:CmpOp}{r:R2}(ho:OpR X (compareOp op) r)(ha:PE X a ta)(hb:PE X b tb)(hm:behindInMarks op b=false):PE X (.Compare a [op] [b] pos) (tOp r ta tb):=by
 intro pins s σ H Q I h
 exact wpAny_Compare1 (Ziu ha hb I h fun v u s2 x y H2 I2 rx ry q=>ho pins s2 σ H2 x y v u Q I2 rx ry q) hm
def ZiY(t:TE):TT:=fun σ H Q=>t σ H fun x H'=>∃k,x=.bl k∧Q k H'
theorem Zs{op:CmpOp}{r:R2}(ho:OpR X (compareOp op) r)(ha:PE X a ta)(hb:PE X b tb)(hm:behindInMarks op b=false):PT X (.Compare a [op] [b] pos) (ZiY (tOp r ta tb)):=by
 intro pins s σ H Q I h
 refine wpAny_isTrue_Compare1 (thn (ha pins s σ H _ I h) fun v s1 ⟨x,H1,I1,r1,q1⟩=>thn (hb pins s1 σ H1 _ I1 q1) fun u s2 ⟨y,H2,I2,r2,q2⟩=>
  thn (ho pins s2 σ H2 x y v u _ I2 r1 r2 q2) fun c s3 ⟨z,H3,I3,r3,k,e,q3⟩=>?_) hm
 subst e
 cases r3
 exact wpAny_truthy_bool ⟨H3,I3,q3⟩
def tChain(r r':R2)(ta tb tc:TE):TE:=fun σ H Q=>ta σ H fun x H1=>tb σ H1 fun y H2=>r x y H2 fun z H3=>∃k,z=.bl k ∧
 (if k=true then tc σ H3 fun w' H4=>r' y w' H4 Q else Q (.bl false) H3)
def ZjU(K:PySem.W.Frag)(x:V)(H:Hp)(k:Bool):Prop :=
 match x with
 | .non=>k=false
 | .bl b=>k=b
 | .int i=>k=(i != 0)
 | .str y=>y.length≤sizeLine∧k=((y.length:Int) != 0)
 | .byt y=>y.size≤sizeLine∧k=((y.size:Int) != 0)
 | .ref p=>(∃xs,SqL K H p xs∧k = !xs.isEmpty)∨(∃xs,SqT K H p xs∧k = !xs.isEmpty)∨∃kvs,H p=some (.dK kvs)∧k = !kvs.isEmpty
 | _=>False
theorem ZbZ:(sizeLine:Nat)<2 ^ 63:=by rw[sizeLine_eq];decide
theorem Zei:OpR X (binaryOp .Add) (fun x y H Q=>∃i j,x=.str i∧y=.str j∧i.length+j.length≤sizeLine∧Q (.str (i++j)) H):=by
 intro pins s σ H x y v u Q I rx ry h
 obtain⟨i,j,rfl,rfl,hz,q⟩:=h
 obtain⟨t,rfl⟩:=rx
 obtain⟨t',rfl⟩:=ry
 exact add_str (fun t' tk=>⟨.str (i++j),H,I.tok _,⟨_,rfl⟩,q⟩) hz
def PlainIxT(b:Expr):Prop:=∀o i,subscripted b false o i=operate [o,i] (getItem o i)
theorem Zbh{x:V}{us:List Value}(r:Zm [x] us):∃u,us=[u]∧Zo x u:=by
 cases r with
 | cons r1 r2=>cases r2;exact⟨_,rfl,r1⟩
theorem Zeq{x y:V}{us:List Value}(r:Zm [x,y] us):∃u w',us=[u,w']∧Zo x u∧Zo y w':=by
 cases r with
 | cons r1 r2 =>
  cases r2 with
  | cons r3 r4=>cases r4;exact⟨_,_,rfl,r1,r3⟩
theorem ZdC:ZT X (.builtin "abs") (fun xs H Q=>∃i,xs=[.int i]∧Q (.int (if i<0 then -i else i)) H):=by
 intro pins s σ H xs us Q I r h
 obtain⟨i,rfl,q⟩:=h
 obtain⟨u,rfl,t,rfl⟩:=Zbh r
 exact call_abs_int fun u tk=>⟨.int (if i<0 then -i else i),H,I.tok _,⟨_,rfl⟩,q⟩
theorem Zfe(hc:X.calm=true):ZT X (.builtin "max") (fun xs H Q=>∃i j,xs=[.int i,.int j]∧Q (.int (if j>i then j else i)) H):=by
 intro pins s σ H xs us Q I r h
 obtain⟨i,j,rfl,q⟩:=h
 obtain⟨u,w',rfl,⟨t,rfl⟩,⟨t',rfl⟩⟩:=Zeq r
 refine max_two_ints (I.ok.hd hc) fun h' tk k=>⟨_,H,I.kept k,?_,q⟩
 by_cases hj:j>i
 ·rw[if_pos hj,if_pos hj];exact⟨_,rfl⟩
 ·rw[if_neg hj,if_neg hj];exact⟨_,rfl⟩
theorem Zfn(hc:X.calm=true):ZT X (.builtin "min") (fun xs H Q=>∃i j,xs=[.int i,.int j]∧Q (.int (if j<i then j else i)) H):=by
 intro pins s σ H xs us Q I r h
 obtain⟨i,j,rfl,q⟩:=h
 obtain⟨u,w',rfl,⟨t,rfl⟩,⟨t',rfl⟩⟩:=Zeq r
 refine min_two_ints (I.ok.hd hc) fun h' tk k=>⟨_,H,I.kept k,?_,q⟩
 by_cases hj:j<i
 ·rw[if_pos hj,if_pos hj];exact⟨_,rfl⟩
 ·rw[if_neg hj,if_neg hj];exact⟨_,rfl⟩
theorem Zcz:ZT X (.type "int") (fun xs H Q=>(∃i,xs=[.int i]∧Q (.int i) H)∨∃k,xs=[.bl k]∧Q (.int (if k then 1 else 0)) H):=by
 intro pins s σ H xs us Q I r h
 rcases h with⟨i,rfl,q⟩|⟨k,rfl,q⟩
 ·obtain⟨u,rfl,t,rfl⟩:=Zbh r
  exact call_int_int ⟨.int i,H,I,⟨_,rfl⟩,q⟩
 ·obtain⟨u,rfl,r1⟩:=Zbh r
  cases r1
  exact call_int_bool ⟨.int (if k then 1 else 0),H,I.tok _,⟨_,rfl⟩,q⟩
def LenV(K:PySem.W.Frag)(x:V)(H:Hp)(n:Nat):Prop :=
 match x with
 | .str y=>y.length≤sizeLine∧n=y.length
 | .byt y=>y.size≤sizeLine∧n=y.size
 | .ref p=>(∃xs,SqL K H p xs∧n=xs.length)∨∃xs,SqT K H p xs∧n=xs.length
 | _=>False
end
structure Zh6 (h:Heap) (x dx C:Addr) (mA:Str→Option Value):Prop where
 obj:h.get? x=some (PySem.W.instObj C dx)
 ns:h.Ns1 dx mA
 ne:dx≠x
theorem ZeT{h:Heap}{dx:Addr}{mA:Str→Option Value}(n:h.Ns1 dx mA):∃od,h.get? dx=some od∧∀name,PySem.W.lookIn name od=some (mA name):=by
 obtain⟨o,es,ep,ho,hd,hk,_,hm⟩:=n
 refine⟨o,ho,fun name=>?_⟩
 have e:=hm name
 unfold nsFind findBy at e
 rw[← Array.find?_toList]at e
 unfold PySem.W.lookIn
 rw[hd]
 dsimp only
 split
 ·rename_i y q
  rw[q]at e
  exact congrArg some e
 ·rename_i q
  rw[q]at e
  have a:es.toList.any (·.refKey)=false:=by
   rw[List.any_eq_false]
   intro y hy
   obtain⟨z,t,hkey⟩:=hk y (Array.mem_toList_iff.mp hy)
   simp[DictEntry.refKey,hkey]
  have a':¬ es.toList.any (·.refKey)=true:=by rw[a];exact Qm
  rw[if_neg a']
  exact congrArg some e
theorem Zh6.look{h:Heap}{x dx C:Addr}{mA:Str→Option Value}(I:Zh6 h x dx C mA):∃od,PySem.W.InstAt h x (PySem.W.instObj C dx) C (some od)∧∀name,PySem.W.lookIn name od=some (mA name) :=
 let ⟨od,ho,hl⟩:=ZeT I.ns
 ⟨od,⟨I.obj,rfl,rfl,ho⟩,hl⟩
section
variable {prog:Program} {w:World} {A:Around} {E:Value→Shared→Prop} {s:Shared} {K:PySem.W.Frag} {x dx C f:Addr} {mA:Str→Option Value} {name:Str} {v:Value}
end
def Zd2(f:Str)(v:V):List (Str×V)→List (Str×V)
 | []=>[(f,v)]
 | (g,x)::r=>if g=f then (g,v)::r else (g,x)::Zd2 f v r
section
variable {P:Program} {w:World} {H H':Hp} {h h':Heap} {a C dx:Addr} {fs fs':List (Str×V)}
theorem ZeH(hok:HOk P w H h)(e:H a=some (.ins C dx fs)):∃mA,Zh6 h a dx C mA∧(∀f,ZhR (fs.lookup f) (mA f))∧PySem.Within mA (fs.map (·.1))∧fs.length≤1000∧H dx=some (.own a):=by
 obtain⟨d,z,ne,ob,mA,n,r,q⟩:=(show ZN P w H h a (.ins C dx fs) from hok a _ e)
 exact⟨mA,⟨ob,n,ne⟩,r,q,z,d⟩
end
structure Cls (K:PySem.W.Frag) (C:Addr):Prop where
 pg:PySem.W.plainGet K C Str.empty=true
 hd:PySem.W.hasDictIn K C=true
 po:PySem.W.plainOver K C=true
 sa:PySem.W.findIn K (.ref C) "__setattr__" = some (some (.builtin "object.__setattr__"))
theorem Cls.get{K:PySem.W.Frag}{C:Addr}(c:Cls K C)(f:Str):PySem.W.plainGet K C f=true:=c.pg
def Zd7(K:PySem.W.Frag)(C:Addr)(f:Str):Prop:=PySem.W.findIn K (.ref C) f=some none
structure Con (K:PySem.W.Frag) (C:Addr) (f:Str) (v:V) (u:Value):Prop where
 at_:PySem.W.findIn K (.ref C) f=some (some u)
 rel:Zo v u
 get:PySem.W.specialIn K u "__get__" = some none
 cp:PySem.W.copiedNames.contains f=false
structure Zi0 (K:PySem.W.Frag) (C:Addr) (m:Str) (f:Addr):Prop where
 at_:PySem.W.findIn K (.ref C) m=some (some (.ref f))
 fn:PySem.W.isFn K (.ref f)=true
 kp:PySem.W.keepIn K (.ref f)=true
section
variable {X:Cx} {pins:List (Addr×Obj)} {σ:St} {H:Hp} {s:Shared} {a C dx:Addr} {fs:List (Str×V)} {f:Str} {v:V} {A:Around} {E:Value→Shared→Prop}
end
def tFld(K:PySem.W.Frag)(ta:TE)(f:Str):TE:=fun σ H Q=>ta σ H fun x H1=>∃a C dx fs v,x=.ref a∧H1 a=some (.ins C dx fs)∧Cls K C∧Zd7 K C f∧fs.lookup f=some v∧Q v H1
def tCon(K:PySem.W.Frag)(ta:TE)(f:Str):TE:=fun σ H Q=>ta σ H fun x H1=>∃a C dx fs v u,x=.ref a∧H1 a=some (.ins C dx fs)∧Cls K C∧Con K C f v u∧fs.lookup f=none∧Q v H1
def sFld(K:PySem.W.Frag)(ta tv:TE)(f:Str):TS:=fun D σ H=>tv σ H fun y H1=>ta σ H1 fun x H2=>∃a C dx fs,x=.ref a∧H2 a=some (.ins C dx fs)∧Cls K C∧Zd7 K C f∧fs.length<1000 ∧
 D.nx σ (upd H2 a (.ins C dx (Zd2 f y fs)))
def InOp(X:Cx)(op:Operator)(rd:V→V→Hp→VK→Prop):Prop :=
 ∀ (pins:List (Addr×Obj)) (s:Shared) (σ:St) (H:Hp) (x y:V) (u v:Value) (Q:VK),Inv X pins σ H s→Zo x u→Zo y v→rd x y H Q→wpAny (model X.prog X.w) X.A (inplaceOp op u v) (EP X pins σ Q) X.xe s
def sFldAug(K:PySem.W.Frag)(ta tv:TE)(rd:V→V→Hp→VK→Prop)(f:Str):TS:=fun D σ H=>ta σ H fun x H1=>∃a C dx fs v,x=.ref a∧H1 a=some (.ins C dx fs)∧Cls K C∧Zd7 K C f∧fs.lookup f=some v ∧
 tv σ H1 fun y H2=>rd v y H2 fun z H3=>∃dx' fs',H3 a=some (.ins C dx' fs')∧fs'.length<1000∧D.nx σ (upd H3 a (.ins C dx' (Zd2 f z fs')))
section
variable {X:Cx} {o e value:Expr} {f:Str} {pos pos' tpos:Pos} {ta tv:TE}
def rAdd:V→V→Hp→VK→Prop:=fun x y H Q=>∃i j,x=.int i∧y=.int j∧Q (.int (i+j)) H
def rSub:V→V→Hp→VK→Prop:=fun x y H Q=>∃i j,x=.int i∧y=.int j∧Q (.int (i-j)) H
end
section
variable {X:Cx} {pins:List (Addr×Obj)} {σ:St} {H:Hp} {s:Shared} {A:Around} {E:Value→Shared→Prop} {Q:Value→Shared→Prop} {c:Value} {b:Bool}
inductive Zbt (K:PySem.W.Frag) (H:Hp):V→Value→Prop where
 | non:Zbt K H .non (.type "NoneType")
 | bl (x:Bool):Zbt K H (.bl x) (.type "bool")
 | int (i:Int):Zbt K H (.int i) (.type "int")
 | str (x:Str):Zbt K H (.str x) (.type "str")
 | flt (x:UInt64):Zbt K H (.flt x) (.type "float")
 | lst {a:Addr} {xs:List V} (e:H a=some (.lst xs)):Zbt K H (.ref a) (.type "list")
 | frz {a:Addr} {o:Obj} {xs:List V} (e:H a=some (.frz o (.lst xs))):Zbt K H (.ref a) (.type "list")
 | tup {a:Addr} {xs:List V} (e:H a=some (.tup xs)):Zbt K H (.ref a) (.type "tuple")
 | dK {a:Addr} {kvs:List (Key×V)} (e:H a=some (.dK kvs)):Zbt K H (.ref a) (.type "dict")
 | dT {a:Addr} {kvs:List (List Key×V)} (e:H a=some (.dT kvs)):Zbt K H (.ref a) (.type "dict")
 | ins {a C dx:Addr} {fs:List (Str×V)} (e:H a=some (.ins C dx fs)) (cl:Cls K C) (ha:PySem.W.findIn K (.ref C) "__class__" = some (some (.builtin "object.__class__")))
   (hn:PySem.W.specialIn K (.builtin "object.__class__") "__get__" = some (some (.builtin "getset_descriptor.__get__"))) (htk:PySem.W.takesIn K (.builtin "object.__class__")=some true)
   (hm:PySem.W.mroIn K C (.type "object")=some true):Zbt K H (.ref a) (.ref C)
theorem Zft{x:V}{u t:Value}(I:Inv X pins σ H s)(rx:Zo x u)(ty:Zbt X.K H x t)(e:PySem.W.kitOne X.K t c=some b)(h:∀tk,Q (.bool b) { s with toks:=tk }) :
  wpAny (model X.prog X.w) A (call (.builtin "isinstance") [u,c]) Q E s:=by
 cases ty with
 | non=>cases (show u=Value.none from rx);exact QK PySem.W.kitx_none I.kIn True.intro e (fun z=>nomatch z) h
 | bl y=>cases (show u=Value.bool y from rx);exact QK PySem.W.kitx_bool I.kIn True.intro e (fun z=>nomatch z) h
 | int i=>obtain⟨t,q⟩:=(show ∃t,u=Value.int i t from rx);cases q;exact QK PySem.W.kitx_int I.kIn True.intro e (fun z=>nomatch z) h
 | str y=>obtain⟨t,q⟩:=(show ∃t,u=Value.str y t from rx);cases q;exact QK PySem.W.kitx_str I.kIn True.intro e (fun z=>nomatch z) h
 | flt y=>obtain⟨t,q⟩:=(show ∃t,u=Value.float y t from rx);cases q;exact QK PySem.W.kitx_float I.kIn True.intro e (fun z=>nomatch z) h
 | @lst a xs ea =>
  cases (show u=Value.ref a from rx)
  obtain⟨_,_,n,_,h1⟩:=(show ZN X.prog X.w H s.heap a (.lst xs) from I.hok a _ ea)
  exact QK Qax I.kIn ⟨_,h1,rfl⟩ e (fun z=>nomatch z) h
 | @frz a ob xs ea =>
  cases (show u=Value.ref a from rx)
  obtain⟨_,_,_,n,_,h1⟩:=(show ZN X.prog X.w H s.heap a (.frz ob (.lst xs)) from I.hok a _ ea)
  exact QK Qax I.kIn ⟨_,h1,rfl⟩ e (fun z=>nomatch z) h
 | @tup a xs ea =>
  cases (show u=Value.ref a from rx)
  obtain⟨_,_,_,p⟩:=(show ZN X.prog X.w H s.heap a (.tup xs) from I.hok a _ ea)
  obtain⟨o,h1,h2,_⟩:=p
  exact QK PySem.W.kitx_tuple I.kIn ⟨o,h1,h2⟩ e (fun z=>nomatch z) h
 | @dK a kvs ea =>
  cases (show u=Value.ref a from rx)
  obtain⟨_,_,vs,_,p⟩:=(show ZN X.prog X.w H s.heap a (.dK kvs) from I.hok a _ ea)
  obtain⟨o,es,ep,h1,h2,_⟩:=p
  exact QK Qay I.kIn ⟨o,h1,h2.1⟩ e (fun z=>nomatch z) h
 | @dT a kvs ea =>
  cases (show u=Value.ref a from rx)
  obtain⟨_,_,xs,_,o,es,ep,h1,h2,_⟩:=(show ZN X.prog X.w H s.heap a (.dT kvs) from I.hok a _ ea)
  exact QK Qay I.kIn ⟨o,h1,h2.1⟩ e (fun z=>nomatch z) h
 | @ins a C dx fs ea cl ha hn htk hm =>
  cases (show u=Value.ref a from rx)
  obtain⟨mA,O,_⟩:=ZeH I.hok ea
  obtain⟨od,J,_⟩:=O.look
  exact QK (PySem.W.kitx_own (cl.get _) cl.hd ha hn htk hm) I.kIn J e (fun z=>nomatch z) h
end
structure ZaE (k:Nat) (A:Around):Prop where
 hd:A.handled=none
 dp:A.depth+3*k+5<recursionLimit
 un:A.units+16*k+200<cLine
 gd:A.guards=some []
theorem ZaE.mono{j k:Nat}{A:Around}(r:ZaE k A)(h:j≤k):ZaE j A:=⟨r.hd,by have:=r.dp;omega,by have:=r.un;omega,r.gd⟩
theorem ZaE.deeper{k:Nat}{A:Around}(r:ZaE (k+1) A)(env:Env):ZaE k (A.deeper env) :=
 ⟨r.hd,by have:=r.dp;show A.depth+1+3*k+5<_;omega,by have:=r.un;show A.units+3+16*k+200<_;omega,r.gd⟩
theorem ZaE.depth{k:Nat}{A:Around}(r:ZaE k A):A.depth<recursionLimit:=by have:=r.dp;omega
theorem ZaE.units{k:Nat}{A:Around}(r:ZaE k A):A.units+64<cLine:=by have:=r.un;omega
def ZjF:TA:=fun _ H Q=>Q [] H
def Zji(ta:TE)(tr:TA):TA:=fun σ H Q=>ta σ H fun x H1=>tr σ H1 fun xs H2=>Q (x::xs) H2
section
variable {X:Cx} {e:Expr} {es:List Expr} {te:TE} {t:TA} {pos:Pos}
theorem Zb:PA X [] ZjF:=fun _ _ _ _ H Q I h=>Calls.spliced_nil ⟨[],H,I,.nil,h⟩
theorem Za(ha:PE X e te)(hr:PA X es t)(hs:starEach (e::es) X.env=(false,eval e X.env)::starEach es X.env:=by rfl):PA X (e::es) (Zji te t):=by
 intro pos pins s σ H Q I h
 rw[hs]
 show wpAny _ _ (spliced ((false,eval e X.env)::backTo pos (starEach es X.env))) _ _ s
 refine Calls.spliced_cons (thn (ha pins s σ H _ I h) ?_)
 rintro u s1 ⟨x,H1,I1,r1,q1⟩
 exact thn (hr pos pins s1 σ H1 _ I1 q1) fun us s2 ⟨xs,H2,I2,r2,q2⟩=>⟨x::xs,H2,I2,.cons r1 r2,q2⟩
def ZjW(t:TA):TE:=fun σ H Q=>t σ H fun xs H1=>xs.length≤sizeLine∧∀p,H1 p=none→Q (.ref p) (upd H1 p (.tup xs))
def ZjB(t:TA):TE:=fun σ H Q=>t σ H fun xs H1=>xs.length≤sizeLine∧∀p,H1 p=none→Q (.ref p) (upd H1 p (.lst xs))
theorem Z9{x1}(h:PA X es t):PE X (.Tuple es x1 pos) (ZjW t):=by
 intro pins s σ H Q I hq
 refine wpAny_Tuple_spliced (thn (h pos pins s σ H _ I hq) fun us s1 ⟨xs,H1,I1,r,z,q⟩=>⟨by rw[← r.length];exact z,?_⟩)
 have hf:H1 s1.heap.objs.size=none:=I1.hok.fresh (Ql _)
 refine⟨.ref s1.heap.objs.size,upd H1 s1.heap.objs.size (.tup xs),I1.laid (t':=s1.toks) (fun b u e=>Qc _ e) (Ql _) ?_,rfl,q _ hf⟩
 exact⟨z,us,r,⟨_,Qr _ rfl,rfl,_,rfl⟩⟩
theorem Zam(h:PA X es t):PE X (.List es pos) (ZjB t):=by
 intro pins s σ H Q I hq
 refine wpAny_List_spliced (thn (h pos pins s σ H _ I hq) fun us s1 ⟨xs,H1,I1,r,z,q⟩=>⟨by rw[← r.length];exact z,?_⟩)
 have hf:H1 s1.heap.objs.size=none:=I1.hok.fresh (Ql _)
 refine⟨.ref s1.heap.objs.size,upd H1 s1.heap.objs.size (.lst xs),I1.laid (t':=s1.toks) (fun b u e=>Qc _ e) (Ql _) ?_,rfl,q _ hf⟩
 exact⟨z,us,0,r,Qr _ rfl⟩
end
abbrev Sp:=List V→Hp→VK→XK→Prop
abbrev CXT:=List Env→Hp→Shared→XK→Value→Shared→Prop
structure ZgS (P:Program) (w:World) (K:PySem.W.Frag) (mg:Str→Option Value) (base:Heap) (A:Around) (outer:List Env) (s:Shared) (H:Hp):Prop where
 frames:A.frames=some outer
 mod:Mod K mg base
 bs:∀b o,base.get? b=some o→s.heap.get? b=some o∧H b=none
 bsz:base.objs.size≤s.heap.objs.size
 funs:s.heap.FunFrames base outer
 frf:∀b∈frs outer,H b=none
 hok:HOk P w H s.heap
 bare:AllBare s.gens
def CE(outer:List Env)(P:Program)(w:World)(H:Hp)(s:Shared)(Q:VK)(u:Value)(s':Shared):Prop :=
 ∃v H',s'.os=s.os∧AllBare s'.gens∧Un (frs outer) [] H H' s.heap s'.heap∧HOk P w H' s'.heap∧Zo v u∧Q v H'
def CR(CX:CXT)(outer:List Env)(P:Program)(w:World)(H:Hp)(s:Shared)(Q:VK)(E:XK)(r:Result)(s':Shared):Prop :=
 match r with
 | .ok (.ret u)=>CE outer P w H s Q u s'
 | .ok _=>False
 | .error e=>CX outer H s E e s'
structure ZbP (P:Program) (w:World) (K:PySem.W.Frag) (mg:Str→Option Value) (base:Heap) (CX:CXT) (k:Nat) (f:Addr) (fd:FuncData) (ps:List Str) (sp:Sp):Prop where
 len:∀vs H Q E,sp vs H Q E→vs.length=ps.length
 run:∀ (A:Around) (outer:List Env) (s:Shared) (H:Hp) (args:Args) (us:List Value) (vs:List V) (Q:VK) (E:XK),ZaE k A→ZgS P w K mg base A outer s H→BindsTo s fd args (ps.zip us)→Zm vs us→sp vs H Q E →
  codeAny (model P w) A (.call (.ref f) args) (CR CX outer P w H s Q E) s
section
variable {X:Cx} {pins:List (Addr×Obj)} {σ:St} {H:Hp} {s s':Shared}
theorem Inv.env0(I:Inv X pins σ H s):ZgS X.prog X.w X.K X.mg X.base X.A X.stack s H :=
 ⟨I.ok.frames,I.ok.mod,I.bs,QM I.ok.bsz I.sz,I.stack,I.stkFree,I.hok,I.bare⟩
theorem Inv.after{Q:VK}{u:Value}(I:Inv X pins σ H s)(h:CE X.stack X.prog X.w H s Q u s'):EP X pins σ Q u s':=by
 obtain⟨v,H',os,bare,un,hok,r,q⟩:=h
 obtain⟨hh,g,d,t,os'⟩:=s'
 obtain rfl:os'=s.os:=os
 exact⟨v,H',I.call (h':=hh) (g':=g) (d':=d) (t':=t) (ch:=[]) un hok bare (fun b z=>absurd z (by simp)),r,q⟩
end
def Zht(sp:Sp)(dvs:List V)(E:XK)(t:TA):TE:=fun σ H Q=>t σ H fun vs H1=>sp (vs++dvs) H1 Q E
def tMeth(C:Addr)(m:Str)(sp:Sp)(dvs:List V)(E:XK)(ta:TE)(t:TA):TE:=fun σ H Q=>ta σ H fun x H1=>∃a dx fs,x=.ref a∧H1 a=some (.ins C dx fs)∧fs.lookup m=none ∧
 t σ H1 fun vs H2=>sp (x::(vs++dvs)) H2 Q E
def tMake(C:Addr)(sp:Sp)(dvs:List V)(E:XK)(t:TA):TE:=fun σ H Q=>t σ H fun vs H1=>∀x dx,H1 x=none→H1 dx=none→dx≠x →
 sp (.ref x::(vs++dvs)) (upd (upd H1 dx (.own x)) x (.ins C dx [])) (fun v H2=>v=.non∧Q (.ref x) H2) E
def Za6(K:PySem.W.Frag)(fd:FuncData)(ps:List Str)(ds:List Value):Prop :=
 ∀ (s:Shared) (us:List Value),K.In s.heap→(us++ds).length=ps.length→BindsTo s fd ⟨us,[]⟩ (ps.zip (us++ds))
theorem Za6.all{K:PySem.W.Frag}{fd:FuncData}{ps:List Str}(h:∀us:List Value,us.length=ps.length→bindArgs fd ⟨us,[]⟩=pure (ps.zip us)):Za6 K fd ps []:=fun s us _ hl=>by
 rw[List.append_nil]at hl ⊢
 exact .of_eq (h us hl)
def Zee(CX:CXT)(X:Cx)(E:XK):Prop:=∀ (pins:List (Addr×Obj)) (σ:St) (H:Hp) (s:Shared) (e:Value) (s':Shared),Inv X pins σ H s→CX X.stack H s E e s'→X.xe e s'
section
variable {X:Cx} {CX:CXT} {k:Nat} {f C:Addr} {fd:FuncData} {ps:List Str} {sp:Sp} {dvs:List V} {ds:List Value} {E:XK} {x m:Str} {p pos apos:Pos} {e o:Expr} {es:List Expr} {ta:TE} {t:TA}
theorem ZhE{pins:List (Addr×Obj)}{σ:St}{H:Hp}{s:Shared}{Q:VK}{us:List Value}{vs:List V}(F:ZbP X.prog X.w X.K X.mg X.base CX k f fd ps sp)(hr:ZaE k X.A)(hb:Za6 X.K fd ps ds)(hd:Zm dvs ds)(hx:Zee CX X E)
  (I:Inv X pins σ H s) (r:Zm vs us) (h:sp (vs++dvs) H Q E):wpAny (model X.prog X.w) X.A (call (.ref f) us) (EP X pins σ Q) X.xe s:=by
 have r2:Zm (vs++dvs) (us++ds):=r.append hd
 have hl:(us++ds).length=ps.length:=by rw[← r2.length];exact F.len _ _ _ _ h
 refine wpAny_call (codeAny_mono (F.run X.A X.stack s H ⟨us,[]⟩ (us++ds) (vs++dvs) Q E hr I.env0 (hb s us I.kIn hl) r2 h) fun r s' hq=>?_)
 cases r with
 | error e=>exact hx pins σ H s e s' I hq
 | ok fl =>
  cases fl with
  | ret u=>exact I.after hq
  | next=>exact False.elim hq
  | brk=>exact False.elim hq
  | cont=>exact False.elim hq
theorem Zgz(F:ZbP X.prog X.w X.K X.mg X.base CX k f fd ps sp)(hr:ZaE k X.A)(hg:Gl X x)(hm:X.mg x=some (.ref f))(hk:PySem.W.keepIn X.K (.ref f)=true)(hb:Za6 X.K fd ps ds)(hd:Zm dvs ds)(hx:Zee CX X E)
  (ha:PA X (e::es) t) (hdb:(x == ("__debug__" : Str))=false:=by decide) (he:starEach (e::es) X.env=(false,eval e X.env)::starEach es X.env:=by rfl) (hpl:(backTo pos (starEach es X.env)).any (·.1)=false:=by rfl) :
  PE X (.Call (.Name x p) (e::es) [] pos) (Zht sp dvs E t):=by
 intro pins s σ H Q I h
 refine wpAny_Call_Name_kw (Zhf I hg hm ?_ hdb)
 refine PySem.W.callWith_K (h₀:=X.base) I.ok.mod.kin hk (thn (ha pos pins s σ H _ I h) fun us s1 ⟨vs,H1,I1,r,q⟩=>⟨I1.kIn,?_⟩) he hpl
 exact ZhE F hr hb hd hx I1 r q
structure Mk (K:PySem.W.Frag) (C f:Addr):Prop where
 makes:PySem.W.makesIn K C=true
 init:PySem.W.findIn K (.ref C) "__init__" = some (some (.ref f))
 fn:PySem.W.isFn K (.ref f)=true
 kp:PySem.W.keepIn K (.ref C)=true
end
def PK(X:Cx)(kws:List Keyword)(t:TA):Prop :=
 ∀ (pos:Pos) (pins:List (Addr×Obj)) (s:Shared) (σ:St) (H:Hp) (Q:List V→Hp→Prop),Inv X pins σ H s→t σ H Q→wpAny (model X.prog X.w) X.A (evalAll ((backToKw pos (keywordEach kws X.env)).map (·.2))) (AP X pins σ Q) X.xe s
section
variable {X:Cx} {CX:CXT} {k:Nat} {f C:Addr} {fd:FuncData} {ps ks:List Str} {sp:Sp} {E:XK} {x m:Str} {p pos apos kpos:Pos} {e o:Expr} {es:List Expr} {kws:List Keyword} {te ta:TE} {t tk:TA} {nm:Option Str}
structure KBinds (K:PySem.W.Frag) (fd:FuncData) (ps ks:List Str) (g:List Value→List Value→List Value) (gV:List V→List V→List V):Prop where
 to:∀ (s:Shared) (us ws:List Value),K.In s.heap→(g us ws).length=ps.length→BindsTo s fd ⟨us,ks.zip ws⟩ (ps.zip (g us ws))
 rel:∀ {vs:List V} {us:List Value} {zs:List V} {ws:List Value},Zm vs us→Zm zs ws→Zm (gV vs zs) (g us ws)
def tCallK(sp:Sp)(gV:List V→List V→List V)(E:XK)(t tk:TA):TE:=fun σ H Q=>t σ H fun vs H1=>tk σ H1 fun zs H2=>sp (gV vs zs) H2 Q E
variable {g:List Value→List Value→List Value} {gV:List V→List V→List V}
end
structure ZB (N P:List Str) (sc:Scope):Prop where
 kind:sc.kind=.function
 co:sc.isCoroutine=false
 gen:sc.isGenerator=false
 nd:N.Nodup
 pre:N.take P.length=P
 par:∀x∈P,sc.names.lookup x=some .local∨sc.names.lookup x=some .cell
 nofree:∀y∈sc.names,y.2≠.free
theorem ZcA{kindOf:Str→Option NameKind}{x:Str}:∀ {binds:List (Str×Value)} {m:Str→Option Value},(∀v,(x,v) ∉ binds)→bindL kindOf binds m x=m x
 | [],_,_=>rfl
 | (n,v)::r,m,h=>by
  unfold bindL
  rw[ZcA fun w hw=>h w (Qg _ hw)]
  split
  ·have:x≠n:=by rintro rfl;exact h v Qq
   simp[this]
  ·rfl
theorem ZcE{kindOf:Str→Option NameKind}{x:Str}:∀ {binds:List (Str×Value)} {m:Str→Option Value},(∀v,(x,v) ∉ binds)→bindC kindOf binds m x=m x
 | [],_,_=>rfl
 | (n,v)::r,m,h=>by
  unfold bindC
  rw[ZcE fun w hw=>h w (Qg _ hw)]
  split
  ·rfl
  ·have:x≠n:=by rintro rfl;exact h v Qq
   simp[this]
theorem ZcM{kindOf:Str→Option NameKind}{x:Str}{v:Value}:∀ {P:List Str} {vs:List Value} {i:Nat} {m:Str→Option Value},P.Nodup→P[i]? = some x→vs[i]? = some v→kindOf x=some .local →
  bindL kindOf (P.zip vs) m x=some v
 | [],_,_,_,_,h,_,_=>by simp at h
 | _::_,[],_,_,_,_,h,_=>by simp at h
 | p::P,w::vs,0,m,nd,h1,h2,hk=>by
  simp at h1 h2;subst h1;subst h2
  show bindL kindOf ((p,w)::P.zip vs) m p=_
  unfold bindL
  rw[ZcA fun v hv=>(Q0.mp nd).1 (List.of_mem_zip hv).1,if_pos hk]
  simp
 | p::P,w::vs,i+1,m,nd,h1,h2,hk=>by
  show bindL kindOf ((p,w)::P.zip vs) m x=_
  unfold bindL
  exact ZcM (i:=i) (Q0.mp nd).2 (by simpa using h1) (by simpa using h2) hk
theorem ZcK{kindOf:Str→Option NameKind}{x:Str}{v:Value}:∀ {P:List Str} {vs:List Value} {i:Nat} {m:Str→Option Value},P.Nodup→P[i]? = some x→vs[i]? = some v→kindOf x≠some .local →
  bindC kindOf (P.zip vs) m x=some v
 | [],_,_,_,_,h,_,_=>by simp at h
 | _::_,[],_,_,_,_,h,_=>by simp at h
 | p::P,w::vs,0,m,nd,h1,h2,hk=>by
  simp at h1 h2;subst h1;subst h2
  show bindC kindOf ((p,w)::P.zip vs) m p=_
  unfold bindC
  rw[ZcE fun v hv=>(Q0.mp nd).1 (List.of_mem_zip hv).1,if_neg hk]
  simp
 | p::P,w::vs,i+1,m,nd,h1,h2,hk=>by
  show bindC kindOf ((p,w)::P.zip vs) m x=_
  unfold bindC
  exact ZcK (i:=i) (Q0.mp nd).2 (by simpa using h1) (by simpa using h2) hk
def ZbA(N:List Str)(vs:List V):St:=vs.map some++List.replicate (N.length-vs.length) none
def Zd3(CX:CXT)(P:Program)(w:World)(K:PySem.W.Frag)(mg:Str→Option Value)(base:Heap)(N:List Str)(qual:Str)(scope:Scope)(f:Addr)(cd:Value)(A:Around)(outer:List Env)(s:Shared)(H:Hp)(E:XK):Cx where
 prog:=P
 w:=w
 K:=K
 mg:=mg
 base:=base
 A:=A.deeper (envOfC qual scope s.heap.objs.size f cd)
 N:=N
 s₀:=s
 H₀:=H
 env:=envOfC qual scope s.heap.objs.size f cd
 outer:=outer
 stack:=envOfC qual scope s.heap.objs.size f cd::outer
 ex:=[]
 calm:=true
 fn:=fun _=>true
 pn:=[]
 xe:=fun e s'=>wpAny (model P w) (A.deeper (envOfC qual scope s.heap.objs.size f cd)) (leaving (envOfC qual scope s.heap.objs.size f cd) e) (fun _ s''=>CX outer H s E e s'') (fun e' s''=>CX outer H s E e' s'') s'
theorem Zdy{sc:Scope}{n:Nat}{x:Str}(h:sc.names.lookup x=some .cell):∃c,(cellsFrom n sc.names []).lookup x=some c:=by
 have q:=PySem.W.cellsFrom_some sc.names n [] (.inl h)
 exact Option.isSome_iff_exists.mp q
theorem Ze6{CX:CXT}{P:Program}{w:World}{K:PySem.W.Frag}{mg:Str→Option Value}{base:Heap}{N ps:List Str}{qual:Str}{scope:Scope}{f:Addr}{cd:Value}{A:Around}{outer:List Env}{s s1:Shared}{H:Hp}{E:XK}{us:List Value}{vs:List V}
  (S:ZB N ps scope) (hd:A.handled=none) (e0:ZgS P w K mg base A outer s H) (hl:vs.length=ps.length) (r:Zm vs us)
  (x:InCallC s s.heap.objs.size (bindL (envOfC qual scope s.heap.objs.size f cd).kindOf (ps.zip us) fun _=>none) (cellsFrom (s.heap.objs.size+1) scope.names []) (bindC (envOfC qual scope s.heap.objs.size f cd).kindOf (ps.zip us) fun _=>none) s1) :
  Inv (Zd3 CX P w K mg base N qual scope f cd A outer s H E) [] (ZbA N vs) H s1:=by
 have hpl:ps.length≤N.length:=by have:=congrArg List.length S.pre;rw[QB]at this;omega
 obtain⟨h1,tk,rfl,hk⟩:=x.done
 have noA:∀b:Addr,b ∉ (Zd3 CX P w K mg base N qual scope f cd A outer s H E).ex:=fun b z=>absurd (show b∈([]:List Addr) from z) (by simp)
 refine⟨⟨e0.mod,S.kind,rfl,rfl,Ql _,fun y z c h1 h2=>?_,fun y hy=>?_,fun y c _ h=>?_,fun _=>hd,Around.frames_deeper e0.frames,.inr ⟨rfl,rfl⟩,fun b z=>absurd z (noA b),e0.bs,e0.bsz,fun b _ _=>noA b,fun b z=>absurd z (noA b),e0.funs,e0.frf⟩,
  rfl,e0.bare,Un.kept hk,⟨_,x.toInCall.ns,fun i y v h1 h2 h3=>?_⟩,fun y c h=>⟨_,x.cell y c h⟩,e0.hok.fresh (Ql _),fun y c h=>?_,fun p hp=>absurd (show p∈([]:List (Addr×Obj)) from hp) (by simp),e0.hok.kept hk,?_⟩
 ·exact name_of_addr x.apart (Q1 h1) (Q1 h2)
 ·have hy:scope.names.lookup y=some .cell∨scope.names.lookup y=some .free:=hy
  rcases hy with hy|hy
  ·exact Zdy hy
  ·exact absurd rfl (S.nofree _ (Q1 hy))
 ·exact Nat.le_of_lt (x.above y c (Q1 h))
 ·have hi:i<vs.length:=by
   unfold ZbA at h2
   by_cases hi:i<vs.length
   ·exact hi
   ·rw[QV (by simpa using hi)]at h2
    rw[List.getElem?_replicate]at h2
    split at h2<;>cases h2
  have ha:vs[i]? = some v:=by
   unfold ZbA at h2
   rw[Qao (by simpa using hi),Qu]at h2
   cases e:vs[i]? with
   | none=>rw[e]at h2;cases h2
   | some a=>rw[e]at h2;cases h2;rfl
  obtain⟨u,hu,rv⟩:=r.get ha
  have hp:ps[i]? = some y:=by
   rw[← S.pre,List.getElem?_take_of_lt (by omega)];exact h1
  have ndP:ps.Nodup:=by rw[← S.pre];exact S.nd.sublist (List.take_sublist _ _)
  refine⟨u,rv,?_⟩
  rcases S.par y (QR hp) with k|k
  ·exact .inl ⟨k,ZcM ndP hp hu k⟩
  ·obtain⟨c,e⟩:=Zdy (n:=s.heap.objs.size+1) k
   refine .inr ⟨.inl k,c,e,?_⟩
   have q:=x.cell y c e
   rw[ZcK ndP hp hu (by show scope.names.lookup y≠_;rw[k];decide)]at q
   exact q
 ·exact e0.hok.fresh (Nat.le_of_lt (x.above y c (Q1 h)))
 ·unfold ZbA
  show _=N.length
  rw[Qd,Qb,Qah]
  omega
theorem Zjd{CX:CXT}{P:Program}{w:World}{K:PySem.W.Frag}{mg:Str→Option Value}{base:Heap}{k:Nat}{f:Addr}{name qual:Str}{params:Arguments}{body:List Stmt}{scope:Scope}{dV kV doc pm cdv ct oc:Value}{an od:Option Addr}
  {osl:Array (Option Value)} {N ps:List Str} {sp:Sp} (lk:K.lookup f=some ⟨oc,od,.func (PySem.W.fnOf name qual params body scope dV kV doc pm an cdv ct),osl⟩) (hcd:PySem.W.codeIn K cdv qual=true) (S:ZB N ps scope)
  (len:∀vs H Q E,sp vs H Q E→vs.length=ps.length)
  (hbody:∀ (A:Around) (outer:List Env) (s:Shared) (H:Hp) (vs:List V) (Q:VK) (E:XK),ZaE k (A.deeper (envOfC qual scope s.heap.objs.size f cdv))→sp vs H Q E →
   ∃t,PSs (Zd3 CX P w K mg base N qual scope f cdv A outer s H E) body t∧t { nx:=fun _ H'=>Q .non H',rt:=Q } (ZbA N vs) H) :
  ZbP P w K mg base CX (k+1) f (PySem.W.fnOf name qual params body scope dV kV doc pm an cdv ct) ps sp:=by
 refine⟨len,fun A outer s H args us vs Q E hr e0 hb r hsp=>?_⟩
 have hl:=len _ _ _ _ hsp
 have KX:K.In s.heap:=e0.mod.kin.keeps fun b o e=>(e0.bs b o e).1
 have lim:s.heap.NoLimit:=e0.mod.nolimit.keeps fun b o e=>(e0.bs b o e).1
 have hkind:∀y∈ps.zip us,scope.names.lookup y.1=some .local∨(scope.names.lookup y.1=some .cell∧((cellsFrom (s.heap.objs.size+1) scope.names []).lookup y.1).isSome=true):=fun ⟨n,v⟩ hy=>by
  rcases S.par n (List.of_mem_zip hy).1 with q|q
  ·exact .inl q
  ·exact .inr ⟨q,PySem.W.cellsFrom_some _ _ _ (.inl q)⟩
 refine codeAny_call_function hr.depth (KX _ _ lk) rfl S.co S.gen rfl (PySem.W.codeRec_of KX hcd) (hb _ _ _ _ ?_)
 refine wpAny_newFunctionEnv_cells S.kind hkind fun env he s1 x=>?_
 subst he
 refine⟨lim.keeps x.toInCall.keep,codeAny_func ?_⟩
 obtain⟨t,ht,hq⟩:=hbody A outer s H vs Q E (hr.deeper _) hsp
 have I:Inv (Zd3 CX P w K mg base N qual scope f cdv A outer s H E) [] (ZbA N vs) H s1:=Ze6 S hr.hd e0 hl r x
 refine wpAny_mono (ht [] s1 (ZbA N vs) H _ I hq) (fun fl s' hs=>?_) fun e s' hs=>hs
 have fin:∀ {σ':St} {H':Hp} {v:V} {u:Value},Inv (Zd3 CX P w K mg base N qual scope f cdv A outer s H E) [] σ' H' s'→Zo v u→Q v H'→CE outer P w H s Q u s' :=
  fun {σ' H' v u} J rv q=>⟨v,H',J.os,J.bare,J.base,J.hok,rv,q⟩
 cases fl with
 | ret u =>
  obtain⟨v,σ',H',J,rv,q⟩:=hs
  exact fin J rv q
 | next =>
  obtain⟨σ',H',J,q⟩:=hs
  exact fin (v:=V.non) (u:=Value.none) J rfl q
 | brk =>
  obtain⟨_,_,_,q⟩:=hs
  exact False.elim q
 | cont =>
  obtain⟨_,_,_,q⟩:=hs
  exact False.elim q
section
variable {X:Cx} {x:Str} {p pos:Pos} {e:Expr} {es:List Expr} {t:TA} {id T:String} {r:List V→Hp→VK→Prop}
def tCB(r:List V→Hp→VK→Prop)(t:TA):TE:=fun σ H Q=>t σ H fun vs H1=>r vs H1 Q
theorem Zj(hc:ZT X (.builtin id) r)(hg:Gl X x)(hm:X.mg x=none)(hv:bootBuiltins x=some (.builtin id))(ha:PA X (e::es) t)(hn:x ≠ "__name__":=by decide)(hdb:(x == ("__debug__" : Str))=false:=by decide)
  (he:starEach (e::es) X.env=(false,eval e X.env)::starEach es X.env:=by rfl) (hpl:(backTo pos (starEach es X.env)).any (·.1)=false:=by rfl):PE X (.Call (.Name x p) (e::es) [] pos) (tCB r t):=by
 intro pins s σ H Q I h
 refine wpAny_Call_Name_kw (Zbk I hg hm hv ?_ hn hdb)
 exact PyProof.Rows.callWith_builtin1 (thn (ha pos pins s σ H _ I h) fun us s1 ⟨vs,H1,I1,r1,q1⟩=>hc pins s1 σ H1 vs us Q I1 r1 q1) he hpl
theorem ZaI(hc:ZT X (.type T) r)(hg:Gl X x)(hm:X.mg x=none)(hv:bootBuiltins x=some (.type T))(ha:PA X (e::es) t)(hn:x ≠ "__name__":=by decide)(hdb:(x == ("__debug__" : Str))=false:=by decide)
  (he:starEach (e::es) X.env=(false,eval e X.env)::starEach es X.env:=by rfl) (hpl:(backTo pos (starEach es X.env)).any (·.1)=false:=by rfl):PE X (.Call (.Name x p) (e::es) [] pos) (tCB r t):=by
 intro pins s σ H Q I h
 refine wpAny_Call_Name_kw (Zbk I hg hm hv ?_ hn hdb)
 exact QT (thn (ha pos pins s σ H _ I h) fun us s1 ⟨vs,H1,I1,r1,q1⟩=>hc pins s1 σ H1 vs us Q I1 r1 q1) he hpl
end
end L2
namespace HT
open PySem PyProof.Rows
def lexLt:List Int→List Int→Bool
 | [],[]=>false
 | [],_::_=>true
 | _::_,[]=>false
 | x::xs,y::ys=>if x=y then lexLt xs ys else decide (x<y)
theorem Zip(x y:Int)(xs ys:List Int):lexLt (x::xs) (y::ys)=if x=y then lexLt xs ys else decide (x<y):=rfl
theorem Zgx:lexLt [] []=false:=rfl
theorem ZfE(y:Int)(ys:List Int):lexLt [] (y::ys)=true:=rfl
theorem Zgw(x:Int)(xs:List Int):lexLt (x::xs) []=false:=rfl
section
open PySem.SeqAt
open PySem.AutoSeq1 (wpAny_loadPart')
open PySem.MeetsSeq PySem.MeetsSeq2 PySem.MeetsSeq3
end
section
variable {prog:Program} {w:World} {A:Around} {E:Value→Shared→Prop} {s:Shared}
def sIx(n d:Nat):Option Int→Nat
 | none=>d
 | some v=>if v<0 then (v+(n:Int)).toNat else min v.toNat n
theorem ZiH(n d:Nat):sIx n d none=d:=rfl
end
end HT
namespace L2
open PySem PySem.Spec PyProof.Rows
abbrev TO:=St→Hp→(Option Int→Hp→Prop)→Prop
def PO(X:Cx)(e:Option Expr)(t:TO):Prop :=
 ∀ (pins:List (Addr×Obj)) (s:Shared) (σ:St) (H:Hp) (Q:Option Int→Hp→Prop),Inv X pins σ H s→t σ H Q →
  wpAny (model X.prog X.w) X.A (evalPart e X.env) (fun u s'=>∃o H',Inv X pins σ H' s'∧IsPart u o∧Q o H') X.xe s
def ZgA:TO:=fun _ H Q=>Q none H
def ZiO(t:TE):TO:=fun σ H Q=>t σ H fun x H1=>∃i,x=.int i∧Q (some i) H1
section
variable {X:Cx} {e:Expr} {te:TE} {lo hi:Option Expr} {tl th:TO} {pos p2:Pos}
theorem Zeu:PO X none ZgA:=by
 intro pins s σ H Q I h
 rw[evalPart_none]
 exact wpAny_pure ⟨none,H,I,.none,h⟩
theorem Zhi(h:PE X e te):PO X (some e) (ZiO te):=by
 intro pins s σ H Q I hw
 rw[evalPart_some]
 refine thn (h pins s σ H _ I hw) ?_
 rintro u s1 ⟨x,H1,I1,r1,q1⟩
 obtain⟨i,rfl,q⟩:=q1
 obtain⟨t,rfl⟩:=r1
 exact⟨some i,H1,I1,.int i t,q⟩
def SlR(X:Cx)(r:V→Option Int→Option Int→Hp→VK→Prop):Prop :=
 ∀ (pins:List (Addr×Obj)) (s:Shared) (σ:St) (H:Hp) (x:V) (v vl vu:Value) (lo hi:Option Int) (sl:Addr) (Q:VK),Inv X pins σ H s→Zo x v→s.heap.IsSliceOf sl vl vu .none→IsPart vl lo→IsPart vu hi→r x lo hi H Q →
  ∃T id,typeLookup (.type T) "__getitem__" = pure (some (.builtin id))∧s.TypeIs v T∧wpAny (model X.prog X.w) X.A (getItem v (.ref sl)) (EP X pins σ Q) X.xe s
def tSl(r:V→Option Int→Option Int→Hp→VK→Prop)(te:TE)(tl th:TO):TE:=fun σ H Q=>te σ H fun x H1=>tl σ H1 fun l H2=>th σ H2 fun u H3=>r x l u H3 Q
def Zi2(xs:List V)(lo hi:Option Int):List V:=(xs.drop (HT.sIx xs.length 0 lo)).take (HT.sIx xs.length xs.length hi-HT.sIx xs.length 0 lo)
def rSlT(K:PySem.W.Frag):V→Option Int→Option Int→Hp→VK→Prop:=fun x lo hi H Q=>∃a xs,x=.ref a∧SqT K H a xs ∧
 ¬ (HT.sIx xs.length 0 lo=0∧HT.sIx xs.length xs.length hi=xs.length)∧∀p,H p=none→Q (.ref p) (upd H p (.tup (Zi2 xs lo hi)))
def rLtT(K:PySem.W.Frag):R2:=fun x y H Q=>∃a b ns ms,x=.ref a∧y=.ref b∧SqT K H a (ns.map V.int)∧SqT K H b (ms.map V.int)∧Q (.bl (HT.lexLt ns ms)) H
def rCatT(K:PySem.W.Frag):R2:=fun x y H Q=>∃a b xs ys,x=.ref a∧y=.ref b∧SqT K H a xs∧SqT K H b ys∧xs≠[]∧xs.length+ys.length≤sizeLine ∧
 (ys=[]→Q (.ref a) H)∧(ys≠[]→∀p,H p=none→Q (.ref p) (upd H p (.tup (xs++ys))))
end
def ixN(n:Nat)(i:Int):Option Nat:=if 0≤i then (if i<n then some i.toNat else none) else if -(n:Int)≤i then some (i+n).toNat else none
def atI{α:Type}(xs:List α)(i:Int):Option α:=(ixN xs.length i).bind fun j=>xs[j]?
theorem Zes{n:Nat}{i:Int}{j:Nat}(h:ixN n i=some j):seqIndex? i n=some j∧j<n ∧ -(n:Int)≤i∧i<n:=by
 unfold ixN at h
 by_cases h0:0≤i
 ·rw[if_pos h0]at h
  by_cases h1:i<n
  ·rw[if_pos h1]at h
   have e:i.toNat=j:=Qp h
   exact⟨by rw[seqIndex_of h0 h1,e],by omega,by omega,h1⟩
  ·rw[if_neg h1]at h;cases h
 ·rw[if_neg h0]at h
  by_cases h1:-(n:Int)≤i
  ·rw[if_pos h1]at h
   have e:(i+n).toNat=j:=Qp h
   exact⟨by rw[seqIndex_neg (by omega) h1,e],by omega,h1,by omega⟩
  ·rw[if_neg h1]at h;cases h
theorem ZeA{α:Type}{xs:List α}{i:Int}{v:α}(h:atI xs i=some v):∃j,seqIndex? i xs.length=some j∧xs[j]? = some v∧j<xs.length ∧ -(xs.length:Int)≤i∧i<xs.length:=by
 unfold atI at h
 cases e:ixN xs.length i with
 | none=>rw[e]at h;cases h
 | some j =>
  rw[e]at h
  obtain⟨h1,h2,h3,h4⟩:=Zes e
  exact⟨j,h1,h,h2,h3,h4⟩
theorem ZaQ{α:Type}{xs:List α}{j:Nat}{v:α}(h:xs[j]? = some v):atI xs (j:Int)=some v:=by
 have hj:j<xs.length:=(Qj.mp h).1
 have e:ixN xs.length (j:Int)=some j:=by
  unfold ixN
  rw[if_pos (by omega),if_pos (by omega)];simp
 unfold atI;rw[e];exact h
def ZgJ(b:Expr):Prop:=∀o i,subscripted b false o i=operate [o,i] (getItem o i)
def IxR(X:Cx)(r:R2):Prop :=
 ∀ (value slice:Expr) (pins:List (Addr×Obj)) (s:Shared) (σ:St) (H:Hp) (x y:V) (v u:Value) (Q:VK),Inv X pins σ H s→Zo x v→Zo y u→r x y H Q →
  subscripted slice false v u=operate [v,u] (getItem v u)→wpAny (model X.prog X.w) X.A (subscriptTail value slice v u) (EP X pins σ Q) X.xe s
def MtR(X:Cx)(id:String)(r:V→List V→Hp→VK→Prop):Prop :=
 ∀ (pins:List (Addr×Obj)) (s:Shared) (σ:St) (H:Hp) (x:V) (xs:List V) (v:Value) (us:List Value) (Q:VK),Inv X pins σ H s→Zo x v→Zm xs us→r x xs H Q →
  wpAny (model X.prog X.w) X.A (call (.builtin id) (v::us)) (EP X pins σ Q) X.xe s
section
variable {X:Cx} {a b:Expr} {ta tb:TE} {pos:Pos}
theorem ZW{r:R2}(hr:IxR X r)(ha:PE X a ta)(hb:PE X b tb)(hs:ZgJ b):PE X (.Subscript a b pos) (tOp r ta tb):=by
 intro pins s σ H Q I h
 exact Subscript_ (Ziu ha hb I h fun v u s2 x y H2 I2 rx ry q=>hr a b pins s2 σ H2 x y v u Q I2 rx ry q (hs _ _))
def Ziw(K:PySem.W.Frag):R2:=fun x y H Q=>∃p xs i v,x=.ref p∧y=.int i∧SqL K H p xs∧atI xs i=some v∧Q v H
def Zjr(K:PySem.W.Frag):R2:=fun x y H Q=>∃p xs i v,x=.ref p∧y=.int i∧SqT K H p xs∧atI xs i=some v∧Q v H
def Zjj:R2:=fun x y H Q=>∃z i c,x=.str z∧y=.int i∧z.length≤sizeLine∧atI z.cps.toList i=some c∧Q (.str ⟨#[c]⟩) H
theorem Zhh:IxR X (Ziw X.K):=by
 intro value slice pins s σ H x y v u Q I rx ry h hs
 obtain⟨p,xs,i,z,rfl,rfl,hq,he,q⟩:=h
 cases rx
 obtain⟨t,rfl⟩:=ry
 obtain⟨its,r,pl,hz⟩:=I.list hq
 obtain⟨j,h1,h2,h3,h4,h5⟩:=ZeA he
 obtain⟨w,ew,rw'⟩:=r.get h2
 have hl:=r.length
 have hn:=ZbZ
 have fin:EP X pins σ Q w s:=⟨z,H,I,rw',q⟩
 by_cases h0:0≤i
 ·have hj:i.toNat=j:=by
   rw[seqIndex_of h0 h5]at h1
   exact Qp h1
  exact item_listR pl.isList h0 (by omega) (by rw[hj];simpa using ew) fin hs
 ·have hj:(i+(its.toArray.size:Int)).toNat=j:=by
   rw[seqIndex_neg (by omega) h4]at h1
   rw[Qk,← hl]
   exact Qp h1
  exact subscriptTail_builtinR (x:=w) pl.isList.typeIs slot_list_getitem.lookup
   (wpAny_getItem_list_neg (Q:=fun r s'=>r=w∧EP X pins σ Q r s') pl.isList (by omega) (by rw[Qk]<;>omega) (by omega) (by rw[hj];simpa using ew) ⟨rfl,fin⟩) hs
theorem Zb1:IxR X Zjj:=by
 intro value slice pins s σ H x y v u Q I rx ry h hs
 obtain⟨z,i,c,rfl,rfl,hz,he,q⟩:=h
 obtain⟨t,rfl⟩:=rx
 obtain⟨t',rfl⟩:=ry
 obtain⟨j,h1,h2,h3,h4,h5⟩:=ZeA he
 have hl:z.cps.toList.length=z.length:=by simp[Str.length]
 rw[hl]at h1 h4 h5
 have hn:=ZbZ
 exact tail_any (typeIs_str s z t) slot_str_getitem.lookup (getItem_str (c:=c) (by
  have e1:decide (i < -(2 ^ 63:Int))=false:=decide_eq_false (by omega)
  have e2:decide (i≥2 ^ 63)=false:=decide_eq_false (by omega)
  rw[e1,e2,Bool.or_false]) (by rw[h1];simpa using h2) ⟨.str ⟨#[c]⟩,H,I.tok _,⟨_,rfl⟩,q⟩) hs
def rIx(K:PySem.W.Frag):R2:=fun x y H Q=>Ziw K x y H Q∨Zjr K x y H Q∨Zjj x y H Q
theorem Zd6(its:List Value)(n j:Nat)(u:Value):Obj.mapSeq (·.setIfInBounds j u) { cls:=.type "list",data:=.seq its.toArray n }={ cls:=.type "list",data:=.seq (its.set j u).toArray n }:=by
 simp[Obj.mapSeq]
theorem Inv.lst{pins:List (Addr×Obj)}{σ:St}{H:Hp}{s:Shared}{p:Addr}{xs:List V}(I:Inv X pins σ H s)(h:H p=some (.lst xs)) :
  ∃ (its:List Value) (n:Nat),Zm xs its∧s.heap.get? p=some { cls:=.type "list",data:=.seq its.toArray n }∧xs.length≤sizeLine:=by
 obtain⟨z,its,n,r,e⟩:=I.hok p _ h
 exact⟨its,n,r,e,z⟩
theorem Inv.lstUpd{pins:List (Addr×Obj)}{σ:St}{H:Hp}{s:Shared}{p:Addr}{xs ys:List V}{its its':List Value}{n n':Nat}{f:Obj→Obj}(I:Inv X pins σ H s)(h:H p=some (.lst xs))
  (ho:s.heap.get? p=some { cls:=.type "list",data:=.seq its.toArray n }) (hf:f { cls:=.type "list",data:=.seq its.toArray n }={ cls:=.type "list",data:=.seq its'.toArray n' }) (r:Zm ys its') (hz:ys.length≤sizeLine) (t:Nat) :
  Inv X pins σ (upd H p (.lst ys)) { s with heap:=s.heap.update p f,toks:=t }:=by
 have e:(s.heap.update p f).get? p=some { cls:=.type "list",data:=.seq its'.toArray n' }:=by
  rw[Heap.get?_update_self f ho (by rw[hf]<;>rfl),hf]
 refine I.write (x:=p) (e:=p) (by rw[h];trivial) (.inl rfl) (fun b u hb q=>(Heap.get?_update_other _ _ (Ne.symm hb)).trans q) ⟨_,e⟩ ?_
 exact⟨hz,its',n',r,e⟩
def Zjb:V→V→V→Hp→(Hp→Prop)→Prop:=fun o i v H Q=>∃p xs k j,o=.ref p∧i=.int k∧H p=some (.lst xs)∧ixN xs.length k=some j∧Q (upd H p (.lst (xs.set j v)))
theorem Zdv:Zjc X Zjb:=by
 intro pins s σ H o i v ov iv u Q I ro ri rv h
 obtain⟨p,xs,k,j,rfl,rfl,hp,hj,q⟩:=h
 cases ro
 obtain⟨t,rfl⟩:=ri
 obtain⟨its,n,r,ho,hz⟩:=I.lst hp
 obtain⟨h1,h2,h3,h4⟩:=Zes hj
 have hl:=r.length
 have hn:=ZbZ
 have I':Inv X pins σ (upd H p (.lst (xs.set j v))) { s with heap:=s.heap.update p (Obj.mapSeq (·.setIfInBounds j u)) } :=
  I.lstUpd hp ho (Zd6 its n j u) (r.set rv j) (by rw[List.length_set];exact hz) s.toks
 by_cases h0:0≤k
 ·have hk:k.toNat=j:=by
   rw[seqIndex_of h0 h4]at h1
   exact Qp h1
  exact PySem.W.ki_setAt ho h0 (by omega) (by rw[Qk,← hl];exact h4) (by rw[hk];exact⟨_,I',q⟩)
 ·have hk:(k+(its.toArray.size:Int)).toNat=j:=by
   rw[seqIndex_neg (by omega) h3]at h1
   rw[Qk,← hl]
   exact Qp h1
  exact PySem.W.ki_setBack ho (by omega) (by rw[Qk,← hl];exact h3) (by omega) (by rw[hk];exact⟨_,I',q⟩)
def rSlL(K:PySem.W.Frag):V→Option Int→Option Int→Hp→VK→Prop:=fun x lo hi H Q=>∃a xs,x=.ref a∧SqL K H a xs∧∀p,H p=none→Q (.ref p) (upd H p (.lst (Zi2 xs lo hi)))
def ZhC:V→Bool
 | .non=>true
 | .bl _=>true
 | .int _=>true
 | .str _=>true
 | _=>false
def eqV:V→V→Bool
 | .non,.non=>true
 | .bl a,.bl b=>a == b
 | .bl a,.int b=>(if a then 1 else 0) == b
 | .int a,.bl b=>a == (if b then 1 else 0)
 | .int a,.int b=>a == b
 | .str a,.str b=>a == b
 | _,_=>false
def eqU(x:V)(u:Value):Bool:=match u with
 | .none=>eqV .non x
 | .bool b=>eqV (.bl b) x
 | .int i _=>eqV (.int i) x
 | .str z _=>eqV (.str z) x
 | _=>false
def inV(x:V)(xs:List V):Bool:=xs.any fun y=>eqV y x
def rIn(K:PySem.W.Frag)(neg:Bool):R2:=fun x y H Q=>∃p xs,y=.ref p∧(SqL K H p xs∨SqT K H p xs)∧ZhC x=true∧xs.all ZhC=true∧Q (.bl (if neg then !inV x xs else inV x xs)) H
theorem Zc4:ZT X (.builtin "len") (fun xs H Q=>∃p ys,xs=[.ref p]∧(SqL X.K H p ys∨SqT X.K H p ys)∧Q (.int ys.length) H):=by
 intro pins s σ H xs us Q I r h
 obtain⟨p,ys,rfl,hq,q⟩:=h
 obtain⟨u,rfl,rx⟩:=Zbh r
 cases rx
 have hn:=ZbZ
 rcases hq with hq|hq
 ·obtain⟨its,r',pl,hz⟩:=I.list hq
  have hlen:=r'.length
  exact Calls.call_len_list pl.isList (by simp only[List.size_toArray]<;>omega) ⟨.int ys.length,H,I.tok _,⟨s.toks+1,by rw[Qk,hlen]⟩,q⟩
 ·obtain⟨its,r',pl,hz⟩:=I.tuple hq
  have hlen:=r'.length
  exact len_tuple pl (by simp only[List.size_toArray]<;>omega) ⟨.int ys.length,H,I.tok _,⟨s.toks+1,by rw[Qk,hlen]⟩,q⟩
theorem ZR:ZT X (.builtin "len") (fun xs H Q=>∃z,xs=[.str z]∧z.length≤sizeLine∧Q (.int z.length) H):=by
 intro pins s σ H xs us Q I r h
 obtain⟨z,rfl,hz,q⟩:=h
 obtain⟨u,rfl,t,rfl⟩:=Zbh r
 have hn:=ZbZ
 exact len_str (by omega) ⟨.int z.length,H,I.tok _,⟨_,rfl⟩,q⟩
theorem Zc9:ZT X (.type "list") (fun xs H Q=>∃p ys,xs=[.ref p]∧(SqL X.K H p ys∨SqT X.K H p ys)∧∀l,H l=none→Q (.ref l) (upd H l (.lst ys))):=by
 intro pins s σ H xs us Q I r h
 obtain⟨p,ys,rfl,hq,q⟩:=h
 obtain⟨u,rfl,rx⟩:=Zbh r
 cases rx
 have fin:∀ (its:List Value),Zm ys its→ys.length≤sizeLine→∀ (h':Heap) (c':Nat),(∀b o',s.heap.get? b=some o'→h'.get? b=some o') →
   h'.get? s.heap.objs.size=some { cls:=.type "list",dict:=none,data:=.seq its.toArray c',slots:=#[] }→EP X pins σ Q (.ref s.heap.objs.size) { s with heap:=h' }:=fun its r' hz h' c' kp e =>
  ⟨.ref s.heap.objs.size,_,I.laid (t':=s.toks) kp (Ql _) (show ZN X.prog X.w _ h' _ (.lst ys) from⟨hz,its,c',r',e⟩),rfl,q _ (I.hok.fresh (Ql _))⟩
 rcases hq with hq|hq
 ·obtain⟨its,r',pl,hz⟩:=I.list hq
  have hlen:=r'.length
  obtain⟨o,ho,hc,n,hd⟩:=pl.isList
  exact call_list_seq p (.inl rfl) ho hc hd (fun h' c' kp e=>fin its r' hz h' c' kp e) (by simp only[List.size_toArray]<;>omega)
 ·obtain⟨its,r',pl,hz⟩:=I.tuple hq
  have hlen:=r'.length
  obtain⟨o,ho,hc,n,hd⟩:=pl
  exact call_list_seq p (.inr rfl) ho hc hd (fun h' c' kp e=>fin its r' hz h' c' kp e) (by simp only[List.size_toArray]<;>omega)
def tyV(K:PySem.W.Frag)(T:String)(x:V)(H:Hp):Prop:=match x with
 | .str _=>T = "str"
 | .int _=>T = "int"
 | .ref p=>(T = "list"∧∃xs,SqL K H p xs)∨(T = "tuple"∧∃o,K.lookup p=some o∧o.cls=.type "tuple"∧o.dict=none) ∨
   (T = "dict"∧((∃kvs,H p=some (.dK kvs))∨∃kvs,H p=some (.dT kvs)))∨(T = "set"∧∃S n,H p=some (.set S n))
 | _=>False
theorem Zgv{pins:List (Addr×Obj)}{σ:St}{H:Hp}{s:Shared}{T:String}{x:V}{v:Value}(I:Inv X pins σ H s)(r:Zo x v)(ty:tyV X.K T x H) :
  s.TypeIs v T∧∀a,v=.ref a→∃ob,s.heap.get? a=some ob∧ob.dict=none:=by
 cases x with
 | str z =>
  obtain⟨t,rfl⟩:=r
  cases (show T = "str" from ty)
  exact⟨typeIs_str s z t,fun _ e=>nomatch e⟩
 | int i =>
  obtain⟨t,rfl⟩:=r
  cases (show T = "int" from ty)
  exact⟨typeIs_int s i t,fun _ e=>nomatch e⟩
 | ref p =>
  cases r
  rcases ty with⟨rfl,xs,hq⟩|⟨rfl,o,hk,hc,hd⟩|⟨rfl,hk⟩|⟨rfl,S,n,hk⟩
  ·obtain⟨its,_,pl,_⟩:=I.list hq
   refine⟨pl.isList.typeIs,fun a e=>?_⟩
   cases e
   obtain⟨o,n,e,c,hd,_⟩:=pl
   exact⟨o,e,hd⟩
  ·refine⟨⟨o,I.kIn p o hk,hc⟩,fun a e=>?_⟩
   cases e
   exact⟨o,I.kIn _ o hk,hd⟩
  ·have z:∃o,s.heap.get? p=some o∧o.ExactDict:=by
    rcases hk with⟨kvs,hk⟩|⟨kvs,hk⟩
    ·obtain⟨_,_,_,_,o,_,_,e,ex,_⟩:=I.hok p _ hk
     exact⟨o,e,ex⟩
    ·obtain⟨_,_,_,_,o,_,_,e,ex,_⟩:=I.hok p _ hk
     exact⟨o,e,ex⟩
   obtain⟨o,e,ex⟩:=z
   refine⟨⟨o,e,ex.1⟩,fun a e2=>?_⟩
   cases e2
   exact⟨o,e,ex.2.1⟩
  ·obtain⟨o,_,_,_,e,ex,_⟩:=I.hok p _ hk
   refine⟨⟨o,e,ex.1⟩,fun a e2=>?_⟩
   cases e2
   exact⟨o,e,ex.2.1⟩
 | _=>exact False.elim ty
def ZjG(K:PySem.W.Frag)(T:String)(r:V→List V→Hp→VK→Prop)(to:TE):TE:=fun σ H Q=>to σ H fun x H1=>tyV K T x H1∧r x [] H1 Q
def tBM(K:PySem.W.Frag)(T:String)(r:V→List V→Hp→VK→Prop)(to:TE)(t:TA):TE:=fun σ H Q=>to σ H fun x H1=>tyV K T x H1∧t σ H1 fun xs H2=>r x xs H2 Q
variable {o e:Expr} {es:List Expr} {to:TE} {t:TA} {name:Str} {apos cpos:Pos} {T id:String} {r:V→List V→Hp→VK→Prop}
theorem Zim(pa:PlainAttrs T)(slot:Slot T name id)(hty:typeOf (.builtin id)=pure (.type "method_descriptor"))(hm:MtR X id r)(ho:PE X o to)
  (hbase:attributeBase o name X.env (eval o X.env)=eval o X.env:=by rfl) (hline:(apos.endLine == cpos.line)=true:=by rfl):PE X (.Call (.Attribute o name apos) [] [] cpos) (ZjG X.K T r to):=by
 intro pins s σ H Q I h
 refine wpAny_Call_method0_late hbase hline (thn (ho pins s σ H _ I h) ?_)
 rintro v s1 ⟨x,H1,I1,r1,ty,q1⟩
 obtain⟨h1,h2⟩:=Zgv I1 r1 ty
 exact⟨T,id,pa,slot,hty,h1,h2,Calls.callWith_builtin rfl (PySem.evalArgs_none (hm pins s1 σ H1 x [] v [] Q I1 r1 .nil q1))⟩
theorem ZbO(pa:PlainAttrs T)(slot:Slot T name id)(hty:typeOf (.builtin id)=pure (.type "method_descriptor"))(hm:MtR X id r)(ho:PE X o to)(ha:PA X (e::es) t)
  (hbase:attributeBase o name X.env (eval o X.env)=eval o X.env:=by rfl)
  (hfew:((backTo cpos (starEach (e::es) X.env)).all (fun x=>!x.1)&&(backToKw cpos (keywordEach [] X.env)).all (fun x=>x.1.isSome)
   && decide ((e::es).length+([]:List Keyword).length+(if ([]:List Keyword).isEmpty then 0 else 1)<30))=true:=by rfl)
  (hline:(apos.endLine == cpos.line)=true:=by rfl) (hs:starEach (e::es) X.env=(false,eval e X.env)::starEach es X.env:=by rfl) (hplain:(backTo cpos (starEach es X.env)).any (·.1)=false:=by rfl) :
  PE X (.Call (.Attribute o name apos) (e::es) [] cpos) (tBM X.K T r to t):=by
 intro pins s σ H Q I h
 refine wpAny_Call_method_late hbase hfew hline rfl (thn (ho pins s σ H _ I h) ?_)
 rintro v s1 ⟨x,H1,I1,r1,ty,q1⟩
 obtain⟨h1,h2⟩:=Zgv I1 r1 ty
 refine⟨T,id,pa,slot,hty,h1,h2,?_⟩
 have hA:=ha cpos pins s1 σ H1 _ I1 q1
 rw[hs]at hA ⊢
 refine Calls.callWith_builtin (by show (false||(backTo cpos (starEach es X.env)).any (·.1))=false;rw[hplain]<;>rfl) (Calls.evalArgs_plain ?_)
 exact thn hA fun us s2 ⟨vs,H2,I2,r2,q2⟩=>hm pins s2 σ H2 x vs v us Q I2 r1 r2 q2
end
def MtM(X:Cx)(id:String)(r:V→List V→Hp→VK→Prop):Prop :=
 ∀ (pins:List (Addr×Obj)) (s:Shared) (σ:St) (H:Hp) (x:V) (xs:List V) (v:Value) (us:List Value) (Q:VK),Inv X pins σ H s→Zo x v→Zm xs us→r x xs H Q →
  wpAny (model X.prog X.w) X.A (call (.builtin id) (v::us)) (EP X pins σ Q) X.xe s
theorem Zm.one:∀ {x:V} {us:List Value},Zm [x] us→∃u,us=[u]∧Zo x u
 | _,_,.cons r .nil=>⟨_,rfl,r⟩
theorem Zm.two:∀ {x y:V} {us:List Value},Zm [x,y] us→∃u v,us=[u,v]∧Zo x u∧Zo y v
 | _,_,_,.cons r (.cons q .nil)=>⟨_,_,rfl,r,q⟩
theorem Zm.zero:∀ {us:List Value},Zm [] us→us=[]
 | _,.nil=>rfl
theorem Zm.reverse{xs:List V}{us:List Value}(h:Zm xs us):Zm xs.reverse us.reverse:=by
 induction h with
 | nil=>exact .nil
 | cons r t ih=>rw[List.reverse_cons,List.reverse_cons];exact Zm.append ih (.cons r .nil)
section
variable {X:Cx} {pins:List (Addr×Obj)} {σ:St} {H:Hp} {s:Shared} {l b:Addr} {xs ys zs:List V}
theorem Inv.lset{its its':List Value}{n:Nat}{f:Array Value→Array Value}{t':Nat}(I:Inv X pins σ H s)(hH:H l=some (.lst xs))
  (e:s.heap.get? l=some { cls:=.type "list",data:=.seq its.toArray n }) (hf:f its.toArray=its'.toArray) (hv:Zm ys its') (hz:ys.length≤sizeLine) :
  Inv X pins σ (upd H l (.lst ys)) { s with heap:=s.heap.update l (Obj.mapSeq f),toks:=t' }:=by
 have q:=PySem.IsL.update e f
 rw[hf]at q
 refine I.write (x:=l) (e:=l) (by rw[hH];exact trivial) (.inl rfl) (fun b' u hb hu=>(Heap.get?_update_other s.heap (Obj.mapSeq f) (Ne.symm hb)).trans hu) ⟨_,q⟩ ?_
 exact⟨hz,its',_,hv,q⟩
theorem Inv.lnew{its:List Value}{t':Nat}(I:Inv X pins σ H s)(hv:Zm ys its)(hz:ys.length≤sizeLine) :
  Inv X pins σ (upd H s.heap.objs.size (.lst ys)) { s with heap:=s.heap.push { cls:=.type "list",data:=.seq its.toArray },toks:=t' } :=
 I.laid (fun _ _ q=>Qc _ q) (Ql _) ⟨hz,its,0,hv,Qr _ rfl⟩
theorem Inv.fresh(I:Inv X pins σ H s):H s.heap.objs.size=none:=I.hok.fresh (Ql _)
theorem Inv.lstM(I:Inv X pins σ H s)(hH:H l=some (.lst xs)):xs.length≤sizeLine∧∃ (its:List Value) (n:Nat),Zm xs its∧xs.length=its.length∧s.heap.get? l=some { cls:=.type "list",data:=.seq its.toArray n }:=by
 obtain⟨z,its,n,r,e⟩:=I.hok l _ hH
 exact⟨z,its,n,r,r.length,e⟩
theorem Zf0{n:Nat}(h:n≤sizeLine):Builtin.List.listTooLong n=false:=by
 unfold Builtin.List.listTooLong
 exact decide_eq_false (by omega)
end
section
variable {X:Cx}
def ZgH:V→List V→Hp→VK→Prop:=fun x vs H Q=>∃l xs y,x=.ref l∧vs=[y]∧H l=some (.lst xs)∧xs.length<sizeLine∧Q .non (upd H l (.lst (xs++[y])))
theorem Z8:MtM X "list.append" ZgH:=by
 intro pins s σ H x vs v us Q I rx rv h
 obtain⟨l,xs,y,rfl,rfl,hH,hz,q⟩:=h
 cases rx
 obtain⟨u,rfl,ru⟩:=rv.one
 obtain⟨z,its,n,r,hl,e⟩:=I.lstM hH
 refine call_meets F.slot_list_append ⟨_,e,rfl⟩ F.entry_list_append (F.args_list_append_2 _ _) (PySem.list_append l its.toArray n u (by rw[Qk];omega)) ⟨e,?_⟩
 refine⟨.non,_,I.lset (its':=its++[u]) hH e (by simp) (r.append (.cons ru .nil)) ?_,rfl,q⟩
 rw[Qd,List.length_singleton]
 omega
def ZgI:V→List V→Hp→VK→Prop:=fun x vs H Q=>∃l b xs zs,x=.ref l∧vs=[.ref b]∧H l=some (.lst xs)∧H b=some (.lst zs)∧xs.length+zs.length≤sizeLine∧Q .non (upd H l (.lst (xs++zs)))
theorem Zfm:MtM X "list.extend" ZgI:=by
 intro pins s σ H x vs v us Q I rx rv h
 obtain⟨l,b,xs,zs,rfl,rfl,hH,hB,hz,q⟩:=h
 cases rx
 obtain⟨u,rfl,ru⟩:=rv.one
 cases ru
 obtain⟨z,its,n,r,hl,e⟩:=I.lstM hH
 obtain⟨z2,its2,n2,r2,hl2,e2⟩:=I.lstM hB
 have hsz:its.toArray.size+its2.toArray.size≤sizeLine:=by rw[Qk,Qk];omega
 have hlong:¬ (!its.toArray.isEmpty&&Builtin.List.listTooLong (its.toArray.size+its2.toArray.size))=true:=by
  rw[Zf0 hsz,Bool.and_false]
  exact Qm
 refine call_meets F.slot_list_extend ⟨_,e,rfl⟩ F.entry_list_extend (F.args_list_extend_2 _ _)
  (AutoSeq1.list_extend_list_list_0 l its.toArray n b its2.toArray n2 hlong (by rw[Qk];omega) (by omega)) ⟨e,e2,?_⟩
 refine⟨.non,_,I.lset (its':=its++its2) hH e (by simp) (r.append r2) ?_,rfl,q⟩
 rw[Qd]
 omega
def rPop:V→List V→Hp→VK→Prop:=fun x vs H Q=>∃l xs y,x=.ref l∧vs=[]∧H l=some (.lst xs)∧xs[xs.length-1]? = some y∧Q y (upd H l (.lst xs.dropLast))
def rPopAt:V→List V→Hp→VK→Prop:=fun x vs H Q=>∃l xs i k y,x=.ref l∧vs=[.int i]∧H l=some (.lst xs) ∧ -(2 ^ 63)≤i∧i<2 ^ 63∧seqIndex? i xs.length=some k∧xs[k]? = some y∧Q y (upd H l (.lst (xs.eraseIdx k)))
def ZfS:V→List V→Hp→VK→Prop:=fun x vs H Q=>∃l xs,x=.ref l∧vs=[]∧H l=some (.lst xs)∧Q .non (upd H l (.lst xs.reverse))
theorem Zd5:MtM X "list.reverse" ZfS:=by
 intro pins s σ H x vs v us Q I rx rv h
 obtain⟨l,xs,rfl,rfl,hH,q⟩:=h
 cases rx
 have hus:=rv.zero
 subst hus
 obtain⟨z,its,n,r,hl,e⟩:=I.lstM hH
 refine call_meets F.slot_list_reverse ⟨_,e,rfl⟩ F.entry_list_reverse (F.args_list_reverse_1 _) (AutoSeq1.list_reverse_list_0 l its.toArray n (by rw[Qk];omega)) ⟨e,?_⟩
 refine⟨.non,_,I.lset (its':=its.reverse) hH e (by simp) r.reverse ?_,rfl,q⟩
 rw[List.length_reverse]
 omega
def rClear:V→List V→Hp→VK→Prop:=fun x vs H Q=>∃l xs,x=.ref l∧vs=[]∧H l=some (.lst xs)∧Q .non (upd H l (.lst []))
def ZjO:R2:=fun x y H Q=>∃l b xs zs,x=.ref l∧y=.ref b∧H l=some (.lst xs)∧H b=some (.lst zs)∧xs.length+zs.length≤sizeLine∧∀p,H p=none→Q (.ref p) (upd H p (.lst (xs++zs)))
theorem Zic:OpR X (binaryOp .Add) ZjO:=by
 intro pins s σ H x y v u Q I rx ry h
 obtain⟨l,b,xs,zs,rfl,rfl,hH,hB,hz,q⟩:=h
 cases rx
 cases ry
 obtain⟨z,its,n,r,hl,e⟩:=I.lstM hH
 obtain⟨z2,its2,n2,r2,hl2,e2⟩:=I.lstM hB
 refine PySem.P.add_list e e2 ?_ (by rw[Qk,Qk];omega)
 have ea:its.toArray++its2.toArray=(its++its2).toArray:=by simp
 rw[ea]
 exact⟨.ref _,_,I.lnew (t':=s.toks) (r.append r2) (by rw[Qd];omega),rfl,q _ I.fresh⟩
def rRep:R2:=fun x y H Q=>∃l k xs,x=.ref l∧y=.int k∧H l=some (.lst xs) ∧ -(2 ^ 63)≤k∧k<2 ^ 63∧xs.length*k.toNat≤sizeLine ∧
 ∀p,H p=none→Q (.ref p) (upd H p (.lst (List.replicate k.toNat xs).flatten))
end
section
variable {prog:Program} {w:World} {A:Around} {E:Value→Shared→Prop} {s:Shared}
end
section
variable {X:Cx}
end
end L2
namespace Att
open PySem PySem.W PySem.Calls PyProof.Rows
theorem ZbQ{P:Params}{h:Heap}:∀ (ns:List Int) (vs:List Value),WellAll P h vs (ns.map WData.int)→IntsAre vs ns:=by
 intro ns
 induction ns with
 | nil =>
  intro vs w
  rw[List.map_nil]at w
  cases w
  exact .nil
 | cons n ns ih =>
  intro vs w
  rw[Qv]at w
  cases w with
  | cons a b =>
   cases a
   exact .cons _ _ (ih _ b)
theorem Zfu{l:OpenLaw}{n:Nat}(hn:l.most=some n){P:Params}{h:Heap}{args:List WData}{vals:List Value}
  (hpre:l.row.toRowW.claim.pre args=true) (hwl:WellAll P h vals args) :
  ∃a vs ns,vals=[Value.ref a]∧args=[WData.list (ns.map WData.int)]∧h.get? a=some { cls:=.type "list",data:=.seq vs.toArray }∧IntsAre vs ns∧ns.length≤n:=by
 have hsh:WShape.hasAll [] args [.list .int]=true:=(pre_splitW hpre).1
 have hc:l.pre.holds [] { args:=args }=true:=(pre_splitW hpre).2
 obtain⟨d,r,rfl,h1,h2⟩:=hasAllW_cons hsh
 obtain rfl:=hasAllW_nil h2
 obtain⟨xs,rfl,h3⟩:=hasW_list h1
 obtain⟨ns,rfl⟩:=items_int h3
 have hlen:ns.length≤n:=by
  unfold OpenLaw.pre at hc
  have h4:(WTm.not (.lt (.lit (.int (n:Int))) (.len (.arg 0)))).holds [] { args:=[.list (ns.map .int)] }=true:=by
   have h4:=(holds_andW hc).1
   rw[hn]at h4
   exact h4
  have h5:=condW_of h4 (w_not (w_lt w_lit (w_len_list (w_arg rfl))))
  rw[Qb]at h5
  refine Nat.le_of_not_lt fun q=>?_
  have q':(n:Int)<((ns.length:Nat):Int):=by omega
  first
   | (rw[decide_eq_true q']at h5;exact absurd h5 (by decide))
   | (simp at h5;omega)
 cases hwl with
 | cons w1 w2 =>
  cases w2
  cases w1 with
  | list ho hall=>exact⟨_,_,ns,rfl,rfl,ho,ZbQ ns _ hall,hlen⟩
theorem ZeZ(l:OpenLaw)(args:List WData):l.row.toRowW.claim.post args (.bool true) args=true :=
 postW_of (r:=l.row.toRowW) (X:=(true == true))
  (show WShape.has [] (.bool true) .bool=true by first|rfl|decide|simp[WShape.has,WShape.arms,WShape.armsAll])
  (show (WTm.eq .res (.lit (.bool true))).value [] { args:=args,res:=some (.bool true),after:=args }=some (.bool (true == true)) from w_eq_bool (w_res rfl) w_lit) rfl
theorem attach_call{l:OpenLaw}{n:Nat}{q:Program}{loose:List Str}{XP:(Str→Option Value)→Heap→Prop}{YP:World→Heap→Prop}{d:DefRec}
  (hn:l.most=some n) (hdf:d.params.defaults=[])
  (call:∀ (w:World) (s₀ s₁:Shared) (mg mb:Str→Option Value) (fa:Addr) (o:Obj) (pm cd doc:Value) (a:Addr) (vs:List Value) (ns:List Int),
   Ground q loose [] XP w s₀ mg mb s₁.heap→YP w s₁.heap →
   s₁.heap.get? fa=some o→o.data=.func (docDef d.name d.params d.body d.scope pm cd doc)→s₁.heap.CodeRec cd d.name→mg d.name=some (.ref fa) →
   s₁.heap.get? a=some { cls:=.type "list",data:=.seq vs.toArray }→IntsAre vs ns→ns.length≤n→s₁.gens = #[] →
   codeAny (model l.prog w) callerA (.call (.ref fa) ⟨[.ref a],[]⟩) (fun r s'=>r=.ok (.ret (.bool true))∧OldK s₁.heap s'.heap∧s'.os=s₁.os∧AllBare s'.gens) s₁) :
  WalkO q loose XP YP l.row.toRowW d [] (fun f vs=>PySem.call f vs):=by
 intro w s₀ s₁ mg mb G Y fa o pm cd doc dV kV ho hd hcd hD hmg hg args vals as hpre hlay hrd hwl hlo
 obtain rfl:dV=.none:=Dflts.none hD hdf
 obtain rfl:kV=.none:=Dflts.noKw hD
 obtain⟨a,vs,ns,rfl,rfl,hobj,hints,hlen⟩:=Zfu hn hpre hwl
 refine enter_call (codeAny_mono (call w s₀ s₁ mg mb fa o pm cd doc a vs ns G Y ho (fd_plain hd) hcd hmg hobj hints hlen hg) fun r s' hq=>?_)
 obtain⟨rfl,h2,h3,h4⟩:=hq
 exact⟨.inl ⟨.bool true,.bool true,[],rfl,fun _=>rfl,.bool true,ZeZ l _,fun _=>⟨List.Pairwise.nil,fun _ hm=>(nomatch hm)⟩⟩,h2,h3,h4⟩
section
variable {prog:Program} {w:World} {A:Around} {E:Value→Shared→Prop} {s:Shared} {K:Frag}
def noObjs(h:Heap):Heap:={ h with objs:=#[] }
def ledger(h:Heap)(L d:Addr):List (Addr×Obj):=(List.range h.objs.size).filterMap fun a=>if a=L∨a=d then none else (h.get? a).map fun o=>(a,o)
end
end Att
namespace L2
open PySem PySem.Spec PyProof.Rows
theorem Zco:∀ {vs:List Value} {ns:List Int},IntsAre vs ns→Zm (ns.map V.int) vs
 | _,_,.nil=>.nil
 | _,_,.cons n t h=>.cons ⟨t,rfl⟩ (Zco h)
def Zih(H:Hp):Prop:=∀b,H b=none∨∃o xs,H b=some (.frz o (.lst xs))
theorem Zgd{P:Program}{w:World}{K:PySem.W.Frag}{mg mb:Str→Option Value}{CX:CXT}{k:Nat}{fa a:Addr}{fd:FuncData}{x:Str}{sp:Sp}{s₁:Shared}{vs:List Value}{ns:List Int}
  (KX:K.In s₁.heap) (hns:s₁.heap.Ns mainGlobals mg) (hb:s₁.heap.Ns builtinsNs mb) (hbb:∀x:Str,x ≠ "__name__"→mb x=bootBuiltins x) (hlim:s₁.heap.NoLimit) (hg:s₁.gens = #[])
  (ha:s₁.heap.get? a=some { cls:=.type "list",data:=.seq vs.toArray }) (hi:IntsAre vs ns) (hl:ns.length≤sizeLine) (hr:ZaE k callerA)
  (F:∀base:Heap,K.In base→base.Ns mainGlobals mg→ZbP P w K mg base CX k fa fd [x] sp) (hbind:∀ (s:Shared) (u:Value),BindsTo s fd ⟨[u],[]⟩ [(x,u)])
  (hsp:∀H:Hp,Zih H→SqL K H a (ns.map V.int)→sp [.ref a] H (fun v _=>v=.bl true) fun _ _ _=>False)
  (hCX:∀H e s',CX [] H s₁ (fun _ _ _=>False) e s'→False) :
  codeAny (model P w) callerA (.call (.ref fa) ⟨[.ref a],[]⟩) (fun r s'=>r=.ok (.ret (.bool true))∧OldK s₁.heap s'.heap∧s'.os=s₁.os∧AllBare s'.gens) s₁:=by
 have rv:=Zco hi
 have lenV:=hi.length
 have core:∀H:Hp,Zih H→SqL K H a (ns.map V.int)→HOk P w H s₁.heap→(∀b,H b≠none→b=a)→(H a≠none→K.lookup a=none) →
   codeAny (model P w) callerA (.call (.ref fa) ⟨[.ref a],[]⟩) (fun r s'=>r=.ok (.ret (.bool true))∧OldK s₁.heap s'.heap∧s'.os=s₁.os∧AllBare s'.gens) s₁:=by
  intro H hO hS hok hA hK
  have base_of:∀ {b:Addr} {o:Obj},s₁.heap.get? b=some o→H b=none→(ZcU s₁.heap H).get? b=some o:=fun e n=>Zgf e n
  have noA:∀ {b:Addr} {o:Obj} {es:Array DictEntry} {ep:Nat},s₁.heap.get? b=some o→o.data=.dict es ep→H b=none:=fun {b o es ep} e d=>by
   cases q:H b with
   | none=>rfl
   | some u =>
    have e':b=a:=hA b (by rw[q];simp)
    subst e'
    rw[ha]at e;cases e
    have d':Data.seq vs.toArray _=Data.dict es ep:=d
    cases d'
  have nsK:∀ {b:Addr} {m:Str→Option Value},s₁.heap.Ns b m→(ZcU s₁.heap H).Ns b m:=fun {b m} ⟨o,es,ep,e,d,r⟩=>⟨o,es,ep,base_of e (noA e d),d,r⟩
  have hKb:K.In (ZcU s₁.heap H):=fun b o e=>base_of (KX b o e) (by
   cases q:H b with
   | none=>rfl
   | some u =>
    have e':b=a:=hA b (by rw[q];simp)
    subst e'
    rw[hK (by rw[q];simp)]at e;cases e)
  have hM:Mod K mg (ZcU s₁.heap H):=⟨hKb,nsK hns,⟨mb,nsK hb,hbb⟩,let ⟨mc,h1,h2⟩:=hlim;⟨mc,nsK h1,h2⟩⟩
  have e0:ZgS P w K mg (ZcU s₁.heap H) callerA [] s₁ H:=⟨rfl,hM,fun b o e=>ZgX e,Nat.le_of_eq (Ze2 _ _),trivial,fun b hb=>absurd (show b∈([]:List Addr) from hb) (by simp),hok,.of_eq hg⟩
  refine codeAny_mono ((F _ hKb (nsK hns)).run callerA [] s₁ H ⟨[.ref a],[]⟩ [.ref a] [.ref a] _ _ hr e0 (hbind s₁ (.ref a)) (.cons rfl .nil) (hsp H hO hS)) fun r s' h=>?_
  cases r with
  | error e=>exact(hCX H e s' h).elim
  | ok fl =>
   cases fl with
   | next=>exact False.elim h
   | brk=>exact False.elim h
   | cont=>exact False.elim h
   | ret u =>
    obtain⟨v,H',os,bare,un,hok',r',q⟩:=h
    have q':v=.bl true:=q
    subst q'
    obtain rfl:u=Value.bool true:=r'
    refine⟨rfl,OldK.of_keep fun b o e=>?_,os,bare⟩
    cases q:H b with
    | none=>exact un.keep b o e q (by intro z;exact absurd (show b∈([]:List Addr) from z) (by simp)) (by simp)
    | some u =>
     rcases hO b with z|⟨ob,xs,z⟩
     ·rw[q]at z;cases z
     ·have z2:=un.frzs b ob _ z
      obtain⟨e1,_⟩:=hok b _ z
      obtain⟨e2,_⟩:=hok' b _ z2
      rw[e]at e1;cases e1
      exact e2
 cases hk:K.lookup a with
 | some o =>
  have e:=KX a o hk
  rw[ha]at e
  cases e
  refine core (fun _=>none) (fun _=>.inl rfl) (.inr ⟨_,vs.toArray,_,hk,rfl,rfl,rfl,by rw[Qk,lenV];exact hl,by simpa using rv⟩) (fun b u z=>by have z':(none:Option HO)=some u:=z;cases z') (fun b z=>absurd rfl z) fun z=>absurd rfl z
 | none =>
  refine core (fun b=>if b=a then some (.frz { cls:=.type "list",data:=.seq vs.toArray } (.lst (ns.map V.int))) else none) (fun b=>?_) (.inl (.inr ⟨{ cls:=.type "list",data:=.seq vs.toArray },if_pos rfl⟩)) (fun b u z=>?_) (fun b z=>?_) fun _=>hk
  ·by_cases hb:b=a
   ·exact .inr ⟨_,_,if_pos hb⟩
   ·exact .inl (if_neg hb)
  ·by_cases hb:b=a
   ·have z':=(if_pos hb).symm.trans z
    cases z'
    subst hb
    exact⟨ha,by rw[Qb];exact hl,vs,_,rv,ha⟩
   ·have z':=(if_neg hb).symm.trans z
    cases z'
  ·by_cases hb:b=a
   ·exact hb
   ·exact absurd (if_neg hb) z
abbrev KOf{K:PySem.W.Frag}{h:Heap}(_:K.In h):PySem.W.Frag:=K
theorem walk_of{l:PySem.W.OpenLaw}{n k:Nat}{q:Program}{loose:List Str}{XP:(Str→Option Value)→Heap→Prop}{YP:World→Heap→Prop}{d:DefRec}{K:Params→PySem.W.Frag}{CX:World→CXT}{sp:World→Sp}{x:Str}
  (hn:l.most=some n) (hn2:n≤sizeLine) (hdf:d.params.defaults=[]) (hr:ZaE k callerA)
  (hY:∀ (w:World) (h:Heap),YP w h→(K w.params).In h)
  (F:∀ (w:World) (mg:Str→Option Value) (fa:Addr) (h:Heap),(K w.params).In h→h.Ns mainGlobals mg→mg d.name=some (.ref fa) →
   ∃fd:FuncData,(∀ (s:Shared) (u:Value),BindsTo s fd ⟨[u],[]⟩ [(x,u)]) ∧
    ∀base:Heap,(K w.params).In base→base.Ns mainGlobals mg→ZbP l.prog w (K w.params) mg base (CX w) k fa fd [x] (sp w))
  (hsp:∀ (w:World) (H:Hp) (a:Addr) (ns:List Int),ns.length≤n→Zih H→SqL (K w.params) H a (ns.map V.int)→sp w [.ref a] H (fun v _=>v=.bl true) fun _ _ _=>False)
  (hCX:∀ (w:World) (H:Hp) (s:Shared) (e:Value) (s':Shared),CX w [] H s (fun _ _ _=>False) e s'→False) :
  PySem.W.WalkO q loose XP YP l.row.toRowW d [] (fun f vs=>PySem.call f vs):=by
 refine Att.attach_call hn hdf fun w s₀ s₁ mg mb fa o pm cd doc a vs ns G Y ho hd hcd hmg hobj hints hlen hg=>?_
 have KX:=hY w _ Y
 obtain⟨fd,hb,hF⟩:=F w mg fa _ KX G.T.g hmg
 exact Zgd KX G.T.g G.T.b G.T.builtins G.T.nolimit hg hobj hints (QM hlen hn2) hr hF hb (fun H hO hS=>hsp w H a ns hlen hO hS) fun H e s'=>hCX w H s₁ e s'
def inClass(s:Stmt)(j:Nat):Stmt:=match s with
 | .ClassDef _ _ _ body _ _ _ _ _ _ _=>body.getD j (.Pass ⟨0,0,0,0⟩)
 | _=>.Pass ⟨0,0,0,0⟩
def Zw(s:Stmt):Arguments:=match s with
 | .FunctionDef _ a _ _ _ _ _ _ _ _=>a
 | _=>{ posonlyargs:=[],args:=[],vararg:=none,kwonlyargs:=[],kw_defaults:=[],kwarg:=none,defaults:=[] }
def Zr(s:Stmt):List Stmt:=match s with
 | .FunctionDef _ _ b _ _ _ _ _ _ _=>b
 | _=>[]
def Ze(s:Stmt):Scope:=match s with
 | .FunctionDef _ _ _ _ _ _ sc _ _ _=>sc
 | _=>{ kind:=.function,names:=[],isGenerator:=false,isCoroutine:=false }
abbrev CX0:CXT:=fun _ _ _ _ _ _=>False
abbrev E0:XK:=fun _ _ _=>False
theorem ZiC{X:Cx}:Zee CX0 X E0:=fun _ _ _ _ _ _ _ h=>h.elim
structure Fun (K:PySem.W.Frag) (x qual:Str) (st:Stmt) (f:Addr) (fd:FuncData):Prop where
 ex:∃ (oc:Value) (od:Option Addr) (kV doc pm:Value) (an:Option Addr) (cdv ct:Value) (osl:Array (Option Value)),
  fd=PySem.W.fnOf x qual (Zw st) (Zr st) (Ze st) .none kV doc pm an cdv ct∧K.lookup f=some ⟨oc,od,.func fd,osl⟩∧PySem.W.codeIn K cdv qual=true
 kp:PySem.W.keepIn K (.ref f)=true
section
variable {P:Program} {w:World} {K:PySem.W.Frag} {mg:Str→Option Value} {base:Heap}
theorem Fun.ok{x qual:Str}{st:Stmt}{f:Addr}{fd:FuncData}{N ps:List Str}{k:Nat}{sp:Sp}(F:Fun K x qual st f fd)(S:ZB N ps (Ze st))(len:∀vs H Q E,sp vs H Q E→vs.length=ps.length)
  (hbody:∀ (cdv:Value) (A:Around) (outer:List Env) (s:Shared) (H:Hp) (vs:List V) (Q:VK) (E:XK),ZaE k (A.deeper (envOfC qual (Ze st) s.heap.objs.size f cdv))→sp vs H Q E →
   ∃t,PSs (Zd3 CX0 P w K mg base N qual (Ze st) f cdv A outer s H E).nox (Zr st) t∧t { nx:=fun _ H'=>Q .non H',rt:=Q } (ZbA N vs) H):ZbP P w K mg base CX0 (k+1) f fd ps sp:=by
 obtain⟨oc,od,kV,doc,pm,an,cdv,ct,osl,rfl,lk,hcd⟩:=F.ex
 refine Zjd lk hcd S len fun A outer s H vs Q E hr hsp=>?_
 obtain⟨t,h,q⟩:=hbody cdv A outer s H vs Q E hr hsp
 exact⟨t,h.nox,q⟩
theorem Fun.binds{x qual:Str}{st:Stmt}{f:Addr}{fd:FuncData}{ps:List Str}(F:Fun K x qual st f fd)
  (h:∀ (kV doc pm:Value) (an:Option Addr) (cdv ct:Value) (us:List Value),us.length=ps.length→bindArgs (PySem.W.fnOf x qual (Zw st) (Zr st) (Ze st) .none kV doc pm an cdv ct) ⟨us,[]⟩=pure (ps.zip us)):Za6 K fd ps []:=by
 obtain⟨oc,od,kV,doc,pm,an,cdv,ct,osl,rfl,lk,hcd⟩:=F.ex
 exact .all (h kV doc pm an cdv ct)
theorem ZdX{x qual:Str}{st:Stmt}{f:Addr}{oc:Value}{od an:Option Addr}{osl:Array (Option Value)}{kV doc pm cdv ct:Value}(l:K.lookup f=some ⟨oc,od,.func (PySem.W.fnOf x qual (Zw st) (Zr st) (Ze st) .none kV doc pm an cdv ct),osl⟩)
  (c:PySem.W.codeIn K cdv qual=true) (k:PySem.W.keepIn K (.ref f)=true):Fun K x qual st f (PySem.W.fnOf x qual (Zw st) (Zr st) (Ze st) .none kV doc pm an cdv ct):=⟨⟨oc,od,kV,doc,pm,an,cdv,ct,osl,rfl,l,c⟩,k⟩
end
theorem Zaj{n:Nat}(h:n≤1000):n<sizeLine:=Nat.lt_of_le_of_lt h (by decide)
section
variable {X:Cx}
theorem pv(i:Nat){x:Str}{pos:Pos}(hN:X.N[i]? = some x:=by rfl)(hv:Vis X.env.scope x:=by first|exact Or.inl rfl|exact Or.inr (Or.inl rfl)|exact Or.inr (Or.inr rfl))(hd:(x == ("__debug__" : Str))=false:=by decide)
  (hcd:(x == ("__classdict__" : Str))=false:=by decide):PE X (.Name x pos) (ZgC i):=Zd8 hN hv hd hcd
end
theorem ZaW{A B:Prop}(h:B):if false=true then A else B:=by
 rw[if_neg Qm]
 exact h
theorem Zc3{A B:Prop}(h:A):if true=true then A else B:=by
 rw[if_pos rfl]
 exact h
theorem Zbl{c A B:Prop}[Decidable c](h1:c→A)(h2:¬ c→B):if c then A else B:=by
 by_cases h:c
 ·rw[if_pos h]
  exact h1 h
 ·rw[if_neg h]
  exact h2 h
theorem Zet{c A B:Prop}[Decidable c](hc:c)(h:B):if (!decide c)=true then A else B:=by
 rw[decide_eq_true hc]
 exact ZaW h
def Zn(H H':Hp):Prop:=∀b o,H b=some o→H' b=some o
theorem Zn.refl(H:Hp):Zn H H:=fun _ _ h=>h
theorem Zn.trans{H H1 H2:Hp}(a:Zn H H1)(b:Zn H1 H2):Zn H H2:=fun c o h=>b c o (a c o h)
theorem Zn.free{H H':Hp}(e:Zn H H'){l:Addr}(h:H' l=Option.none):H l=Option.none:=by
 cases q:H l with
 | none=>rfl
 | some o =>
  rw[e l o q]at h
  cases h
theorem Zn.seq{K:PySem.W.Frag}{H H':Hp}{a:Addr}{xs:List V}(e:Zn H H')(h:SqL K H a xs):SqL K H' a xs:=by
 rcases h with(h|⟨o,h⟩)|h
 ·exact .inl (.inl (e _ _ h))
 ·exact .inl (.inr ⟨o,e _ _ h⟩)
 ·exact .inr h
def ZJ(cells:List (Str×Addr)):List (Str×NameKind)→List (Str×Addr)→List (Str×Addr)
 | [],acc=>acc
 | (n,k)::r,acc=>if k == .free then ZJ cells r ((n,(cells.lookup n).getD 0)::acc) else ZJ cells r acc
theorem Zcm{sc:Scope}{env:Env}(h:∀y∈sc.names,y.2=.free→∃c,env.cells.lookup y.1=some c) :
  closureFor sc env=pure (ZJ env.cells sc.names []):=by
 have go:∀ (names:List (Str×NameKind)) (acc:List (Str×Addr)),(∀y∈names,y.2=.free→∃c,env.cells.lookup y.1=some c) →
   (forIn names acc fun (x:Str×NameKind) (r:List (Str×Addr))=>if (x.2 == NameKind.free)=true then (do let c ← cellOf env x.1;pure (ForInStep.yield ((x.1,c)::r))) else pure (ForInStep.yield r):Sem (List (Str×Addr)))=pure (ZJ env.cells names acc):=by
  intro names
  induction names with
  | nil=>intro acc _;rfl
  | cons y r ih =>
   intro acc hy
   obtain⟨n,k⟩:=y
   rw[List.forIn_cons]
   cases hk:(k == NameKind.free) with
   | false =>
    have e1:ZJ env.cells ((n,k)::r) acc=ZJ env.cells r acc:=by
     show (if (k == NameKind.free)=true then _ else _)=_
     rw[hk];rfl
    rw[e1,← ih acc fun z hz=>hy z (Qg _ hz)]
    simp only[hk,Bool.false_eq_true,if_false,pure_bind]
   | true =>
    have hk':k=.free:=by simpa using hk
    obtain⟨c,hc⟩:=hy (n,k) Qq hk'
    have e1:ZJ env.cells ((n,k)::r) acc=ZJ env.cells r ((n,c)::acc):=by
     show (if (k == NameKind.free)=true then _ else _)=_
     rw[hk,hc];rfl
    have e2:cellOf env n=pure c:=by
     unfold cellOf
     rw[hc]
    rw[e1,← ih ((n,c)::acc) fun z hz=>hy z (Qg _ hz)]
    simp only[hk,if_true,e2,pure_bind]
 have q:=go sc.names [] h
 unfold closureFor
 first
  | (rw[show (forIn sc.names ([]:List (Str×Addr)) _:Sem (List (Str×Addr)))=pure (ZJ env.cells sc.names []) from q];rfl)
  | (simp only[bind_pure];exact q)
  | exact q
theorem ZaZ(cells:List (Str×Addr)):∀ (names:List (Str×NameKind)) (acc:List (Str×Addr)) (x:Str) (c:Addr),(ZJ cells names acc).lookup x=some c →
  (∃y∈names,y.1=x∧y.2=.free∧c=(cells.lookup x).getD 0)∨acc.lookup x=some c
 | [],acc,x,c,h=>.inr h
 | (n,k)::r,acc,x,c,h=>by
  by_cases hk:(k == NameKind.free)=true
  ·have e:ZJ cells ((n,k)::r) acc=ZJ cells r ((n,(cells.lookup n).getD 0)::acc):=by
    show (if (k == NameKind.free)=true then _ else _)=_
    rw[if_pos hk]
   rw[e]at h
   rcases ZaZ cells r _ x c h with⟨y,hy,q⟩|q
   ·exact .inl ⟨y,Qg _ hy,q⟩
   ·rw[Qal]at q
    by_cases hx:(x == n)=true
    ·rw[hx]at q
     have hx':x=n:=by simpa using hx
     subst hx'
     exact .inl ⟨(x,k),Qq,rfl,by simpa using hk,(Qp q).symm⟩
    ·have hx':(x == n)=false:=by simpa using hx
     rw[hx']at q
     exact .inr q
  ·have e:ZJ cells ((n,k)::r) acc=ZJ cells r acc:=by
    show (if (k == NameKind.free)=true then _ else _)=_
    rw[if_neg hk]
   rw[e]at h
   rcases ZaZ cells r _ x c h with⟨y,hy,q⟩|q
   ·exact .inl ⟨y,Qg _ hy,q⟩
   ·exact .inr q
theorem Zb9(cells:List (Str×Addr)):∀ (names:List (Str×NameKind)) (acc:List (Str×Addr)) (x:Str),((∃y∈names,y.1=x∧y.2=.free)∨∃c,acc.lookup x=some c) →
  ∃c,(ZJ cells names acc).lookup x=some c
 | [],acc,x,h=>by
  rcases h with⟨y,hy,_⟩|h
  ·cases hy
  ·exact h
 | (n,k)::r,acc,x,h=>by
  by_cases hk:(k == NameKind.free)=true
  ·have e:ZJ cells ((n,k)::r) acc=ZJ cells r ((n,(cells.lookup n).getD 0)::acc):=by
    show (if (k == NameKind.free)=true then _ else _)=_
    rw[if_pos hk]
   rw[e]
   refine Zb9 cells r _ x ?_
   by_cases hx:(x == n)=true
   ·exact .inr ⟨_,by rw[Qal,hx]⟩
   ·have hx':(x == n)=false:=by simpa using hx
    rcases h with⟨y,hy,q⟩|⟨c,q⟩
    ·rcases Qt.mp hy with rfl|hy
     ·exact absurd (by simpa using q.1.symm) hx
     ·exact .inl ⟨y,hy,q⟩
    ·exact .inr ⟨c,by rw[Qal,hx'];exact q⟩
  ·have e:ZJ cells ((n,k)::r) acc=ZJ cells r acc:=by
    show (if (k == NameKind.free)=true then _ else _)=_
    rw[if_neg hk]
   rw[e]
   refine Zb9 cells r _ x ?_
   rcases h with⟨y,hy,q⟩|h
   ·rcases Qt.mp hy with rfl|hy
    ·exact absurd (by simpa using q.2) hk
    ·exact .inl ⟨y,hy,q⟩
   ·exact .inr h
structure ZE (N N':List Str) (o c:Scope):Prop where
 kind:c.kind=.function
 okind:o.kind=.function
 nocell:∀y∈c.names,y.2≠.cell
 loc:∀y∈c.names,y.2=.local→c.names.lookup y.1=some .local
 free:∀y∈c.names,y.2=.free→c.names.lookup y.1=some .free∧(o.names.lookup y.1=some .cell∨o.names.lookup y.1=some .free)
 len:N.length≤N'.length
 same:∀i∈List.range N.length,∀x∈N'[i]?,c.names.lookup x=some .local∨c.names.lookup x=some .free→c.names.lookup x=some .free∧N[i]? = some x
 nd:N'.Nodup
def ZK(X:Cx)(c:Scope)(N':List Str)(C:Addr)(s:Shared)(H:Hp)(fp:List Addr):Cx :=
 { X with N:=N',s₀:=s,H₀:=H,env:=compEnvC c (ZJ X.env.cells c.names []) C X.env,outer:=X.stack,stack:=X.stack,ex:=fp,fn:=fun _=>false,pn:=[],xe:=fun _ _=>False }
theorem Za1{env:Env}(hf:env.scope.kind=.function):∀ (names:List (Str×NameKind)) (x:Str),
  (names.map fun (p:Str×NameKind)=>if (p.2 == NameKind.free&&env.scope.kind == .function&&env.kindOf p.1 == some .cell)=true then (p.1,NameKind.cell) else (p.1,p.2)).lookup x =
   match names.lookup x with
   | some .free=>if env.kindOf x=some .cell then some .cell else some .free
   | k=>k
 | [],x=>rfl
 | (n,k)::r,x=>by
  have ih:=Za1 hf r x
  rw[Qv]
  by_cases hx:(x == n)=true
  ·have hx':x=n:=by simpa using hx
   subst hx'
   have e2:List.lookup x ((x,k)::r)=some k:=by rw[Qal];simp
   rw[e2]
   by_cases hk:k=.free
   ·subst hk
    by_cases hc:env.kindOf x=some .cell
    ·simp[List.lookup_cons,hf,hc]
    ·simp[List.lookup_cons,hf,hc]
   ·have hk':(k == NameKind.free)=false:=by simpa using hk
    rw[hk']
    simp only[Bool.false_and,Bool.false_eq_true,if_false,List.lookup_cons,beq_self_eq_true]
    all_goals (cases k<;>first|rfl|exact absurd rfl hk)
  ·have hx':(x == n)=false:=by simpa using hx
   have e2:List.lookup x ((n,k)::r)=List.lookup x r:=by rw[Qal,hx']
   rw[e2,← ih]
   by_cases hc:(k == NameKind.free&&env.scope.kind == .function&&env.kindOf n == some .cell)=true
   ·simp only[hc,if_true,List.lookup_cons,hx']
   ·simp only[hc,if_false,List.lookup_cons,hx',Bool.false_eq_true]
section
variable {X:Cx} {N N':List Str} {o c:Scope}
theorem ZaJ(S:ZE N N' o c)(ho:X.env.scope=o)(cl:List (Str×Addr))(C:Addr)(x:Str):(compEnvC c cl C X.env).kindOf x =
  match c.names.lookup x with
  | some .free=>if X.env.kindOf x=some .cell then some .cell else some .free
  | k=>k:=Za1 (env:=X.env) (by rw[ho];exact S.okind) c.names x
theorem ZaS{names:List (Str×NameKind)}{x:Str}{k:NameKind}(h:names.lookup x=some k):(x,k)∈names:=Q1 h
theorem Zag(S:ZE N N' o c)(ho:X.env.scope=o)(ok:X.Ok){x:Str}{a:Addr}(h:(ZJ X.env.cells c.names []).lookup x=some a) :
  X.env.cells.lookup x=some a∧c.names.lookup x=some .free:=by
 rcases ZaZ _ _ _ _ _ h with⟨y,hy,rfl,hf,e⟩|q
 ·have hk:=S.free y hy hf
  have hv:X.env.kindOf y.1=some .cell∨X.env.kindOf y.1=some .free:=by
   show X.env.scope.names.lookup y.1=_∨X.env.scope.names.lookup y.1=_
   rw[ho];exact hk.2
  obtain⟨b,hb⟩:=ok.has y.1 hv
  rw[hb]at e
  exact⟨by rw[hb,e];rfl,hk.1⟩
 ·cases q
theorem ZdU(S:ZE N N' o c)(ho:X.env.scope=o)(ok:X.Ok){x:Str}(h:c.names.lookup x=some .free):∃a,(ZJ X.env.cells c.names []).lookup x=some a∧X.env.cells.lookup x=some a:=by
 obtain⟨a,ha⟩:=Zb9 X.env.cells c.names [] x (.inl ⟨(x,.free),ZaS h,rfl,rfl⟩)
 exact⟨a,ha,(Zag S ho ok ha).1⟩
theorem ZgD(S:ZE N N' o c)(ho:X.env.scope=o){pins:List (Addr×Obj)}{σ:St}{H:Hp}{s:Shared}{fp:List Addr}(I:Inv X pins σ H s)
  (hf:∀b∈fp,ZbS X pins H b) (ht:∀b∈fp,b<s.heap.objs.size):(ZK X c N' s.heap.objs.size s H fp).Ok where
 mod:=I.ok.mod
 kind:=S.kind
 glob:=I.ok.glob
 blt:=I.ok.blt
 above:=Ql _
 inj:=fun x y a h1 h2=>I.ok.inj x y a (Zag S ho I.ok h1).1 (Zag S ho I.ok h2).1
 has:=fun x hx=>by
  have e:=ZaJ (X:=X) S ho (ZJ X.env.cells c.names []) s.heap.objs.size x
  have hx':(compEnvC c (ZJ X.env.cells c.names []) s.heap.objs.size X.env).kindOf x=some .cell∨(compEnvC c (ZJ X.env.cells c.names []) s.heap.objs.size X.env).kindOf x=some .free:=hx
  rw[e]at hx'
  cases q:c.names.lookup x with
  | none=>rw[q]at hx';rcases hx' with z|z<;>cases z
  | some k =>
   by_cases hk:k=.free
   ·subst hk
    obtain⟨a,ha,_⟩:=ZdU S ho I.ok q
    exact⟨a,ha⟩
   ·rw[q]at hx'
    have hc:k=.cell:=by
     cases k<;>first|rfl|exact absurd rfl hk|(rcases hx' with z|z<;>cases z)
    subst hc
    exact absurd rfl (S.nocell _ (ZaS q))
 cab:=fun x a h=>by cases (show false=true from h)
 hd:=I.ok.hd
 frames:=I.ok.frames
 stk:=.inl rfl
 exf:=fun b hb=>⟨Qx (ht b hb),fun x a h=>(hf b hb).2.2.2.2.1 x a (Zag S ho I.ok h).1⟩
 bs:=fun b ob e=>I.bs b ob e
 bsz:=QM I.ok.bsz I.sz
 noex:=fun b ob e hb=>by
  rcases(hf b hb).2.2.2.1 with z|z
  ·exact I.ok.noex b ob e z
  ·exact absurd (Qo (Qi e) (QM I.ok.bsz z)) (Q4 _)
 exfs:=fun b hb hb'=>by
  rcases Qt.mp (I.stkSub b hb') with z|z
  ·exact(hf b hb).2.1 z
  ·exact(hf b hb).2.2.1 z
 funs:=I.stack
 frf:=I.stkFree
theorem ZfG(S:ZE N N' o c)(hN:X.N=N)(ho:X.env.scope=o){pins:List (Addr×Obj)}{σ:St}{H:Hp}{s:Shared}{fp:List Addr}{h₁:Heap}{tk:Nat}{m₀:Str→Option Value}(I:Inv X pins σ H s)
  (hf:∀b∈fp,ZbS X pins H b) (ht:∀b∈fp,b<s.heap.objs.size) (hns:h₁.Ns s.heap.objs.size m₀) (hk:∀b ob,s.heap.get? b=some ob→h₁.get? b=some ob) :
  Inv (ZK X c N' s.heap.objs.size s H fp) [] (σ++List.replicate (N'.length-N.length) none) H { s with heap:=h₁,toks:=tk } where
 ok:=ZgD S ho I hf ht
 os:=rfl
 bare:=I.bare
 base:=Un.kept hk
 loc:=by
  refine⟨m₀,hns,fun i x v e1 e2 e3=>?_⟩
  obtain⟨m,hn,hl⟩:=I.loc
  have hlen:σ.length=N.length:=by rw[I.len,hN]
  have hi:i<σ.length:=by
   by_cases hi:i<σ.length
   ·exact hi
   ·rw[QV (by omega),List.getElem?_replicate]at e2
    split at e2<;>cases e2
  have e2':σ[i]? = some (some v):=by rw[Qao hi]at e2;exact e2
  have kd:=ZaJ (X:=X) S ho (ZJ X.env.cells c.names []) s.heap.objs.size x
  have vis:c.names.lookup x=some .local∨c.names.lookup x=some .free:=by
   have e3':(compEnvC c (ZJ X.env.cells c.names []) s.heap.objs.size X.env).kindOf x=some .local∨(compEnvC c (ZJ X.env.cells c.names []) s.heap.objs.size X.env).kindOf x=some .cell∨(compEnvC c (ZJ X.env.cells c.names []) s.heap.objs.size X.env).kindOf x=some .free:=e3
   rw[kd]at e3'
   cases q:c.names.lookup x with
   | none=>rw[q]at e3';rcases e3' with z|z|z<;>cases z
   | some k =>
    cases k with
    | «local»=>exact .inl rfl
    | free=>exact .inr rfl
    | cell=>exact absurd rfl (S.nocell _ (ZaS q))
    | _=>rw[q]at e3';rcases e3' with z|z|z<;>cases z
  obtain⟨hfr,hNi⟩:=S.same i (List.mem_range.mpr (by omega)) x (by rw[show N'[i]? = some x from e1];rfl) vis
  have hok:X.env.kindOf x=some .cell∨X.env.kindOf x=some .free:=by
   show X.env.scope.names.lookup x=_∨X.env.scope.names.lookup x=_
   rw[ho];exact(S.free _ (ZaS hfr) rfl).2
  obtain⟨u,r,l⟩:=hl i x v (by rw[hN];exact hNi) e2' (.inr hok)
  refine⟨u,r,.inr ⟨?_,?_⟩⟩
  ·show (compEnvC c (ZJ X.env.cells c.names []) s.heap.objs.size X.env).kindOf x=some .cell∨(compEnvC c (ZJ X.env.cells c.names []) s.heap.objs.size X.env).kindOf x=some .free
   rw[kd,hfr]
   show (if X.env.kindOf x=some .cell then some NameKind.cell else some NameKind.free)=some .cell∨(if X.env.kindOf x=some .cell then some NameKind.cell else some NameKind.free)=some .free
   by_cases q:X.env.kindOf x=some .cell
   ·rw[if_pos q];exact .inl rfl
   ·rw[if_neg q];exact .inr rfl
  ·obtain⟨a,ha,ha'⟩:=ZdU S ho I.ok hfr
   refine⟨a,ha,?_⟩
   rcases l with⟨z,_⟩|⟨_,a',e,ob,hob,hd⟩
   ·rcases hok with q|q<;>rw[q]at z<;>cases z
   ·rw[ha']at e;cases e
    exact⟨ob,hk _ _ hob,hd⟩
 cell:=fun x a h=>by
  obtain⟨v,ob,e,d⟩:=I.cell x a (Zag S ho I.ok h).1
  exact⟨v,ob,hk _ _ e,d⟩
 free:=I.hok.fresh (Ql _)
 freeC:=fun x a h=>I.freeC x a (Zag S ho I.ok h).1
 pin:=fun p hp=>absurd (show p∈([]:List (Addr×Obj)) from hp) (by simp)
 hok:=I.hok.kept hk
 len:=by
  have hlen:σ.length=N.length:=by rw[I.len,hN]
  have:=S.len
  show (σ++List.replicate (N'.length-N.length) none).length=N'.length
  rw[Qd,Qah]
  omega
end
abbrev ZeN(ifs:List Expr)(env:Env):Sem Bool :=
 forIn ifs true fun k r=>if r=true then do let ok ← isTrue k env (eval k env);pure (ForInStep.yield ok) else pure (ForInStep.yield r)
def PTs(X:Cx)(ifs:List Expr)(t:TT):Prop :=
 ∀ (pins:List (Addr×Obj)) (s:Shared) (σ:St) (H:Hp) (Q:Bool→Hp→Prop),Inv X pins σ H s→t σ H Q→wpAny (model X.prog X.w) X.A (ZeN ifs X.env) (TP X pins σ Q) X.xe s
def Zea:TT:=fun _ H Q=>Q true H
theorem Zar{X:Cx}:PTs X [] Zea:=fun _ _ _ H _ I h=>wpAny_tests_nil ⟨H,I,h⟩
section
variable {prog:Program} {w:World} {A:Around} {R:Result→Shared→Prop} {s:Shared}
theorem Zdf{elt target iter:Expr}{ifs:List Expr}{scope:Scope}{pos:Pos}{it acc:Value}{env:Env}{E:Value→Shared→Prop}(I:Nat→Shared→Prop)
  (hE:∀e s',E e s'→False)
  (turn:∀n s,I n s→wpAny (model prog w) A (pyNext it) (fun r s₁=>match r with
   | none=>R (.ok .next) s₁
   | some v=>wpAny (model prog w) A (letOwnedTupleGo target it v) (fun _ s₀=>wpAny (model prog w) A (assign target env v) (fun _ s₂ =>
     wpAny (model prog w) A (ZeN ifs env) (fun ok s₃ =>
      if ok=true then wpAny (model prog w) A (eval elt env) (fun x s₄ =>
       wpAny (model prog w) A (call (.builtin "list.append") [acc,x]) (fun _ s₅=>∃m,m<n∧I m s₅) E s₄) E s₃
      else ∃m,m<n∧I m s₃) E s₂) E s₀) E s₁) E s)
  (n:Nat) (h:I n s):codeAny (model prog w) A (.compLoop (.ListComp elt [⟨target,iter,ifs,0⟩] scope pos) 0 it acc env) R s:=by
 have go:∀ {α:Type} {t:Sem α} {Q:α→Shared→Prop} {s:Shared},wpAny (model prog w) A t Q E s→wpAny (model prog w) A t Q (notedBy (model prog w) A env fun e s'=>R (.error e) s') s :=
  fun {α t Q s} q=>wpAny_mono q (fun _ _ z=>z) fun e s' z=>(hE e s' z).elim
 refine codeAny_loop rfl I (fun n s hI=>?_) n h
 show wpAny _ A ((compTurn (.ListComp elt [⟨target,iter,ifs,0⟩] scope pos) 0 it acc env).onRaise (fun x=>do noteFrame x env;theTreesLotGoes x)) _ _ s
 refine wpAny_noted ?_
 rw[compTurn_list]
 refine wpAny_bind (wpAny_standAt (wpAny_bind (thn (go (turn n s hI)) fun r s₁ h₁=>?_)))
 cases r with
 | none=>exact wpAny_pure h₁
 | some v =>
  refine wpAny_bind (thn (go h₁) fun _ s₀ h₀=>wpAny_bind (thn (go h₀) fun _ s₂ h₂=>wpAny_bind (thn (go h₂) fun ok s₃ h₃=>?_)))
  cases ok with
  | false=>exact wpAny_pure ⟨rfl,h₃⟩
  | true =>
   exact wpAny_bind (wpAny_bind (thn (go h₃) fun x s₄ h₄=>wpAny_bind (thn (go h₄) fun _ s₅ h₅=>wpAny_pure (wpAny_pure ⟨rfl,h₅⟩))))
end
def Zch(J:It)(D:Addr)(k:Nat)(σ:St)(H1:Hp)(g:TG)(tc:TT)(te:TE)(Q:VK):Prop :=
 ∃W:Nat→Nat→List V→St→Hp→Prop,(∃m,W 0 m [] (σ++List.replicate k none) (upd H1 D (.lst []))) ∧
  ∀i m ys σ2 H2,W i m ys σ2 H2→(J.stop i H2∧Q (.ref D) H2) ∨
   (J.go i H2∧∃N:List V→St→Hp→Prop,(∀ys' σ' H',N ys' σ' H'→∃m',m'<m∧W (i+1) m' ys' σ' H')∧∀x H3,J.yld i H2 x H3→g x σ2 H3 fun σ4 H4=>tc σ4 H4 fun b H5 =>
    if b=true then te σ4 H5 fun y H6=>H6 D=some (.lst ys)∧ys.length<sizeLine∧N (ys++[y]) σ4 (upd H6 D (.lst (ys++[y]))) else N ys σ4 H5)
def Zfz(n:Nat)(wi:TI)(g:TG)(tc:TT)(te:TE):TE:=fun σ H Q=>wi σ H fun J H1=>∀D,H1 D=none→Zch J D n σ H1 g tc te Q
section
variable {X:Cx} {N N':List Str} {o c:Scope}
theorem Zdx{elt tg iter:Expr}{ifs:List Expr}{pos pos':Pos}{wi:TI}{g:TG}{tc:TT}{te:TE}{use:Option (Value→Sem Unit)}{QQ:Value→Shared→Prop}(S:ZE N N' o c)(hN:X.N=N)(ho:X.env.scope=o)(hc:X.calm=true)
  (hi:PI X tg iter wi) (hg:∀C s H fp,PG (ZK X c N' C s H fp) tg g) (ht:∀C s H fp,PTs (ZK X c N' C s H fp) ifs tc) (he:∀C s H fp,PE (ZK X c N' C s H fp) elt te)
  (hs:∀x,foldedSetIterable iter X.env x=pure x) {pins:List (Addr×Obj)} {s:Shared} {σ:St} {H:Hp} {Q:VK} (I:Inv X pins σ H s) (h:Zfz (N'.length-N.length) wi g tc te σ H Q)
  (post:∀ (D C:Addr) (s5:Shared) (H5:Hp) (m:Str→Option Value),Inv X pins σ H5 s5→H5 C=none→s5.heap.Ns C m→C≠X.env.locals→X.s₀.heap.objs.size≤C→(∀x a,X.env.cells.lookup x=some a→a≠C)→(∀p∈X.pn++pins,p.1≠C) →
   Q (.ref D) H5→compPost (model X.prog X.w) X.A X.xe use QQ (.ref D) C (.ok .next) s5) :
  wpAny (model X.prog X.w) X.A (comprehension (.ListComp elt [⟨tg,iter,ifs,0⟩] c pos) c X.env pos' (newList []) false (eval iter X.env) use) QQ X.xe s:=by
 have hclos:closureFor c X.env=pure (ZJ X.env.cells c.names []):=Zcm fun y hy hf=>by
  refine I.ok.has y.1 ?_
  show X.env.scope.names.lookup y.1=_∨X.env.scope.names.lookup y.1=_
  rw[ho];exact(S.free y hy hf).2
 refine wpAny_comprehension_free (use:=use) rfl hs hclos S.kind S.loc (thn (hi pins s σ H _ I h) fun v s1 h1=>thn h1 fun itv s2 h2=>?_)
 obtain⟨it,fp,tn,J,H2,e,I2,T,st2,f2,hR⟩:=h2
 subst e
 have hD:H2 s2.heap.objs.size=none:=I2.fresh
 have I3:Inv X pins σ (upd H2 s2.heap.objs.size (.lst [])) { s2 with heap:=s2.heap.push { cls:=.type "list",data:=.seq ([]:List Value).toArray } } :=
  I2.lnew (ys:=[]) (its:=[]) (t':=s2.toks) .nil (QA _)
 have fpl:∀b∈fp,b<s2.heap.objs.size:=fun b hb=>by
  obtain⟨ob,e,_⟩:=T.obj 0 _ st2 b hb
  exact Qi e
 refine wpAny_newObj_type (wpAny_newFunctionEnv S.nocell (by intro y hy;simp at hy) (fun h₁ hns₁ hsb₁=>?_) S.kind)
 have e3:∃s3:Shared,s3={ s2 with heap:=s2.heap.push { cls:=.type "list",data:=.seq ([]:List Value).toArray } }:=⟨_,rfl⟩
 obtain⟨s3,hs3⟩:=e3
 have e3:s3.heap=s2.heap.push { cls:=.type "list",data:=.seq ([]:List Value).toArray }:=by rw[hs3]
 have sz3:s3.heap.objs.size=s2.heap.objs.size+1:=by rw[e3,Qac]
 have fpl3:∀b∈fp,b<s3.heap.objs.size:=fun b hb=>Qo (fpl b hb) (by rw[sz3];exact Q8 _)
 have f3:∀b∈fp,ZbS X pins (upd H2 s2.heap.objs.size (.lst [])) b:=fun b hb=>⟨by rw[Zf (Qx (fpl b hb))];exact(f2 b hb).1,(f2 b hb).2⟩
 have st3:tn 0 s3.heap:=T.keep 0 _ _ st2 fun b _ ob e=>by rw[e3];exact Qc _ e
 rw[← hs3]at I3
 show codeAny (model X.prog X.w) X.A (.compStart _ 0 (.ref it) (.ref s2.heap.objs.size) (compEnvC c (ZJ X.env.cells c.names []) (s2.heap.push { cls:=.type "list",data:=.seq ([]:List Value).toArray }).objs.size X.env))
  (compPost (model X.prog X.w) X.A X.xe use QQ (.ref s2.heap.objs.size) (s2.heap.push { cls:=.type "list",data:=.seq ([]:List Value).toArray }).objs.size)
  { s2 with heap:=h₁,toks:=s2.toks+([]:List (Str×Value)).length }
 have hns:h₁.Ns s3.heap.objs.size (fun x=>([]:List (Str×Value)).reverse.lookup x):=by rw[e3];exact hns₁
 have hk1:∀b ob,s3.heap.get? b=some ob→h₁.get? b=some ob:=fun b ob e=>by
  rw[e3]at e
  exact hsb₁.extBut b ob (Qx (Qi e)) (Qc _ e)
 rw[← e3]
 have es4:({ s2 with heap:=h₁,toks:=s2.toks+([]:List (Str×Value)).length }:Shared)={ s3 with heap:=h₁,toks:=s2.toks }:=by rw[hs3];rfl
 rw[es4]
 obtain⟨W,⟨m0,w0⟩,turn⟩:=hR s2.heap.objs.size hD
 have I4:=ZfG (tk:=s2.toks) S hN ho I3 f3 fpl3 hns hk1
 have st4:tn 0 h₁:=T.keep 0 _ _ st3 fun b _ ob e=>hk1 b ob e
 generalize hX:ZK X c N' s3.heap.objs.size s3 (upd H2 s2.heap.objs.size (.lst [])) fp=Y at I4
 have Yp:Y.prog=X.prog:=by rw[← hX];rfl
 have Yw:Y.w=X.w:=by rw[← hX];rfl
 have YK:Y.K=X.K:=by rw[← hX];rfl
 have Yc:Y.calm=true:=by rw[← hX];exact hc
 have YA:Y.A=X.A:=by rw[← hX];rfl
 have Yenv:Y.env=compEnvC c (ZJ X.env.cells c.names []) s3.heap.objs.size X.env:=by rw[← hX];rfl
 have Yl:Y.env.locals=s3.heap.objs.size:=by rw[Yenv];rfl
 have Yxe:Y.xe=fun _ _=>False:=by rw[← hX];rfl
 have hg':=hg s3.heap.objs.size s3 (upd H2 s2.heap.objs.size (.lst [])) fp
 have ht':=ht s3.heap.objs.size s3 (upd H2 s2.heap.objs.size (.lst [])) fp
 have he':=he s3.heap.objs.size s3 (upd H2 s2.heap.objs.size (.lst [])) fp
 rw[hX]at hg' ht' he'
 have stat:∀ {H':Hp},(∀b∈fp,H' b=none)→∀b∈fp,ZbS Y [] H' b:=fun {H'} hn b hb=>by
  obtain⟨_,q1,q2,q3,q4,_⟩:=f3 b hb
  have z1:=I4.ok.exf b (by rw[← hX];exact hb)
  refine⟨hn b hb,z1.1,I4.ok.exfs b (by rw[← hX];exact hb),.inl (by rw[← hX];exact hb),z1.2,fun p hp=>?_⟩
  have hp':p∈([]:List (Addr×Obj)):=by
   have:Y.pn=[]:=by rw[← hX];rfl
   rw[this]at hp;exact hp
  cases hp'
 have fin:∀ (s5:Shared) (σ5:St) (H5:Hp),Inv Y [] σ5 H5 s5→Q (.ref s2.heap.objs.size) H5→compPost (model X.prog X.w) X.A X.xe use QQ (.ref s2.heap.objs.size) s3.heap.objs.size (.ok .next) s5:=fun s5 σ5 H5 I5 q=>by
  obtain⟨m,hn,_⟩:=id I5.loc
  rw[Yl]at hn
  have hCn:H5 s3.heap.objs.size=none:=by have:=I5.free;rw[Yl]at this;exact this
  have un:Un (frs X.stack) fp (upd H2 s2.heap.objs.size (.lst [])) H5 s3.heap s5.heap:=by
   have:=I5.base
   rw[← hX]at this
   exact this
  have os5:s5.os=s3.os:=by have:=I5.os;rw[← hX]at this;exact this
  have hok5:HOk X.prog X.w H5 s5.heap:=by
   have:=I5.hok
   rw[Yp,Yw]at this
   exact this
  refine post _ _ s5 H5 m (I3.call' (s':=s5) (ch:=fp) os5 un hok5 I5.bare fun b hb=>?_) hCn hn (QU I3.lt) I3.sz (fun x a e=>?_) (fun p hp=>?_) q
  ·obtain⟨_,q1,_,q3,q4,q5⟩:=f3 b hb
   exact⟨q3,q1,q4,q5⟩
  ·obtain⟨v,ob,e',_⟩:=I3.cell x a e
   exact Qx (Qi e')
  ·exact Qx (Qi (I3.pin p hp).1)
 have loop:codeAny (model X.prog X.w) X.A (.compLoop (.ListComp elt [⟨tg,iter,ifs,0⟩] c pos) 0 (.ref it) (.ref s2.heap.objs.size) (compEnvC c (ZJ X.env.cells c.names []) s3.heap.objs.size X.env))
   (compPost (model X.prog X.w) X.A X.xe use QQ (.ref s2.heap.objs.size) s3.heap.objs.size) { s3 with heap:=h₁,toks:=s2.toks }:=by
  rw[← Yenv,← YA]
  refine Zdf (E:=fun _ _=>False) (fun n s'=>∃i ys σ' H',Inv Y [] σ' H' s'∧tn i s'.heap∧(∀b∈fp,H' b=none)∧W i n ys σ' H') (fun _ _ z=>z) ?_ m0
   ⟨0,[],_,_,I4,st4,fun b hb=>(f3 b hb).1,?_⟩
  ·rintro n s5 ⟨i,ys,σ5,H5,I5,st5,fr5,w5⟩
   rcases turn i n ys σ5 H5 w5 with⟨stop,qn⟩|⟨go,Nn,hNn,step⟩
   ·refine thn (T.done Y Yp Yw YK Yc i [] s5 σ5 H5 _ I5 (stat fr5) st5 stop) ?_
    rintro r s6 ⟨hr,I6⟩
    subst hr
    have fq:=fin s6 σ5 H5 I6 qn
    rw[← YA]at fq
    exact fq
   ·refine thn (T.item Y Yp Yw YK Yc i [] s5 σ5 H5 _ I5 (stat fr5) st5 go) ?_
    rintro r s6 ⟨u,hr,h6⟩
    subst hr
    refine thn h6 ?_
    rintro _ s7 ⟨x,H7,I7,r7,y7,st7,fr7⟩
    have I7':=I7.pinned (stat fr7) (T.obj _ _ st7)
    have back:∀ {σ9:St} {H9:Hp} {s9:Shared},Inv Y ([]++Zcg fp s7.heap) σ9 H9 s9→Inv Y [] σ9 H9 s9∧tn (i+1) s9.heap∧∀b∈fp,H9 b=none:=fun {σ9 H9 s9} I9=>by
     refine⟨I9.unpinned,T.keep _ _ _ st7 fun b hb ob e=>(I9.pin (b,ob) (Qe _ (Qe _ (ZaP hb e)))).1,fun b hb=>?_⟩
     obtain⟨ob,e,d⟩:=T.obj _ _ st7 b hb
     exact(I9.pin (b,ob) (Qe _ (Qe _ (ZaP hb e)))).2.1
    have P1:=hg' _ s7 σ5 H7 x u _ I7' r7 (step x H7 y7)
    rw[Yp,Yw,Yxe]at P1
    refine thn P1 ?_
    rintro _ s8 ⟨σ8,H8,I8,q8⟩
    have P2:=ht' _ s8 σ8 H8 _ I8 q8
    rw[Yp,Yw,Yxe]at P2
    refine thn P2 ?_
    rintro ok s9 ⟨H9,I9,q9⟩
    cases ok with
    | false =>
     rw[if_neg Qm]at q9
     rw[if_neg Qm]
     obtain⟨b1,b2,b3⟩:=back I9
     obtain⟨m',hm',w9⟩:=hNn _ _ _ q9
     exact⟨m',hm',i+1,ys,σ8,H9,b1,b2,b3,w9⟩
    | true =>
     rw[if_pos rfl]at q9
     rw[if_pos rfl]
     have P3:=he' _ s9 σ8 H9 _ I9 q9
     rw[Yp,Yw,Yxe]at P3
     refine thn P3 ?_
     rintro y s10 ⟨vy,H10,I10,r10,hDl,hsz,q10⟩
     have P4:=Z8 (X:=Y) _ s10 σ8 H10 (.ref s2.heap.objs.size) [vy] (.ref s2.heap.objs.size) [y] (fun _ H'=>Nn (ys++[vy]) σ8 H') I10 rfl (.cons r10 .nil) ⟨_,ys,vy,rfl,rfl,hDl,hsz,q10⟩
     rw[Yp,Yw,Yxe]at P4
     refine thn P4 ?_
     rintro _ s11 ⟨_,H11,I11,_,q11⟩
     obtain⟨b1,b2,b3⟩:=back I11
     obtain⟨m',hm',w11⟩:=hNn _ _ _ q11
     exact⟨m',hm',i+1,ys++[vy],σ8,H11,b1,b2,b3,w11⟩
  ·exact w0
 have lp:=T.self X.A 0 { s3 with heap:=h₁,toks:=s2.toks } (fun it' s'=>codeAny (model X.prog X.w) X.A (.compLoop (.ListComp elt [⟨tg,iter,ifs,0⟩] c pos) 0 it' (.ref s2.heap.objs.size) (compEnvC c (ZJ X.env.cells c.names []) s3.heap.objs.size X.env))
   (compPost (model X.prog X.w) X.A X.xe use QQ (.ref s2.heap.objs.size) s3.heap.objs.size) s') (fun _ _=>False) st4 loop
 exact codeAny_compStart_list loop (wpAny_mono lp (fun _ _ z=>z) fun _ _ z=>z.elim)
theorem Inv.let{pins:List (Addr×Obj)}{σ:St}{H:Hp}{s:Shared}{C:Addr}{h':Heap}(I:Inv X pins σ H s)(hn:H C=none)(hL:C≠X.env.locals)(h1:X.s₀.heap.objs.size≤C)
  (h2:∀x a,X.env.cells.lookup x=some a→a≠C) (h3:∀p∈X.pn++pins,p.1≠C) (hs:Heap.SameBut C s.heap h'):Inv X pins σ H { s with heap:=h' } :=
 I.turned (t':=s.toks) (fun b ob hb e=>hs.extBut b ob hb e) hn hL (.inr h1) h2 h3
theorem Zbd{elt tg iter:Expr}{ifs:List Expr}{pos:Pos}{wi:TI}{g:TG}{tc:TT}{te:TE}(S:ZE N N' o c)(hN:X.N=N)(ho:X.env.scope=o)(hc:X.calm=true)
  (hi:PI X tg iter wi) (hg:∀C s H fp,PG (ZK X c N' C s H fp) tg g) (ht:∀C s H fp,PTs (ZK X c N' C s H fp) ifs tc) (he:∀C s H fp,PE (ZK X c N' C s H fp) elt te)
  (hs:∀x,foldedSetIterable iter X.env x=pure x:=by intro _;rfl) :
  PE X (.ListComp elt [⟨tg,iter,ifs,0⟩] c pos) (Zfz (N'.length-N.length) wi g tc te):=by
 intro pins s σ H Q I h
 rw[eval_ListComp]
 refine Zdx (use:=none) S hN ho hc hi hg ht he hs I h fun D C s5 H5 m I5 hCn hn n1 n2 n3 n4 q=>⟨m,hn,fun h' hsb=>?_⟩
 exact⟨.ref D,H5,I5.let hCn n1 n2 n3 n4 hsb,rfl,q⟩
theorem Zb7{i:Nat}{x:Str}{elt tg iter:Expr}{ifs:List Expr}{pos pos' spos:Pos}{wi:TI}{g:TG}{tc:TT}{te:TE}(hnd:X.N.Nodup)(hx:X.N[i]? = some x)(hl:Loc X.env.scope x)(S:ZE N N' o c)(hN:X.N=N)(ho:X.env.scope=o)(hc:X.calm=true)
  (hi:PI X tg iter wi) (hg:∀C s H fp,PG (ZK X c N' C s H fp) tg g) (ht:∀C s H fp,PTs (ZK X c N' C s H fp) ifs tc) (he:∀C s H fp,PE (ZK X c N' C s H fp) elt te)
  (hsw:swapsWith (.ListComp elt [⟨tg,iter,ifs,0⟩] c pos) (some (.Name x pos')) spos.line X.env=pure true)
  (hs:∀x,foldedSetIterable iter X.env x=pure x:=by intro _;rfl) (hf:X.fn x=true∨X.env.scope.names.lookup x=some .local:=by first|exact .inl rfl|exact .inr rfl|assumption) :
  PS X (.Assign [.Name x pos'] (.ListComp elt [⟨tg,iter,ifs,0⟩] c pos) spos) (Zit (Zfz (N'.length-N.length) wi g tc te) (Zez i)):=by
 intro pins s σ H D I h
 rw[exec_Assign_Name_used _ _ _ _ hsw]
 refine wpAny_bind (wpAny_standAt (wpAny_bind ?_))
 show wpAny _ X.A (do let _ ← comprehension (.ListComp elt [⟨tg,iter,ifs,0⟩] c pos) c X.env _ (newList []) false (eval iter X.env) (some (assign (.Name x pos') X.env))) _ _ s
 refine wpAny_bind (thn (Zdx (QQ:=fun _ s'=>SP X pins D .next s') (use:=some (assign (.Name x pos') X.env)) S hN ho hc hi hg ht he hs I h ?_) fun _ s' hq=>wpAny_pure (wpAny_pure hq))
 intro L C s5 H5 m I5 hCn hn n1 n2 n3 n4 q
 show wpAny _ X.A (assign (.Name x pos') X.env (.ref L)) _ _ _
 refine wpAny_assign_Name (Zct (v:=.ref L) I5 hnd hx hl rfl (?_) hf)
 rintro s6 I6 ⟨a,hsb,ha⟩
 have nCa:C≠a:=by
  rcases ha with z|z
  ·rw[z];exact n1
  ·exact(n3 x a z).symm
 exact⟨m,hn.sameBut hsb nCa,fun h' hsb'=>⟨_,H5,I6.let hCn n1 n2 n3 n4 hsb',q⟩⟩
end
theorem Zac{ys:List Str}:∀ {us:List Value},Zm (ys.map V.str) us→StrsAre us ys:=by
 induction ys with
 | nil=>intro us r;rw[List.map_nil]at r;cases r;exact .nil
 | cons y ys ih =>
  intro us r
  rw[Qv]at r
  cases r with
  | cons r1 r2 =>
   obtain⟨t,e⟩:=r1
   subst e
   exact .cons _ _ (ih r2)
theorem Zbc:∀ {vs:List Value} {ys:List Str},StrsAre vs ys→Zm (ys.map V.str) vs
 | _,_,.nil=>.nil
 | _,_,.cons _ t h=>.cons ⟨t,rfl⟩ (Zbc h)
section
variable {X:Cx}
def ZiG(K:PySem.W.Frag):List V→Hp→VK→Prop:=fun xs H Q=>∃x c t b,xs=[x,.ty c]∧Zbt K H x t∧PySem.W.kitOne K t (.type c)=some b∧Q (.bl b) H
theorem Zfx:ZT X (.builtin "isinstance") (ZiG X.K):=by
 intro pins s σ H xs us Q I r h
 obtain⟨x,c,t,b,rfl,ty,e,q⟩:=h
 obtain⟨u,w',rfl,rx,rc⟩:=Zeq r
 cases rc
 exact Zft I rx ty e fun tk=>⟨.bl b,H,I.tok _,rfl,q⟩
def Zhu(K:PySem.W.Frag):List V→Hp→VK→Prop:=fun xs H Q=>∃ (x:V) (tp:Addr) (cs:List String) (t:Value) (b:Bool),xs=[x,.ref tp]∧H tp=some (.tup (cs.map V.ty))∧Zbt K H x t∧PySem.W.kitAny K t (cs.map Value.type)=some b∧Q (.bl b) H
theorem ZgP{cs:List String}:∀ {us:List Value},Zm (cs.map V.ty) us→us=cs.map Value.type:=by
 induction cs with
 | nil=>intro us r;rw[List.map_nil]at r;cases r;rfl
 | cons y ys ih =>
  intro us r
  rw[Qv]at r
  cases r with
  | cons r1 r2=>rw[show _=Value.type y from r1,ih r2];rfl
theorem Zfo:ZT X (.builtin "isinstance") (Zhu X.K):=by
 intro pins s σ H xs us Q I r h
 obtain⟨x,tp,cs,t,b,rfl,ht,ty,e,q⟩:=h
 obtain⟨u,w',rfl,rx,rc⟩:=Zeq r
 cases rc
 obtain⟨_,its,rv,⟨ot,e1,e2,n,e3⟩⟩:=I.hok tp _ ht
 have ei:=ZgP rv
 subst ei
 obtain⟨oc,od,dt,sl⟩:=ot
 have e2':oc=Value.type "tuple":=e2
 have e3':dt=Data.seq (cs.map Value.type).toArray n:=e3
 subst e2';subst e3'
 have fin:∀tk,EP X pins σ Q (.bool b) { s with toks:=tk }:=fun tk=>⟨.bl b,H,I.tok _,rfl,q⟩
 cases ty with
 | non=>cases (show u=Value.none from rx);exact QL PySem.W.kitx_none I.kIn True.intro e1 e (fun z=>nomatch z) fin
 | bl y=>cases (show u=Value.bool y from rx);exact QL PySem.W.kitx_bool I.kIn True.intro e1 e (fun z=>nomatch z) fin
 | int i=>obtain⟨t,q⟩:=(show ∃t,u=Value.int i t from rx);cases q;exact QL PySem.W.kitx_int I.kIn True.intro e1 e (fun z=>nomatch z) fin
 | str y=>obtain⟨t,q⟩:=(show ∃t,u=Value.str y t from rx);cases q;exact QL PySem.W.kitx_str I.kIn True.intro e1 e (fun z=>nomatch z) fin
 | flt y=>obtain⟨t,q⟩:=(show ∃t,u=Value.float y t from rx);cases q;exact QL PySem.W.kitx_float I.kIn True.intro e1 e (fun z=>nomatch z) fin
 | @lst a xs ea =>
  cases (show u=Value.ref a from rx)
  obtain⟨_,_,n,_,h1⟩:=(show ZN X.prog X.w H s.heap a (.lst xs) from I.hok a _ ea)
  exact QL Qax I.kIn ⟨_,h1,rfl⟩ e1 e (fun z=>nomatch z) fin
 | @frz a ob xs ea =>
  cases (show u=Value.ref a from rx)
  obtain⟨_,_,_,n,_,h1⟩:=(show ZN X.prog X.w H s.heap a (.frz ob (.lst xs)) from I.hok a _ ea)
  exact QL Qax I.kIn ⟨_,h1,rfl⟩ e1 e (fun z=>nomatch z) fin
 | @tup a xs ea =>
  cases (show u=Value.ref a from rx)
  obtain⟨_,_,_,p⟩:=(show ZN X.prog X.w H s.heap a (.tup xs) from I.hok a _ ea)
  obtain⟨o,h1,h2,_⟩:=p
  exact QL PySem.W.kitx_tuple I.kIn ⟨o,h1,h2⟩ e1 e (fun z=>nomatch z) fin
 | @dK a kvs ea =>
  cases (show u=Value.ref a from rx)
  obtain⟨_,_,vs,_,p⟩:=(show ZN X.prog X.w H s.heap a (.dK kvs) from I.hok a _ ea)
  obtain⟨o,es,ep,h1,h2,_⟩:=p
  exact QL Qay I.kIn ⟨o,h1,h2.1⟩ e1 e (fun z=>nomatch z) fin
 | @dT a kvs ea =>
  cases (show u=Value.ref a from rx)
  obtain⟨_,_,xs,_,o,es,ep,h1,h2,_⟩:=(show ZN X.prog X.w H s.heap a (.dT kvs) from I.hok a _ ea)
  exact QL Qay I.kIn ⟨o,h1,h2.1⟩ e1 e (fun z=>nomatch z) fin
 | @ins a C dx fs ea cl ha hn htk hm =>
  cases (show u=Value.ref a from rx)
  obtain⟨mA,O,_⟩:=ZeH I.hok ea
  obtain⟨od,J,_⟩:=O.look
  exact QL (PySem.W.kitx_own (cl.get _) cl.hd ha hn htk hm) I.kIn J e1 e (fun z=>nomatch z) fin
theorem Zfw(hc:X.calm=true):ZT X (.builtin "all") (fun xs H Q=>∃ (p:Addr) (bs:List Bool),xs=[.ref p]∧SqL X.K H p (bs.map V.bl)∧Q (.bl (bs.all id)) H):=by
 intro pins s σ H xs us Q I r h
 obtain⟨p,bs,rfl,hq,q⟩:=h
 obtain⟨u,rfl,rx⟩:=Zbh r
 cases rx
 obtain⟨its,rv,pl,hz⟩:=I.list hq
 have hl:=pl.isList
 have hlt:p<s.heap.objs.size:=by obtain⟨_,e,_⟩:=hl;exact Qi e
 refine call_all_walk (wpAny_pyIter_list hl ?_)
 refine⟨s.heap.objs.size,[s.heap.objs.size,p],[s.heap.objs.size],its.toArray.size,_,_,fun i=>(bs[i]?).getD true,rfl,Walks.list (A:=X.A.in1) (I.ok.hd hc) _ p (Qx hlt) its.toArray,
  ⟨⟨_,Qr _ rfl,rfl,rfl⟩,hl.push _⟩,fun i v s' Q' E' hP hQ=>?_,fun h' tk hk=>?_⟩
 ·have hP':its[i]? = some v:=by simpa using hP
  have hi:i<its.length:=(Qj.mp hP').1
  have hlen:=rv.length
  have hb:(bs.map V.bl)[i]? = some (V.bl (bs[i]'(by rw[Qb]at hlen;omega))):=by
   rw[Qu,Qa (by rw[Qb]at hlen;omega)];rfl
  obtain⟨u',hu',ru'⟩:=rv.get hb
  rw[hP']at hu';cases hu'
  obtain rfl:v=Value.bool _:=ru'
  have hQ2:Q' ((bs[i]?).getD true) s':=hQ
  rw[Qa (by rw[Qb]at hlen;omega)]at hQ2
  exact wpAny_truthy_bool hQ2
 ·have e:((List.range its.toArray.size).all fun i=>(bs[i]?).getD true)=bs.all id:=by
   have hlen:=rv.length
   rw[Qb]at hlen
   rw[Qk,← hlen,Qau,QaF,QaF]
   constructor
   ·intro z b hb
    obtain⟨i,hi,rfl⟩:=QY.mp hb
    have:=z i (List.mem_range.mpr hi)
    rw[Qa hi]at this
    exact this
   ·intro z i hi
    have hi':=List.mem_range.mp hi
    rw[Qa hi']
    exact z _ (QX hi')
  refine⟨.bl (bs.all id),H,I.kept fun b ob e'=>hk b ob (fun hm=>?_) (Qc _ e'),by rw[e];rfl,q⟩
  rw[Qf.mp hm]at e'
  exact Q4 _ (Qi e')
theorem Zde:ZT X (.builtin "sorted") (fun xs H Q=>∃ (p:Addr) (ss:List Str),xs=[.ref p]∧SqL X.K H p (ss.map V.str)∧ss.length<64 ∧
  ∀ (l:Addr) (ss':List Str),H l=none→ss'.Perm ss→sortedS ss'=true→Q (.ref l) (upd H l (.lst (ss'.map V.str)))):=by
 intro pins s σ H xs us Q I r h
 obtain⟨p,ss,rfl,hq,h64,q⟩:=h
 obtain⟨u,rfl,rx⟩:=Zbh r
 cases rx
 obtain⟨its,rv,pl,hz⟩:=I.list hq
 have hlen:=rv.length
 rw[Qb]at hlen hz
 refine sorted_strs pl.isList (Zac rv) (by omega) fun out ss' a1 a2 a3=>?_
 obtain⟨e,he⟩:=sortedAll_at s.heap its out
 have hp:=a2.length_eq
 refine⟨.ref (s.heap.objs.size+1),_,I.laid (t':=s.toks) (o:=.lst (ss'.map V.str)) (fun _ _=>sortedAll_old) (Q8 _) ⟨by rw[Qb];omega,out.toList,e,Zbc a1,by simpa using he⟩,rfl,q _ ss' (I.hok.fresh (Q8 _)) a2 a3⟩
theorem ZgG:MtR X "str.join" (fun x vs H Q=>∃ (sep:Str) (p:Addr) (ys:List Str),x=.str sep∧vs=[.ref p]∧SqL X.K H p (ys.map V.str)∧(ys.map (·.length)).sum+ys.length*sep.length≤16777216∧Q (.str (Txt.join sep ys)) H):=by
 intro pins s σ H x vs v us Q I rx rv h
 obtain⟨sep,p,ys,rfl,rfl,hq,hz,q⟩:=h
 obtain⟨t,rfl⟩:=rx
 obtain⟨u,rfl,ru⟩:=rv.one
 cases ru
 obtain⟨its,r',pl,_⟩:=I.list hq
 exact join_list pl.isList (Zac r') hz fun t' k=>⟨.str _,H,I.tok _,⟨_,rfl⟩,q⟩
theorem Zg2:OpR X (binaryOp .Mult) (fun x y H Q=>∃a n,x=.str a∧y=.int n∧0≤n∧n≤1000000∧(a.length:Int)*n≤1000000∧Q (.str (Txt.mul a n)) H):=by
 intro pins s σ H x y v u Q I rx ry h
 obtain⟨a,n,rfl,rfl,h0,h1,h2,q⟩:=h
 obtain⟨t,rfl⟩:=rx
 obtain⟨t',rfl⟩:=ry
 have h2':a.length*n.toNat≤1000000:=by
  have e:((a.length*n.toNat:Nat):Int)=(a.length:Int)*n:=by rw[Int.natCast_mul,Int.toNat_of_nonneg h0]
  omega
 refine PySem.P.mul_str ?_ (fun c1 c2=>?_) (fun c1 c2=>?_) ?_
 ·have e1:decide (n < -(2 ^ 63:Int))=false:=decide_eq_false (by omega)
  have e2:decide (n≥2 ^ 63)=false:=decide_eq_false (by omega)
  rw[e1,e2];rfl
 ·have hn:(1:Int)≤n:=by omega
  have q1:(a.length:Int)*1≤(a.length:Int)*n:=Int.mul_le_mul_of_nonneg_left hn (Int.natCast_nonneg _)
  have q2:(1000000:Int)≤(2 ^ 63-1) / n:=by
   rw[Int.le_ediv_iff_mul_le (by omega)]
   have:(1000000:Int)*n≤1000000*1000000:=Int.mul_le_mul_of_nonneg_left h1 (by decide)
   omega
  omega
 ·unfold Builtin.Str.tooLong
  have hl:sizeLine=16777216:=sizeLine_eq
  exact decide_eq_false (by omega)
 ·have e:Txt.mul a n=if n<1 then Str.empty else if (n == 1||a.length == 0)=true then a else ⟨(List.replicate n.toNat a.cps).foldl (·++·) #[]⟩:=rfl
  rw[e]at q
  by_cases c1:n<1
  ·rw[if_pos c1]at q ⊢
   exact⟨by decide,.str _,H,I.tok _,⟨_,rfl⟩,q⟩
  ·rw[if_neg c1]at q ⊢
   by_cases c2:(n == 1||a.length == 0)=true
   ·rw[if_pos c2]at q ⊢
    exact⟨.str _,H,I,⟨_,rfl⟩,q⟩
   ·rw[if_neg c2]at q ⊢
    refine⟨?_,.str _,H,I.tok _,⟨_,rfl⟩,q⟩
    have hfold:∀ (k:Nat) (acc:Array Nat),((List.replicate k a.cps).foldl (·++·) acc).size=acc.size+k*a.cps.size:=by
     intro k
     induction k with
     | zero=>intro acc;simp
     | succ k ih=>intro acc;rw[List.replicate_succ,List.foldl_cons,ih,Array.size_append,Nat.succ_mul];omega
    show ((List.replicate n.toNat a.cps).foldl (·++·) #[]).size≤sizeLine
    rw[hfold]
    have e2:a.cps.size=a.length:=rfl
    have:n.toNat*a.cps.size≤1000000:=by rw[e2,Nat.mul_comm];exact h2'
    have hl:sizeLine=16777216:=sizeLine_eq
    simp only[List.size_toArray,List.length_nil]
    omega
def rSlS:V→Option Int→Option Int→Hp→VK→Prop:=fun x lo hi H Q=>∃z,x=.str z∧z.length≤sizeLine∧Q (.str (Txt.slice z lo hi)) H
end
inductive Src where
 | l (a:Addr)|t (a:Addr)|s (z:Str)
def Src.val:Src→V
 | .l a=>.ref a
 | .t a=>.ref a
 | .s z=>.str z
def Zg5(c:Nat):V:=.str ⟨#[c]⟩
def Src.its(K:PySem.W.Frag)(H:Hp):Src→List V→Prop
 | .l a,xs=>SqL K H a xs
 | .t a,xs=>SqT K H a xs
 | .s z,xs=>xs=z.cps.toList.map Zg5
def Src.at(h:Heap)(i:Addr):Src→Nat→Prop
 | .l a,k=>h.IsListIter i a k
 | .t a,k=>h.IsTupleIter i a k
 | .s z,k=>∃tk,h.IsStrIter i (strIterType z) z tk k
def Src.raw(h:Heap):Src→List Value→Prop
 | .l a,us=>h.IsList a us.toArray
 | .t a,us=>h.IsTuple a us.toArray
 | .s _,_=>True
def Src.fit:Src→List Value→Nat→Value→Prop
 | .l _,us,k,u=>us[k]? = some u
 | .t _,us,k,u=>us[k]? = some u
 | .s z,_,k,u=>∃c tk,z.cps[k]? = some c∧u=.str ⟨#[c]⟩ tk
def Src.many:Src→List Value→Nat
 | .l _,us=>us.length
 | .t _,us=>us.length
 | .s z,_=>z.cps.size
def Src.off:Src→Addr→Prop
 | .l a,b=>a≠b
 | .t a,b=>a≠b
 | .s _,_=>True
theorem Src.at_obj{h:Heap}{i:Addr}:∀ {S:Src} {k:Nat},S.at h i k→∃o vs,h.get? i=some o∧o.data=.fields vs
 | .l _,_,⟨o,e,_,d⟩=>⟨o,_,e,d⟩
 | .t _,_,⟨o,e,_,d⟩=>⟨o,_,e,d⟩
 | .s _,_,⟨_,o,e,_,d⟩=>⟨o,_,e,d⟩
theorem Src.at_keep{h h':Heap}{i:Addr}(k':∀o,h.get? i=some o→h'.get? i=some o):∀ {S:Src} {k:Nat},S.at h i k→S.at h' i k
 | .l _,_,⟨o,e,d⟩=>⟨o,k' o e,d⟩
 | .t _,_,⟨o,e,d⟩=>⟨o,k' o e,d⟩
 | .s _,_,⟨tk,o,e,d⟩=>⟨tk,o,k' o e,d⟩
theorem Src.raw_keep{h h':Heap}{b:Addr}(k':∀c o,c≠b→h.get? c=some o→h'.get? c=some o):∀ {S:Src} {us:List Value},S.off b→S.raw h us→S.raw h' us
 | .l _,_,f,⟨o,e,d⟩=>⟨o,k' _ o f e,d⟩
 | .t _,_,f,⟨o,e,d⟩=>⟨o,k' _ o f e,d⟩
 | .s _,_,_,_=>trivial
section
variable {prog:Program} {w:World} {A:Around} {E:Value→Shared→Prop} {s:Shared}
theorem ZcZ{it t:Addr}{i:Nat}{items:Array Value}{x:Value}{Q:Value→Shared→Prop}(hit:s.heap.IsTupleIter it t i)(ht:s.heap.IsTuple t items)(hx:items[i]? = some x)
  (hQ:∀h',h'.IsTupleIter it t (i+1)→Heap.SameBut it s.heap h'→Q x { s with heap:=h' }):wpAny (model prog w) A (Builtin.SmallTypes.nextOf (.ref it)) Q E s:=by
 obtain⟨o,ho,hc,hd⟩:=id hit
 obtain⟨ol,hol,_,nl,hdl⟩:=ht
 unfold Builtin.SmallTypes.nextOf
 refine wpAny_bind (wpAny_callSpecial?_slot (name:=Str.ofString "__next__") hit.typeIs F.slot_tuple_iterator_next
  (wpAny_call_entry F.slot_tuple_iterator_next hit.typeIs F.entry_tuple_iterator_next ?_ (F.args_tuple_iterator_next_1 _)))
 show wpAny _ _ (field (.ref it) 0 >>= _) _ _ s
 refine wpAny_bind (wpAny_field ho hd (x:=.ref t) rfl ?_)
 show wpAny _ _ (if (Value.ref t == Value.none)=true then _ else _) _ _ s
 rw[if_neg (show ¬ ((Value.ref t == Value.none)=true) from Qm)]
 show wpAny _ _ (field (.ref it) 1 >>= _) _ _ s
 refine wpAny_bind (wpAny_field ho hd (x:=.int i 0) rfl ?_)
 show wpAny _ _ (seqItems? (.ref t) >>= _) _ _ s
 refine wpAny_bind (wpAny_seqItems hol hdl ?_)
 simp only[Int.toNat_natCast,hx]
 refine wpAny_bind (wpAny_setField ho hd (by simp) (wpAny_pure ⟨x,rfl,wpAny_pure (hQ _ ?_ (Heap.SameBut.update ..))⟩))
 exact⟨_,Heap.get?_update_self _ ho (Obj.isFreed_of_fields (Obj.data_mapFields hd _)),(Obj.cls_mapFields ..).trans hc,by
  rw[Obj.data_mapFields hd];simp[rawInt]⟩
theorem Za3{i:Addr}{k:Nat}{us:List Value}{Q:Value→Shared→Prop}:∀ {S:Src},S.at s.heap i k→S.raw s.heap us→k<S.many us →
  (∀h' tk u,S.fit us k u→S.at h' i (k+1)→Heap.SameBut i s.heap h'→Q u { s with heap:=h',toks:=tk })→wpAny (model prog w) A (Builtin.SmallTypes.nextOf (.ref i)) Q E s
 | .l a,h1,h2,h3,hQ=>wpAny_nextOf_list_item h1 h2 (x:=us[k]'h3) (by rw[Q6];exact Qa h3) fun h' q1 q2=>hQ h' s.toks _ (Qa h3) q1 q2
 | .t a,h1,h2,h3,hQ=>ZcZ h1 h2 (x:=us[k]'h3) (by rw[Q6];exact Qa h3) fun h' q1 q2=>hQ h' s.toks _ (Qa h3) q1 q2
 | .s z,⟨tk,h1⟩,h2,h3,hQ=>by
  have hx:z.cps[k]? = some z.cps[k]:=Array.getElem?_eq_getElem h3
  by_cases ha:z.cps.all (·<128)=true
  ·have e:strIterType z = "str_ascii_iterator":=by unfold strIterType;rw[if_pos ha]
   rw[e]at h1
   exact wpAny_nextOf_ascii_item h1 hx fun h' q1 q2=>hQ h' _ _ ⟨_,_,hx,rfl⟩ ⟨tk,by rw[e];exact q1⟩ q2
  ·have e:strIterType z = "str_iterator":=by unfold strIterType;rw[if_neg ha]
   rw[e]at h1
   exact wpAny_nextOf_wide_item h1 hx fun h' q1 q2=>hQ h' _ _ ⟨_,_,hx,rfl⟩ ⟨tk,by rw[e];exact q1⟩ q2
theorem ZbI{it t:Addr}{i:Nat}{items:Array Value}{Q:Value→Shared→Prop}(hh:A.handled=none)(hit:s.heap.IsTupleIter it t i)(ht:s.heap.IsTuple t items)(hx:items[i]? = none)
  (hE:∀h' e,Heap.ExtBut it s.heap h'→(∃o,h'.get? e=some o∧o.cls=.type "StopIteration")→E (.ref e) { s with heap:=h' }):wpAny (model prog w) A (Builtin.SmallTypes.nextOf (.ref it)) Q E s:=by
 obtain⟨o,ho,hc,hd⟩:=id hit
 obtain⟨ol,hol,_,nl,hdl⟩:=ht
 unfold Builtin.SmallTypes.nextOf
 refine wpAny_bind (wpAny_callSpecial?_slot (name:=Str.ofString "__next__") hit.typeIs F.slot_tuple_iterator_next
  (wpAny_call_entry F.slot_tuple_iterator_next hit.typeIs F.entry_tuple_iterator_next ?_ (F.args_tuple_iterator_next_1 _)))
 show wpAny _ _ (field (.ref it) 0 >>= _) _ _ s
 refine wpAny_bind (wpAny_field ho hd (x:=.ref t) rfl ?_)
 show wpAny _ _ (if (Value.ref t == Value.none)=true then _ else _) _ _ s
 rw[if_neg (show ¬ ((Value.ref t == Value.none)=true) from Qm)]
 show wpAny _ _ (field (.ref it) 1 >>= _) _ _ s
 refine wpAny_bind (wpAny_field ho hd (x:=.int i 0) rfl ?_)
 show wpAny _ _ (seqItems? (.ref t) >>= _) _ _ s
 refine wpAny_bind (wpAny_seqItems hol hdl ?_)
 simp only[Int.toNat_natCast,hx]
 refine wpAny_bind (wpAny_rule (wpAny_bind (wpAny_setField ho hd (by simp) ?_)))
 show wpAny _ _ (newExc (.type "StopIteration") [] >>= _) _ _ _
 refine wpAny_bind ?_
 simp only[newExc,newTuple]
 refine wpAny_bind (wpAny_newObj_type ?_ (by size_fits))
 refine wpAny_bind (m:=firstArgMember _ _) (wpAny_of_eq (a:=Value.none) (by first|rfl|(simp only[firstArgMember];rfl)) ?_)
 refine wpAny_newObj_type ?_ (by size_fits)
 simp only[raiseNew]
 refine wpAny_bind (wpAny_handled ?_)
 first|rw[show A.in1.handled=none from hh]|rw[hh]
 refine wpAny_bind (wpAny_pure (wpAny_throw ?_))
 exact hE _ _ (((Heap.SameBut.update ..).extBut.push _).push _) ⟨_,Qr _ rfl,rfl⟩
theorem Zcd{i:Addr}{k:Nat}{us:List Value}{Q:Value→Shared→Prop}(hh:A.handled=none):∀ {S:Src},S.at s.heap i k→S.raw s.heap us→S.many us≤k →
  (∀h' e,Heap.ExtBut i s.heap h'→(∃o,h'.get? e=some o∧o.cls=.type "StopIteration")→E (.ref e) { s with heap:=h' })→wpAny (model prog w) A (Builtin.SmallTypes.nextOf (.ref i)) Q E s
 | .l a,h1,h2,h3,hE=>wpAny_nextOf_list_end hh h1 h2 (by rw[Q6];exact Q7 h3) hE
 | .t a,h1,h2,h3,hE=>ZbI hh h1 h2 (by rw[Q6];exact Q7 h3) hE
 | .s z,⟨tk,h1⟩,h2,h3,hE=>by
  have hx:z.cps[k]? = none:=Array.getElem?_eq_none h3
  by_cases ha:z.cps.all (·<128)=true
  ·have e:strIterType z = "str_ascii_iterator":=by unfold strIterType;rw[if_pos ha]
   rw[e]at h1
   exact wpAny_nextOf_ascii_end hh h1 hx hE
  ·have e:strIterType z = "str_iterator":=by unfold strIterType;rw[if_neg ha]
   rw[e]at h1
   exact wpAny_nextOf_wide_end hh h1 hx hE
structure ZcS (z TI TO i1 i2:Addr) (S1 S2:Src):Prop where
 TIz:TI≠z
 TOz:TO≠z
 i1z:i1≠z
 i2z:i2≠z
 TITO:TI≠TO
 TIi1:TI≠i1
 TIi2:TI≠i2
 TOi1:TO≠i1
 TOi2:TO≠i2
 i12:i1≠i2
 s1z:S1.off z
 s1TO:S1.off TO
 s1i1:S1.off i1
 s1i2:S1.off i2
 s2z:S2.off z
 s2TO:S2.off TO
 s2i1:S2.off i1
 s2i2:S2.off i2
theorem Zgu{z TI TO i1 i2:Addr}{S1 S2:Src}{k:Nat}{us1 us2:List Value}{a b:Value}{Q:Option Value→Shared→Prop}(D:ZcS z TI TO i1 i2 S1 S2)
  (hz:IsZip s.heap z TI TO .none) (hTI:IsPair s.heap TI (.ref i1) (.ref i2)) (hTO:IsPair s.heap TO a b)
  (h1:S1.at s.heap i1 k) (h2:S2.at s.heap i2 k) (r1:S1.raw s.heap us1) (r2:S2.raw s.heap us2) (m1:k<S1.many us1) (m2:k<S2.many us2)
  (hQ:∀h' tk x y,S1.fit us1 k x→S2.fit us2 k y→IsZip h' z TI TO (rawInt s.heap.objs.size)→IsPair h' TO x y→S1.at h' i1 (k+1)→S2.at h' i2 (k+1)→IsPair h' s.heap.objs.size x y→h'.objs.size=s.heap.objs.size+1 →
   (∀c o,c≠z→c≠TO→c≠i1→c≠i2→s.heap.get? c=some o→h'.get? c=some o)→Q (some (.ref s.heap.objs.size)) { s with heap:=h',toks:=tk }) :
  wpAny (model prog w) A (pyNext (.ref z)) Q E s:=by
 have hT:s.TypeIs (.ref z) "zip":=⟨_,hz,rfl⟩
 unfold pyNext
 refine wpAny_bind (wpAny_attempt (wpAny_callSpecial?_slot (name:=Str.ofString "__next__") hT F.slot_zip_next (wpAny_call_entry F.slot_zip_next hT F.entry_zip_next ?_ (F.args_zip_next_1 _))))
 show wpAny _ _ (field (.ref z) 2 >>= _) _ _ _
 refine wpAny_bind (wpAny_field hz rfl (x:=.bool false) rfl ?_)
 show wpAny _ _ (field (.ref z) 3 >>= _) _ _ _
 refine wpAny_bind (wpAny_field hz rfl (x:=.ref TI) rfl (wpAny_bind (wpAny_seqItems hTI rfl ?_)))
 show wpAny _ _ (Builtin.SmallTypes.ownedTupleIsFree (.ref z) >>= _) _ _ _
 unfold Builtin.SmallTypes.ownedTupleIsFree
 refine wpAny_bind (wpAny_bind (wpAny_field hz rfl (x:=.none) rfl (wpAny_pure ?_)))
 simp only[if_true]
 refine wpAny_bind (wpAny_rule (wpAny_bind (wpAny_field hz rfl (x:=.ref TO) rfl (wpAny_bind (wpAny_setField_rec hz (by simp) fun h₁ hz₁ hs₁=>?_)))))
 replace hz₁:IsZip h₁ z TI TO .ellipsis:=hz₁
 refine wpAny_bind ?_
 simp only[List.zipIdx_cons,List.zipIdx_nil,List.forIn_cons,List.forIn_nil]
 refine wpAny_bind (wpAny_bind (wpAny_onRaise ?_))
 show wpAny _ _ (Builtin.SmallTypes.nextOf (.ref i1) >>= _) _ _ _
 refine wpAny_bind (Za3 (S:=S1) (us:=us1) (k:=k) (S1.at_keep (fun o e=>hs₁.extBut _ o D.i1z e) h1) (S1.raw_keep (fun c o n e=>hs₁.extBut c o n e) D.s1z r1) m1 fun h₂ tk₂ x fx h1₂ hs₂=>wpAny_pure ?_)
 have hs₂':Heap.SameBut i1 h₁ h₂:=hs₂
 have hTO₂:IsPair h₂ TO a b:=hs₂'.extBut _ _ D.TOi1 (hs₁.extBut _ _ D.TOz hTO)
 refine wpAny_bind (wpAny_seqItems hTO₂ rfl (wpAny_bind (wpAny_updateSeq_pair hTO₂ fun h₃ hTO₃ hs₃=>wpAny_bind (wpAny_letGo (wpAny_pure ?_)))))
 replace hTO₃:IsPair h₃ TO x b:=hTO₃
 have hs₃':Heap.SameBut TO h₂ h₃:=hs₃
 refine wpAny_bind (wpAny_bind (wpAny_onRaise ?_))
 show wpAny _ _ (Builtin.SmallTypes.nextOf (.ref i2) >>= _) _ _ _
 refine wpAny_bind (Za3 (S:=S2) (us:=us2) (k:=k)
  (S2.at_keep (fun o e=>hs₃'.extBut _ o D.TOi2.symm (hs₂'.extBut _ o D.i12.symm (hs₁.extBut _ o D.i2z e))) h2)
  (S2.raw_keep (fun c o n e=>hs₃'.extBut c o n e) D.s2TO (S2.raw_keep (fun c o n e=>hs₂'.extBut c o n e) D.s2i1 (S2.raw_keep (fun c o n e=>hs₁.extBut c o n e) D.s2z r2))) m2 fun h₄ tk₄ y fy h2₄ hs₄=>wpAny_pure ?_)
 have hs₄':Heap.SameBut i2 h₃ h₄:=hs₄
 have hTO₄:IsPair h₄ TO x b:=hs₄'.extBut _ _ D.TOi2 hTO₃
 refine wpAny_bind (wpAny_seqItems hTO₄ rfl (wpAny_bind (wpAny_updateSeq_pair hTO₄ fun h₅ hTO₅ hs₅=>wpAny_bind (wpAny_letGo (wpAny_pure (wpAny_pure ?_))))))
 replace hTO₅:IsPair h₅ TO x y:=hTO₅
 have hs₅':Heap.SameBut TO h₄ h₅:=hs₅
 refine wpAny_bind (wpAny_seqItems hTO₅ rfl (wpAny_bind (wpAny_newTuple ?_)))
 have hsz:h₅.objs.size=s.heap.objs.size:=by rw[hs₅'.1,hs₄'.1,hs₃'.1,hs₂'.1,hs₁.1]
 have hz₅:IsZip h₅ z TI TO .ellipsis:=hs₅'.extBut _ _ D.TOz.symm (hs₄'.extBut _ _ D.i2z.symm (hs₃'.extBut _ _ D.TOz.symm (hs₂'.extBut _ _ D.i1z.symm hz₁)))
 have hk₅:∀c o,c≠z→c≠TO→c≠i1→c≠i2→s.heap.get? c=some o→h₅.get? c=some o:=fun c o c1 c2 c3 c4 e =>
  hs₅'.extBut _ _ c2 (hs₄'.extBut _ _ c4 (hs₃'.extBut _ _ c2 (hs₂'.extBut _ _ c3 (hs₁.extBut _ _ c1 e))))
 have h1₅:S1.at h₅ i1 (k+1):=S1.at_keep (fun o e=>hs₅'.extBut _ o D.TOi1.symm (hs₄'.extBut _ o D.i12 (hs₃'.extBut _ o D.TOi1.symm e))) h1₂
 have h2₅:S2.at h₅ i2 (k+1):=S2.at_keep (fun o e=>hs₅'.extBut _ o D.TOi2.symm e) h2₄
 have hzlt:z<h₅.objs.size:=Qi hz₅
 show wpAny _ _ (Builtin.SmallTypes.ownedTupleHandOut (.ref z) (.ref h₅.objs.size) >>= _) _ _ _
 refine wpAny_bind ?_
 unfold Builtin.SmallTypes.ownedTupleHandOut
 have hz₆:IsZip (h₅.push { cls:=.type "tuple",data:=.seq #[x,y] }) z TI TO .ellipsis:=Qc _ hz₅
 refine wpAny_bind (wpAny_setField_rec hz₆ (by simp) fun h₇ hz₇ hs₇=>?_)
 replace hz₇:IsZip h₇ z TI TO (rawInt h₅.objs.size):=hz₇
 refine wpAny_setField_rec hz₇ (by simp) fun h₈ hz₈ hs₈=>?_
 replace hz₈:IsZip h₈ z TI TO (rawInt h₅.objs.size):=hz₈
 have up:∀c o,c≠z→h₅.get? c=some o→h₈.get? c=some o:=fun c o c1 e=>hs₈.extBut _ _ c1 (hs₇.extBut _ _ c1 (Qc _ e))
 have hT₈:IsPair h₈ h₅.objs.size x y:=hs₈.extBut _ _ (QU hzlt) (hs₇.extBut _ _ (QU hzlt) (Qr _ rfl))
 have hz8:h₈.objs.size=h₅.objs.size+1:=by rw[hs₈.1,hs₇.1,Qac]
 rw[hsz]at hz₈ hT₈ hz8
 refine wpAny_pure ⟨_,rfl,wpAny_pure ?_⟩
 show Q (some (.ref h₅.objs.size)) _
 rw[hsz]
 exact hQ h₈ tk₄ x y fx fy hz₈ (up _ _ D.TOz hTO₅) (S1.at_keep (fun o e=>up _ o D.i1z e) h1₅) (S2.at_keep (fun o e=>up _ o D.i2z e) h2₅) hT₈ hz8 fun c o c1 c2 c3 c4 e=>up c o c1 (hk₅ c o c1 c2 c3 c4 e)
theorem Zfy{z TI TO i1 i2:Addr}{S1 S2:Src}{k:Nat}{us1 us2:List Value}{a b:Value}{Q:Option Value→Shared→Prop}(hh:A.handled=none)(D:ZcS z TI TO i1 i2 S1 S2)
  (hz:IsZip s.heap z TI TO .none) (hTI:IsPair s.heap TI (.ref i1) (.ref i2)) (hTO:IsPair s.heap TO a b)
  (h1:S1.at s.heap i1 k) (h2:S2.at s.heap i2 k) (r1:S1.raw s.heap us1) (r2:S2.raw s.heap us2) (hend:S1.many us1≤k∨S2.many us2≤k)
  (hQ:∀h' tk,(∀c o,c≠z→c≠TO→c≠i1→c≠i2→s.heap.get? c=some o→h'.get? c=some o)→Q none { s with heap:=h',toks:=tk }) :
  wpAny (model prog w) A (pyNext (.ref z)) Q E s:=by
 have hT:s.TypeIs (.ref z) "zip":=⟨_,hz,rfl⟩
 unfold pyNext
 have done:∀ (h':Heap) (tk:Nat) (e:Addr),(∀c o,c≠z→c≠TO→c≠i1→c≠i2→s.heap.get? c=some o→h'.get? c=some o)→(∃o,h'.get? e=some o∧o.cls=.type "StopIteration") →
   wpAny (model prog w) A (do if (← isInstance (.ref e) (.type "StopIteration")) then pure none else throw (.ref e):Sem (Option Value)) Q E { s with heap:=h',toks:=tk }:=fun h' tk e hk ⟨o,ho,hc⟩=>
  wpAny_bind (wpAny_isInstance (T := "StopIteration") (b:=true) ⟨o,ho,hc⟩ isSubtype_stop (wpAny_pure (hQ h' tk hk)))
 refine wpAny_bind (wpAny_attempt (wpAny_callSpecial?_slot (name:=Str.ofString "__next__") hT F.slot_zip_next (wpAny_call_entry F.slot_zip_next hT F.entry_zip_next ?_ (F.args_zip_next_1 _))))
 show wpAny _ _ (field (.ref z) 2 >>= _) _ _ _
 refine wpAny_bind (wpAny_field hz rfl (x:=.bool false) rfl ?_)
 show wpAny _ _ (field (.ref z) 3 >>= _) _ _ _
 refine wpAny_bind (wpAny_field hz rfl (x:=.ref TI) rfl (wpAny_bind (wpAny_seqItems hTI rfl ?_)))
 show wpAny _ _ (Builtin.SmallTypes.ownedTupleIsFree (.ref z) >>= _) _ _ _
 unfold Builtin.SmallTypes.ownedTupleIsFree
 refine wpAny_bind (wpAny_bind (wpAny_field hz rfl (x:=.none) rfl (wpAny_pure ?_)))
 simp only[if_true]
 refine wpAny_bind (wpAny_rule (wpAny_bind (wpAny_field hz rfl (x:=.ref TO) rfl (wpAny_bind (wpAny_setField_rec hz (by simp) fun h₁ hz₁ hs₁=>?_)))))
 replace hz₁:IsZip h₁ z TI TO .ellipsis:=hz₁
 refine wpAny_bind ?_
 simp only[List.zipIdx_cons,List.zipIdx_nil,List.forIn_cons,List.forIn_nil]
 refine wpAny_bind (wpAny_bind (wpAny_onRaise ?_))
 show wpAny _ _ (Builtin.SmallTypes.nextOf (.ref i1) >>= _) _ _ _
 by_cases m1:k<S1.many us1
 ·have m2:S2.many us2≤k:=by rcases hend with z'|z';omega;exact z'
  refine wpAny_bind (Za3 (S:=S1) (us:=us1) (k:=k) (S1.at_keep (fun o e=>hs₁.extBut _ o D.i1z e) h1) (S1.raw_keep (fun c o n e=>hs₁.extBut c o n e) D.s1z r1) m1 fun h₂ tk₂ x fx h1₂ hs₂=>wpAny_pure ?_)
  have hs₂':Heap.SameBut i1 h₁ h₂:=hs₂
  have hTO₂:IsPair h₂ TO a b:=hs₂'.extBut _ _ D.TOi1 (hs₁.extBut _ _ D.TOz hTO)
  refine wpAny_bind (wpAny_seqItems hTO₂ rfl (wpAny_bind (wpAny_updateSeq_pair hTO₂ fun h₃ hTO₃ hs₃=>wpAny_bind (wpAny_letGo (wpAny_pure ?_)))))
  have hs₃':Heap.SameBut TO h₂ h₃:=hs₃
  refine wpAny_bind (wpAny_bind (wpAny_onRaise ?_))
  show wpAny _ _ (Builtin.SmallTypes.nextOf (.ref i2) >>= _) _ _ _
  refine wpAny_bind (Zcd (S:=S2) (us:=us2) (k:=k) hh
   (S2.at_keep (fun o e=>hs₃'.extBut _ o D.TOi2.symm (hs₂'.extBut _ o D.i12.symm (hs₁.extBut _ o D.i2z e))) h2)
   (S2.raw_keep (fun c o n e=>hs₃'.extBut c o n e) D.s2TO (S2.raw_keep (fun c o n e=>hs₂'.extBut c o n e) D.s2i1 (S2.raw_keep (fun c o n e=>hs₁.extBut c o n e) D.s2z r2))) m2 fun h₄ e hs₄ he=>?_)
  obtain⟨oe,hoe,hce⟩:=he
  have hz₄:IsZip h₄ z TI TO .ellipsis:=hs₄ _ _ D.i2z.symm (hs₃'.extBut _ _ D.TOz.symm (hs₂'.extBut _ _ D.i1z.symm hz₁))
  have hez:e≠z:=fun x=>by subst x;rw[hz₄]at hoe;cases hoe;simp at hce
  exact wpAny_setField_rec hz₄ (by simp) fun h₅ _ hs₅=>done h₅ _ e (fun c o c1 c2 c3 c4 x=>hs₅.extBut _ _ c1 (hs₄ _ _ c4 (hs₃'.extBut _ _ c2 (hs₂'.extBut _ _ c3 (hs₁.extBut _ _ c1 x))))) ⟨oe,hs₅.extBut _ _ hez hoe,hce⟩
 ·refine wpAny_bind (Zcd (S:=S1) (us:=us1) (k:=k) hh (S1.at_keep (fun o e=>hs₁.extBut _ o D.i1z e) h1) (S1.raw_keep (fun c o n e=>hs₁.extBut c o n e) D.s1z r1) (by omega) fun h₂ e hs₂ he=>?_)
  obtain⟨oe,hoe,hce⟩:=he
  have hz₂:IsZip h₂ z TI TO .ellipsis:=hs₂ _ _ D.i1z.symm hz₁
  have hez:e≠z:=fun x=>by subst x;rw[hz₂]at hoe;cases hoe;simp at hce
  exact wpAny_setField_rec hz₂ (by simp) fun h₃ _ hs₃=>done h₃ _ e (fun c o c1 _ c3 _ x=>hs₃.extBut _ _ c1 (hs₂ _ _ c3 (hs₁.extBut _ _ c1 x))) ⟨oe,hs₃.extBut _ _ hez hoe,hce⟩
end
def Src.iter(tk:Tok):Src→Obj
 | .l a=>{ cls:=.type "list_iterator",data:=.fields #[.ref a,.int 0 0] }
 | .t a=>{ cls:=.type "tuple_iterator",data:=.fields #[.ref a,.int 0 0] }
 | .s z=>{ cls:=.type (strIterType z),data:=.fields #[.str z tk,.int 0 0] }
def Src.value(tk:Tok):Src→Value
 | .l a=>.ref a
 | .t a=>.ref a
 | .s z=>.str z tk
theorem Src.iter_at{h:Heap}{i:Addr}{tk:Tok}:∀ {S:Src},h.get? i=some (S.iter tk)→S.at h i 0
 | .l _,e=>⟨_,e,rfl,rfl⟩
 | .t _,e=>⟨_,e,rfl,rfl⟩
 | .s _,e=>⟨tk,_,e,rfl,rfl⟩
theorem Src.pyIter{prog:Program}{w:World}{A:Around}{E:Value→Shared→Prop}{s:Shared}{tk:Tok}{us:List Value}{Q:Value→Shared→Prop}:∀ {S:Src},S.raw s.heap us →
  Q (.ref s.heap.objs.size) { s with heap:=s.heap.push (S.iter tk) }→wpAny (model prog w) A (pyIter (S.value tk)) Q E s
 | .l _,r,q=>wpAny_pyIter_list r q
 | .t _,r,q=>wpAny_pyIter_tuple r q
 | .s _,_,q=>wpAny_pyIter_strU q
theorem Src.raw_push{h:Heap}{ob:Obj}:∀ {S:Src} {us:List Value},S.raw h us→S.raw (h.push ob) us
 | .l _,_,⟨o,e,d⟩=>⟨o,Qc _ e,d⟩
 | .t _,_,⟨o,e,d⟩=>⟨o,Qc _ e,d⟩
 | .s _,_,_=>trivial
abbrev zH1(h:Heap)(S1:Src)(t1:Tok):Heap:=h.push (S1.iter t1)
abbrev zH2(h:Heap)(S1 S2:Src)(t1 t2:Tok):Heap:=(zH1 h S1 t1).push (S2.iter t2)
abbrev zH3(h:Heap)(S1 S2:Src)(t1 t2:Tok):Heap:=(zH2 h S1 S2 t1 t2).push { cls:=.type "tuple",data:=.seq #[.ref h.objs.size,.ref (zH1 h S1 t1).objs.size] }
abbrev zH4(h:Heap)(S1 S2:Src)(t1 t2:Tok):Heap:=(zH3 h S1 S2 t1 t2).push { cls:=.type "tuple",data:=.seq #[.none,.none] }
abbrev zH5(h:Heap)(S1 S2:Src)(t1 t2:Tok):Heap:=(zH4 h S1 S2 t1 t2).push { cls:=.type "zip",data:=.fields #[.none,.bool false,.bool false,.ref (zH2 h S1 S2 t1 t2).objs.size,.ref (zH3 h S1 S2 t1 t2).objs.size] }
theorem Zhj(S1 S2:Src)(t1 t2:Tok)(us1 us2:List Value) :
  Meets (Builtin.«zip.__new__» ⟨[.type "zip",S1.value t1,S2.value t2],[]⟩) (fun _ R s=>S1.raw s.heap us1∧S2.raw s.heap us2 ∧
   R (.ok (.ret (.ref (zH4 s.heap S1 S2 t1 t2).objs.size))) { s with heap:=zH5 s.heap S1 S2 t1 t2 }) :=
 .of_wp fun prog w A R s h=>by
  obtain⟨hp,g,d,tk,os⟩:=s;obtain⟨r1,r2,h⟩:=h
  have hsub:=sub_zip
  have q1:∀ {A:Around} {E:Value→Shared→Prop} {Q:Value→Shared→Prop},Q (.ref hp.objs.size) ⟨zH1 hp S1 t1,g,d,tk,os⟩→wpAny (model prog w) A (pyIter (S1.value t1)) Q E ⟨hp,g,d,tk,os⟩:=
   fun {A E Q} q=>Src.pyIter (s:=⟨hp,g,d,tk,os⟩) (us:=us1) r1 q
  have q2:∀ {A:Around} {E:Value→Shared→Prop} {Q:Value→Shared→Prop},Q (.ref (zH1 hp S1 t1).objs.size) ⟨zH2 hp S1 S2 t1 t2,g,d,tk,os⟩→wpAny (model prog w) A (pyIter (S2.value t2)) Q E ⟨zH1 hp S1 t1,g,d,tk,os⟩:=
   fun {A E Q} q=>Src.pyIter (s:=⟨zH1 hp S1 t1,g,d,tk,os⟩) (us:=us2) (S2.raw_push r2) q
  generalize S1.value t1=v1 at q1 ⊢
  generalize S2.value t2=v2 at q2 ⊢
  wp_walk using q1,q2
  exact⟨_,rfl,h⟩
section
variable {prog:Program} {w:World} {A:Around} {E:Value→Shared→Prop} {s:Shared}
theorem Zgh{S1 S2:Src}{t1 t2:Tok}{us1 us2:List Value}{Q:Value→Shared→Prop}(r1:S1.raw s.heap us1)(r2:S2.raw s.heap us2)
  (h:∀h',IsZip h' (s.heap.objs.size+4) (s.heap.objs.size+2) (s.heap.objs.size+3) .none→IsPair h' (s.heap.objs.size+2) (.ref s.heap.objs.size) (.ref (s.heap.objs.size+1)) →
   IsPair h' (s.heap.objs.size+3) .none .none→S1.at h' s.heap.objs.size 0→S2.at h' (s.heap.objs.size+1) 0→h'.objs.size=s.heap.objs.size+5 →
   (∀c o,s.heap.get? c=some o→h'.get? c=some o)→Q (.ref (s.heap.objs.size+4)) { s with heap:=h' }) :
  wpAny (model prog w) A (call (.type "zip") [S1.value t1,S2.value t2]) Q E s:=by
 refine callType_new F.called_zip (by decide) (F.typeCall_zip_2 _ _) (F.newCall_zip_2 _ _) (fun obj=>F.args_object_init_3 obj _ _) F.entry_zip_new (Zhj S1 S2 t1 t2 us1 us2) ⟨r1,r2,?_⟩
 have z1:(zH1 s.heap S1 t1).objs.size=s.heap.objs.size+1:=Qac ..
 have z2:(zH2 s.heap S1 S2 t1 t2).objs.size=s.heap.objs.size+2:=by rw[Qac,z1]
 have z3:(zH3 s.heap S1 S2 t1 t2).objs.size=s.heap.objs.size+3:=by rw[Qac,z2]
 have z4:(zH4 s.heap S1 S2 t1 t2).objs.size=s.heap.objs.size+4:=by rw[Qac,z3]
 have z5:(zH5 s.heap S1 S2 t1 t2).objs.size=s.heap.objs.size+5:=by rw[Qac,z4]
 have fr:∀ (tk:Tok) (S:Src),(S.iter tk).isFreed=false:=fun tk S=>by cases S<;>rfl
 have g5:(zH5 s.heap S1 S2 t1 t2).get? (zH4 s.heap S1 S2 t1 t2).objs.size=some _:=Qr _ rfl
 have g4:(zH5 s.heap S1 S2 t1 t2).get? (zH3 s.heap S1 S2 t1 t2).objs.size=some _:=Qc _ (Qr _ rfl)
 have g3:(zH5 s.heap S1 S2 t1 t2).get? (zH2 s.heap S1 S2 t1 t2).objs.size=some _:=Qc _ (Qc _ (Qr _ rfl))
 have g2:(zH5 s.heap S1 S2 t1 t2).get? (zH1 s.heap S1 t1).objs.size=some (S2.iter t2):=Qc _ (Qc _ (Qc _ (Qr _ (fr _ _))))
 have g1:(zH5 s.heap S1 S2 t1 t2).get? s.heap.objs.size=some (S1.iter t1):=Qc _ (Qc _ (Qc _ (Qc _ (Qr _ (fr _ _)))))
 show _∧_
 rw[z2,z3,z4]at g5
 rw[z1,z2]at g3
 rw[z3]at g4
 rw[z1]at g2
 rw[z4]
 exact⟨⟨_,g5,rfl⟩,h _ g5 g3 g4 (Src.iter_at g1) (Src.iter_at g2) z5 fun c o x =>
  Qc _ (Qc _ (Qc _ (Qc _ (Qc _ x))))⟩
end
def Itz(K:PySem.W.Frag)(S1 S2:Src):It :=
 ⟨fun i H=>∃xs ys,S1.its K H xs∧S2.its K H ys∧i<xs.length∧i<ys.length,
  fun i H v H'=>∃p,H p=none∧v=.ref p∧∀xs ys,S1.its K H xs→S2.its K H ys→∀x y,xs[i]? = some x→ys[i]? = some y→H'=upd H p (.tup [x,y]),
  fun i H=>∃xs ys,S1.its K H xs∧S2.its K H ys∧(xs.length≤i∨ys.length≤i)⟩
section
variable {X:Cx} {pins:List (Addr×Obj)} {σ:St} {H:Hp} {s:Shared}
theorem Inv.src(I:Inv X pins σ H s):∀ {S:Src} {xs:List V},S.its X.K H xs→∃us,S.raw s.heap us∧S.many us=xs.length∧∀k u x,S.fit us k u→xs[k]? = some x→Zo x u
 | .l a,xs,h=>by
  obtain⟨its,rv,pl,_⟩:=I.list h
  refine⟨its,pl.isList,rv.length.symm,fun k u x e1 e2=>?_⟩
  obtain⟨u',e3,r⟩:=rv.get e2
  rw[show its[k]? = some u from e1]at e3;cases e3
  exact r
 | .t a,xs,h=>by
  obtain⟨its,rv,pl,_⟩:=I.tuple h
  refine⟨its,pl,rv.length.symm,fun k u x e1 e2=>?_⟩
  obtain⟨u',e3,r⟩:=rv.get e2
  rw[show its[k]? = some u from e1]at e3;cases e3
  exact r
 | .s z,xs,h=>by
  refine⟨[],trivial,?_,fun k u x e1 e2=>?_⟩
  ·rw[show xs=_ from h,Qb];simp[Src.many]
  ·obtain⟨c,tk,e3,e4⟩:=e1
   subst e4
   rw[show xs=_ from h,Qu]at e2
   have e5:z.cps.toList[k]? = some c:=by simpa using e3
   rw[e5]at e2
   cases e2
   exact⟨tk,rfl⟩
theorem Inv.src_off(I:Inv X pins σ H s){b:Addr}(hb:ZbS X pins H b):∀ {S:Src} {xs:List V},S.its X.K H xs→S.off b
 | .l a,xs,h=>by
  rcases h with(h|⟨ob,h⟩)|⟨o,its,n,hk,_⟩
  ·exact Zc h hb.1
  ·exact Zc h hb.1
  ·rintro rfl
   have e:=I.ok.mod.kin a o hk
   rcases hb.2.2.2.1 with z|z
   ·exact I.ok.noex a o e z
   ·exact absurd (Qo (Qi e) (QM I.ok.bsz z)) (Q4 _)
 | .t a,xs,h=>by
  rcases h with(h|⟨ob,h⟩)|⟨o,its,n,hk,_⟩
  ·exact Zc h hb.1
  ·exact Zc h hb.1
  ·rintro rfl
   have e:=I.ok.mod.kin a o hk
   rcases hb.2.2.2.1 with z|z
   ·exact I.ok.noex a o e z
   ·exact absurd (Qo (Qi e) (QM I.ok.bsz z)) (Q4 _)
 | .s z,xs,h=>trivial
theorem Inv.zipped{fp:List Addr}{h':Heap}{tk:Nat}{x y:V}{u v:Value}(I:Inv X pins σ H s)(hf:∀b∈fp,ZbS X pins H b)(rx:Zo x u)(ry:Zo y v)
  (hp:IsPair h' s.heap.objs.size u v) (hfh:∀b∈fp,∃o,h'.get? b=some o) (hk:∀c o,c ∉ fp→s.heap.get? c=some o→h'.get? c=some o) :
  Inv X pins σ (upd H s.heap.objs.size (.tup [x,y])) { s with heap:=h',toks:=tk }:=by
 have hn:H s.heap.objs.size=none:=I.fresh
 have ne:∀b ob,s.heap.get? b=some ob→b≠s.heap.objs.size:=fun b ob e=>Qx (Qi e)
 have nt:∀b u,H b=some u→b≠s.heap.objs.size:=fun b u e=>Zc e hn
 have nfp:∀b u,H b=some u→b ∉ fp:=fun b u e hb=>by rw[(hf b hb).1]at e;cases e
 refine I.step (g':=s.gens) (d':=s.drawn) (ch:=fp) (fun b hb=>⟨(hf b hb).2.2.2.1,(hf b hb).2.1,(hf b hb).2.2.2.2.1,(hf b hb).2.2.2.2.2⟩)
  (fun b ob _ _ hc e _=>hk b ob hc e) (fun b ob _ _ hc e _=>⟨ob.slots,hk b ob hc e⟩) (fun b ob _ e n=>by rw[Zf (ne b ob e)];exact n) (fun b ob hc e=>⟨ob,hk b ob hc e⟩)
  (fun b xs e=>by rw[Zf (nt b _ e)];exact e) (fun b ob u e=>by rw[Zf (nt b _ e)];exact e) (fun b ps e=>⟨#[],by rw[Zf (nt b _ e),e];simp⟩) (fun m hm=>?_) (fun b ub e=>?_) I.bare
 ·obtain⟨ob,es,ep,ho,r⟩:=hm
  exact⟨ob,es,ep,hk _ ob (fun z=>(hf _ z).2.1 rfl) ho,r⟩
 ·by_cases hb:b=s.heap.objs.size
  ·subst hb
   rw[Zd]at e;cases e
   exact⟨by show 2≤sizeLine;decide,[u,v],.cons rx (.cons ry .nil),⟨_,hp,rfl,_,rfl⟩⟩
  ·rw[Zf hb]at e
   refine(I.hok b ub e).stay (fun c w' hc q=>hk c w' ?_ q) (fun c q=>by rw[Zf (nt c _ q)];exact q) fun c xs q=>by rw[Zf (nt c _ q)];exact q
   rcases hc with z|z
   ·rw[z];exact nfp b ub e
   ·exact nfp c _ z
end
theorem ZfI{P:Program}{w:World}{K:PySem.W.Frag}{elts:List Expr}{x1:Nat}{tpos:Pos}{S1 S2:Src}{z TI TO i1 i2:Addr}
  (d1:TI≠z) (d2:TO≠z) (d3:i1≠z) (d4:i2≠z) (d5:TI≠TO) (d6:TI≠i1) (d7:TI≠i2) (d8:TO≠i1) (d9:TO≠i2) (d10:i1≠i2) :
  Zga P w K (.Tuple elts x1 tpos) (Itz K S1 S2) [z,TI,TO,i1,i2] z
   (fun i h=>IsZip h z TI TO .none∧IsPair h TI (.ref i1) (.ref i2)∧(∃a b,IsPair h TO a b)∧S1.at h i1 i∧S2.at h i2 i) where
 mem:=by simp
 obj:=fun i h st b hb=>by
  obtain⟨hz,hTI,⟨a,b',hTO⟩,h1,h2⟩:=st
  have nf:∀ {o:Obj} {vs:Array Value},o.data=.fields vs→∀v,o.data≠.cell v:=fun d v e=>by rw[d]at e;cases e
  simp only[List.mem_cons,List.not_mem_nil,or_false]at hb
  rcases hb with rfl|rfl|rfl|rfl|rfl
  ·exact⟨_,hz,nf rfl⟩
  ·exact⟨_,hTI,fun v e=>by cases e⟩
  ·exact⟨_,hTO,fun v e=>by cases e⟩
  ·obtain⟨o,vs,e,d⟩:=Src.at_obj h1;exact⟨o,e,nf d⟩
  ·obtain⟨o,vs,e,d⟩:=Src.at_obj h2;exact⟨o,e,nf d⟩
 keep:=fun i h h' st k=>by
  obtain⟨hz,hTI,⟨a,b',hTO⟩,h1,h2⟩:=st
  exact⟨k z (by simp) _ hz,k TI (by simp) _ hTI,⟨a,b',k TO (by simp) _ hTO⟩,Src.at_keep (fun o e=>k i1 (by simp) o e) h1,Src.at_keep (fun o e=>k i2 (by simp) o e) h2⟩
 item:=by
  intro X hP hw hK hc i pins s σ H E I hf st hg
  subst hP hw hK
  obtain⟨hz,hTI,⟨a,b',hTO⟩,h1,h2⟩:=st
  obtain⟨xs,ys,q1,q2,l1,l2⟩:=hg
  obtain⟨us1,r1,m1,f1⟩:=I.src q1
  obtain⟨us2,r2,m2,f2⟩:=I.src q2
  have hfz:=hf z (by simp)
  have D:ZcS z TI TO i1 i2 S1 S2:=⟨d1,d2,d3,d4,d5,d6,d7,d8,d9,d10,I.src_off hfz q1,I.src_off (hf TO (by simp)) q1,I.src_off (hf i1 (by simp)) q1,I.src_off (hf i2 (by simp)) q1,
   I.src_off hfz q2,I.src_off (hf TO (by simp)) q2,I.src_off (hf i1 (by simp)) q2,I.src_off (hf i2 (by simp)) q2⟩
  refine Zgu D hz hTI hTO h1 h2 r1 r2 (by omega) (by omega) fun h' tk x y fx fy a1 a2 a3 a4 a5 a6 a7=>?_
  have rx:=f1 i x _ fx (Qa l1)
  have ry:=f2 i y _ fy (Qa l2)
  refine⟨_,rfl,wpAny_letOwnedTupleGo_zip a1 fun h'' hz'' hs''=>?_⟩
  have hs':Heap.SameBut z h' h'':=hs''
  have hTI':IsPair h' TI (.ref i1) (.ref i2):=a7 _ _ d1 d5 d6 d7 hTI
  have lt:∀ {b:Addr} {o:Obj},s.heap.get? b=some o→s.heap.objs.size≠b:=fun e=>QU (Qi e)
  have hzs:s.heap.objs.size≠z:=lt hz
  have I2:Inv X pins σ (upd H s.heap.objs.size (.tup [xs[i],ys[i]])) { s with heap:=h'',toks:=tk }:=by
   refine I.zipped (fp:=[z,TI,TO,i1,i2]) hf rx ry (hs'.extBut _ _ hzs a5) (fun b hb=>?_) fun c o hc e=>?_
   ·simp only[List.mem_cons,List.not_mem_nil,or_false]at hb
    rcases hb with rfl|rfl|rfl|rfl|rfl
    ·exact⟨_,hz''⟩
    ·exact⟨_,hs'.extBut _ _ d1 hTI'⟩
    ·exact⟨_,hs'.extBut _ _ d2 a2⟩
    ·obtain⟨o,vs,e,_⟩:=Src.at_obj a3;exact⟨o,hs'.extBut _ _ d3 e⟩
    ·obtain⟨o,vs,e,_⟩:=Src.at_obj a4;exact⟨o,hs'.extBut _ _ d4 e⟩
   ·simp only[List.mem_cons,List.not_mem_nil,or_false,not_or]at hc
    exact hs'.extBut _ _ hc.1 (a7 c o hc.1 hc.2.2.1 hc.2.2.2.1 hc.2.2.2.2 e)
  refine⟨.ref s.heap.objs.size,_,I2,rfl,⟨s.heap.objs.size,I.fresh,rfl,fun xs' ys' w1 w2 x' y' e1 e2=>?_⟩,⟨hz'',hs'.extBut _ _ d1 hTI',⟨_,_,hs'.extBut _ _ d2 a2⟩,Src.at_keep (fun o e=>hs'.extBut _ o d3 e) a3,Src.at_keep (fun o e=>hs'.extBut _ o d4 e) a4⟩,fun b hb=>?_⟩
  ·have same:∀ {S:Src} {us vs:List V},S.its X.K H us→S.its X.K H vs→us=vs:=fun {S us vs} p q=>by
    cases S with
    | l a=>exact I.list_inj p q
    | t a=>exact I.tuple_inj p q
    | s z=>rw[show us=_ from p,show vs=_ from q]
   have e3:=same w1 q1
   have e4:=same w2 q2
   subst e3;subst e4
   rw[Qa l1]at e1
   rw[Qa l2]at e2
   cases e1;cases e2
   rfl
  ·rw[Zf (fun e=>by
    obtain⟨o,e1,_⟩:∃o,s.heap.get? b=some o∧True:=by
     simp only[List.mem_cons,List.not_mem_nil,or_false]at hb
     rcases hb with rfl|rfl|rfl|rfl|rfl
     ·exact⟨_,hz,trivial⟩
     ·exact⟨_,hTI,trivial⟩
     ·exact⟨_,hTO,trivial⟩
     ·obtain⟨o,vs,e,_⟩:=Src.at_obj h1;exact⟨o,e,trivial⟩
     ·obtain⟨o,vs,e,_⟩:=Src.at_obj h2;exact⟨o,e,trivial⟩
    exact lt e1 e.symm)]
   exact(hf b hb).1
 done:=by
  intro X hP hw hK hc i pins s σ H E I hf st hg
  subst hP hw hK
  obtain⟨hz,hTI,⟨a,b',hTO⟩,h1,h2⟩:=st
  obtain⟨xs,ys,q1,q2,l⟩:=hg
  obtain⟨us1,r1,m1,f1⟩:=I.src q1
  obtain⟨us2,r2,m2,f2⟩:=I.src q2
  have hfz:=hf z (by simp)
  have D:ZcS z TI TO i1 i2 S1 S2:=⟨d1,d2,d3,d4,d5,d6,d7,d8,d9,d10,I.src_off hfz q1,I.src_off (hf TO (by simp)) q1,I.src_off (hf i1 (by simp)) q1,I.src_off (hf i2 (by simp)) q1,
   I.src_off hfz q2,I.src_off (hf TO (by simp)) q2,I.src_off (hf i1 (by simp)) q2,I.src_off (hf i2 (by simp)) q2⟩
  refine Zfy (I.ok.hd hc) D hz hTI hTO h1 h2 r1 r2 (by omega) fun h' tk hk=>⟨rfl,?_⟩
  have kf:∀c o,c ∉ [z,TI,TO,i1,i2]→s.heap.get? c=some o→h'.get? c=some o:=fun c o hc e=>by
   simp only[List.mem_cons,List.not_mem_nil,or_false,not_or]at hc
   exact hk c o hc.1 hc.2.2.1 hc.2.2.2.1 hc.2.2.2.2 e
  have nfp:∀b u,H b=some u→b ∉ [z,TI,TO,i1,i2]:=fun b u e hb=>by rw[(hf b hb).1]at e;cases e
  refine I.step (g':=s.gens) (d':=s.drawn) (ch:=[z,TI,TO,i1,i2]) (fun b hb=>⟨(hf b hb).2.2.2.1,(hf b hb).2.1,(hf b hb).2.2.2.2.1,(hf b hb).2.2.2.2.2⟩)
   (fun b ob _ _ hc e _=>kf b ob hc e) (fun b ob _ _ hc e _=>⟨ob.slots,kf b ob hc e⟩) (fun b ob _ e n=>n) (fun b ob hc e=>⟨ob,kf b ob hc e⟩)
   (fun b xs e=>e) (fun b ob u e=>e) (fun b ps e=>⟨#[],by rw[e];simp⟩) (fun m hm=>?_) (fun b ub e=>?_) I.bare
  ·obtain⟨ob,es,ep,ho,r⟩:=hm
   exact⟨ob,es,ep,kf _ ob (fun z=>(hf _ z).2.1 rfl) ho,r⟩
  ·refine(I.hok b ub e).stay (fun c w' hc q=>kf c w' ?_ q) (fun c q=>q) fun c xs q=>q
   rcases hc with z'|z'
   ·rw[z'];exact nfp b ub e
   ·exact nfp c _ z'
 self:=fun _ _ _ _ _ st h=>wpAny_pyIter_zip st.1 h
def Zi3(K:PySem.W.Frag)(ta:TA):TI:=fun σ H R=>ta σ H fun vs H1=>∃S1 S2 xs ys,vs=[Src.val S1,Src.val S2]∧S1.its K H1 xs∧S2.its K H1 ys∧R (Itz K S1 S2) H1
theorem ZhS{X:Cx}{a b:Expr}{ta:TA}{p pos:Pos}{elts:List Expr}{x1:Nat}{tpos:Pos}(hg:Gl X "zip")(hm:X.mg "zip" = none)(ha:PA X [a,b] ta)
  (hs:starEach [a,b] X.env=[(false,eval a X.env),(false,eval b X.env)]:=by rfl) (hs2:starEach [b] X.env=[(false,eval b X.env)]:=by rfl) :
  PI X (.Tuple elts x1 tpos) (.Call (.Name "zip" p) [a,b] [] pos) (Zi3 X.K ta):=by
 intro pins s σ H R I h
 refine Call_ (Zbk I hg hm boot_zip (QT (thn (ha pos pins s σ H _ I h) ?_) (by rw[hs,hs2]) (by rw[hs2];rfl)))
 rintro us s1 ⟨vs,H1,I1,r1,q1⟩
 obtain⟨S1,S2,xs,ys,e,y1,y2,q⟩:=q1
 subst e
 obtain⟨u1,u2,rfl,w1,w2⟩:=r1.two
 have vo:∀ {S:Src} {u:Value},Zo S.val u→∃tk,u=S.value tk:=fun {S u} r=>by
  cases S with
  | l a=>exact⟨0,r⟩
  | t a=>exact⟨0,r⟩
  | s z=>obtain⟨tk,e⟩:=r;exact⟨tk,e⟩
 obtain⟨t1,rfl⟩:=vo w1
 obtain⟨t2,rfl⟩:=vo w2
 obtain⟨us1,r1,m1,f1⟩:=I1.src y1
 obtain⟨us2,r2,m2,f2⟩:=I1.src y2
 refine Zgh r1 r2 fun h' hz hTI hTO a1 a2 a3 hk=>wpAny_pyIter_zip hz ?_
 have I2:Inv X pins σ H1 { s1 with heap:=h' }:=I1.kept (t':=s1.toks) hk
 have n:=s1.heap.objs.size
 refine⟨_,_,_,_,H1,rfl,I2,ZfI (S1:=S1) (S2:=S2) (z:=s1.heap.objs.size+4) (TI:=s1.heap.objs.size+2) (TO:=s1.heap.objs.size+3) (i1:=s1.heap.objs.size) (i2:=s1.heap.objs.size+1)
  (Qx (Q3 (by decide) _)) (Qx (Q3 (by decide) _)) (Qx (Qad (by decide))) (Qx (Q3 (by decide) _))
  (Qx (Q3 (by decide) _)) (QU (Qad (by decide))) (QU (Q3 (by decide) _)) (QU (Qad (by decide)))
  (QU (Q3 (by decide) _)) (Qx (Qad (by decide))),⟨hz,hTI,⟨_,_,hTO⟩,a1,a2⟩,fun b hb=>?_,q⟩
 have hb':s1.heap.objs.size≤b:=by
  simp only[List.mem_cons,List.not_mem_nil,or_false]at hb
  rcases hb with rfl|rfl|rfl|rfl|rfl
  ·exact Qam _ 4
  ·exact Qam _ 2
  ·exact Qam _ 3
  ·exact Ql _
  ·exact Qam _ 1
 exact I1.fpOk hb' (I1.hok.fresh hb')
section
variable {X:Cx} (K:PySem.W.Frag)
theorem ixL(h:X.K=K:=by rfl):IxR X (Ziw K):=by subst h;exact Zhh
def ZiF:List V→Hp→VK→Prop:=fun xs H Q=>∃p ys,xs=[.ref p]∧(SqL K H p ys∨SqT K H p ys)∧Q (.int ys.length) H
theorem ZbT(h:X.K=K:=by rfl):ZT X (.builtin "len") (ZiF K):=by subst h;exact Zc4
theorem Zcc(h:X.K=K:=by rfl):ZT X (.builtin "isinstance") (ZiG K):=by subst h;exact Zfx
theorem ZiE(h:X.K=K:=by rfl):ZT X (.builtin "isinstance") (Zhu K):=by subst h;exact Zfo
def ZiQ:List V→Hp→VK→Prop:=fun xs H Q=>∃ (p:Addr) (bs:List Bool),xs=[.ref p]∧SqL K H p (bs.map V.bl)∧Q (.bl (bs.all id)) H
theorem Zjs(hc:X.calm=true:=by rfl)(h:X.K=K:=by rfl):ZT X (.builtin "all") (ZiQ K):=by subst h;exact Zfw hc
def rSrtI:List V→Hp→VK→Prop:=fun xs H Q=>∃ (p:Addr) (ns:List Int),xs=[.ref p]∧SqL K H p (ns.map V.int)∧ns.length<64 ∧
  ∀ (l:Addr) (ns':List Int),H l=none→ns'.Perm ns→ns'.Pairwise (·≤·)→Q (.ref l) (upd H l (.lst (ns'.map V.int)))
def ZiB:List V→Hp→VK→Prop:=fun xs H Q=>∃ (p:Addr) (ss:List Str),xs=[.ref p]∧SqL K H p (ss.map V.str)∧ss.length<64 ∧
  ∀ (l:Addr) (ss':List Str),H l=none→ss'.Perm ss→sortedS ss'=true→Q (.ref l) (upd H l (.lst (ss'.map V.str)))
theorem ZiP(h:X.K=K:=by rfl):ZT X (.builtin "sorted") (ZiB K):=by subst h;exact Zde
def ZiT:V→List V→Hp→VK→Prop:=fun x vs H Q=>∃ (sep:Str) (p:Addr) (ys:List Str),x=.str sep∧vs=[.ref p]∧SqL K H p (ys.map V.str)∧(ys.map (·.length)).sum+ys.length*sep.length≤16777216∧Q (.str (Txt.join sep ys)) H
theorem Zjg(h:X.K=K:=by rfl):MtR X "str.join" (ZiT K):=by subst h;exact ZgG
theorem iL{tg l:Expr}{tl:TE}(hl:PE X l tl)(h:X.K=K:=by rfl):PI X tg l (ZhB K tl):=by subst h;exact Zhe hl
theorem gT{es:List Expr}{k:Nat}{t:TGs}{n:Nat}{pos:Pos}(h:PGs X es t)(hK:X.K=K:=by rfl)(hc:X.calm=true:=by rfl)
  (hn:(assignEach es X.env).length=n:=by rfl) (hst:(assignEach es X.env).findIdx? (·.1)=none:=by rfl):PG X (.Tuple es k pos) (ZiK K n t):=by subst hK;exact ZhF hc h hn hst
theorem iZ{a b:Expr}{ta:TA}{p pos:Pos}{elts:List Expr}{x1:Nat}{tpos:Pos}(hm:X.mg "zip" = none)(ha:PA X [a,b] ta)(hg:Gl X "zip":=by rfl)(hK:X.K=K:=by rfl)
  (hs:starEach [a,b] X.env=[(false,eval a X.env),(false,eval b X.env)]:=by rfl) (hs2:starEach [b] X.env=[(false,eval b X.env)]:=by rfl) :
  PI X (.Tuple elts x1 tpos) (.Call (.Name "zip" p) [a,b] [] pos) (Zi3 K ta):=by subst hK;exact ZhS hg hm ha hs hs2
end
structure Df (P:Program) (w:World) (K:PySem.W.Frag) (mg:Str→Option Value) (base:Heap) (k:Nat) (x:Str) (ps:List Str) (sp:Sp):Prop where
 ex:∃f fd,ZbP P w K mg base CX0 k f fd ps sp∧mg x=some (.ref f)∧PySem.W.keepIn K (.ref f)=true∧Za6 K fd ps []
section
variable {P:Program} {w:World} {K:PySem.W.Frag} {mg:Str→Option Value} {base:Heap}
structure Top (K:PySem.W.Frag) (mg:Str→Option Value) (x:Str) (st:Stmt) (ps:List Str):Prop where
 ex:∃f fd,Fun K x x st f fd∧mg x=some (.ref f)∧Za6 K fd ps []
theorem Top.df{x:Str}{st:Stmt}{N ps:List Str}{k:Nat}{sp:Sp}(T:Top K mg x st ps)(S:ZB N ps (Ze st))(len:∀vs H Q E,sp vs H Q E→vs.length=ps.length)
  (hbody:∀ (cdv:Value) (f:Addr) (A:Around) (outer:List Env) (s:Shared) (H:Hp) (vs:List V) (Q:VK) (E:XK),ZaE k (A.deeper (envOfC x (Ze st) s.heap.objs.size f cdv))→sp vs H Q E →
   ∃t,PSs (Zd3 CX0 P w K mg base N x (Ze st) f cdv A outer s H E).nox (Zr st) t∧t { nx:=fun _ H'=>Q .non H',rt:=Q } (ZbA N vs) H):Df P w K mg base (k+1) x ps sp:=by
 obtain⟨f,fd,F,m,b⟩:=T.ex
 exact⟨f,fd,F.ok S len (fun cdv A outer s H vs Q E hr h=>hbody cdv f A outer s H vs Q E hr h),m,F.kp,b⟩
end
section
variable {X:Cx} {k j:Nat} {x:Str} {ps:List Str} {sp:Sp} {e:Expr} {es:List Expr} {t:TA} {p pos:Pos}
theorem ZG(F:Df X.prog X.w X.K X.mg X.base k x ps sp)(hr:ZaE j X.A)(ha:PA X (e::es) t)(hjk:k≤j:=by decide)(hg:Gl X x:=by rfl)(hdb:(x == ("__debug__" : Str))=false:=by decide)
  (he:starEach (e::es) X.env=(false,eval e X.env)::starEach es X.env:=by rfl) (hpl:(backTo pos (starEach es X.env)).any (·.1)=false:=by rfl) :
  PE X (.Call (.Name x p) (e::es) [] pos) (Zht sp [] E0 t):=by
 obtain⟨f,fd,F,m,kp,b⟩:=F.ex
 exact Zgz F (hr.mono hjk) hg m kp b .nil ZiC ha hdb he hpl
theorem ZaF{T:String}(hm:X.mg x=none)(hv:bootBuiltins x=some (.type T))(hg:Gl X x:=by rfl)(hn:x ≠ "__name__":=by decide)(hd:(x == ("__debug__" : Str))=false:=by decide):PE X (.Name x pos) (tC (.ty T)) :=
 Zhg hg hm hv rfl hn hd
end
theorem ZaO{lo:Int}{n k:Nat}{D:Addr}{σ:St}{H1:Hp}{g:TG}{te:TE}{Q:VK}(Pv:Nat→List V→St→Hp→Prop)(h0:Pv 0 [] (σ++List.replicate k none) (upd H1 D (.lst [])))
  (hs:∀i ys σ H,i<n→Pv i ys σ H→g (.int (lo+i)) σ H fun σ4 H4=>te σ4 H4 fun y H6=>H6 D=some (.lst ys)∧ys.length<sizeLine∧Pv (i+1) (ys++[y]) σ4 (upd H6 D (.lst (ys++[y]))))
  (hd:∀ys σ H,Pv n ys σ H→Q (.ref D) H):Zch (Itr lo n) D k σ H1 g Zea te Q:=by
 refine⟨fun i m ys σ H=>m=n-i∧i≤n∧Pv i ys σ H,⟨n,by simp,QA _,h0⟩,?_⟩
 rintro i m ys σ H ⟨rfl,hi,p⟩
 by_cases hlt:i<n
 ·refine .inr ⟨hlt,Pv (i+1),fun ys' σ' H' p'=>⟨n-(i+1),by omega,rfl,hlt,p'⟩,fun x H' y=>?_⟩
  obtain⟨e,y⟩:=y
  subst e y
  simp only[Zea,↓reduceIte]
  exact hs i ys σ _ hlt p
 ·have e:i=n:=by omega
  subst e
  exact .inl ⟨Ql _,hd ys σ H p⟩
theorem ZdD{K:PySem.W.Frag}{S1 S2:Src}{xs ys:List V}{k:Nat}{D:Addr}{σ:St}{H1:Hp}{g:TG}{te:TE}{Q:VK}(Pv:Nat→List V→St→Hp→Prop)(h0:Pv 0 [] (σ++List.replicate k none) (upd H1 D (.lst [])))
  (hl:∀i zs σ H,Pv i zs σ H→S1.its K H xs∧S2.its K H ys)
  (hs:∀i zs σ H x y p,xs[i]? = some x→ys[i]? = some y→Pv i zs σ H→H p=none→g (.ref p) σ (upd H p (.tup [x,y])) fun σ4 H4=>te σ4 H4 fun z H6=>H6 D=some (.lst zs)∧zs.length<sizeLine∧Pv (i+1) (zs++[z]) σ4 (upd H6 D (.lst (zs++[z]))))
  (hd:∀zs σ H,Pv (min xs.length ys.length) zs σ H→Q (.ref D) H):Zch (Itz K S1 S2) D k σ H1 g Zea te Q:=by
 refine⟨fun i m zs σ H=>m=min xs.length ys.length-i∧i≤min xs.length ys.length∧Pv i zs σ H,⟨min xs.length ys.length,by simp,QA _,h0⟩,?_⟩
 rintro i m zs σ H ⟨rfl,hi,p⟩
 obtain⟨q1,q2⟩:=hl i zs σ H p
 by_cases hlt:i<min xs.length ys.length
 ·have l1:i<xs.length:=by omega
  have l2:i<ys.length:=by omega
  refine .inr ⟨⟨xs,ys,q1,q2,l1,l2⟩,Pv (i+1),fun ys' σ' H' p'=>⟨min xs.length ys.length-(i+1),by omega,rfl,hlt,p'⟩,fun x H' y=>?_⟩
  obtain⟨r,hr,rfl,e⟩:=y
  have e':=e xs ys q1 q2 _ _ (Qa l1) (Qa l2)
  subst e'
  simp only[Zea,↓reduceIte]
  exact hs i zs σ H _ _ r (Qa l1) (Qa l2) p hr
 ·have e:i=min xs.length ys.length:=by omega
  refine .inl ⟨⟨xs,ys,q1,q2,by omega⟩,hd zs σ H (e ▸ p)⟩
section
variable {X:Cx} {N N':List Str} {o c:Scope} {x:Str} {pos:Pos} {C:Addr} {s:Shared} {H:Hp} {fp:List Addr}
theorem Zbn(S:ZE N N' o c)(ho:X.env.scope=o)(hl:c.names.lookup x=some .local):(ZK X c N' C s H fp).env.scope.names.lookup x=some .local:=by
 have e:=ZaJ (X:=X) S ho (ZJ X.env.cells c.names []) C x
 rw[hl]at e
 exact e
theorem ZbD(S:ZE N N' o c)(ho:X.env.scope=o)(hl:c.names.lookup x=some .globalImplicit):Gl (ZK X c N' C s H fp) x:=by
 have e:=ZaJ (X:=X) S ho (ZJ X.env.cells c.names []) C x
 rw[hl]at e
 exact e
theorem Zgj(S:ZE N N' o c)(ho:X.env.scope=o)(hl:c.names.lookup x=some .free):Vis (ZK X c N' C s H fp).env.scope x:=by
 have e:=ZaJ (X:=X) S ho (ZJ X.env.cells c.names []) C x
 rw[hl]at e
 have e':(ZK X c N' C s H fp).env.scope.names.lookup x=if X.env.kindOf x=some .cell then some NameKind.cell else some NameKind.free:=e
 by_cases z:X.env.kindOf x=some .cell
 ·rw[if_pos z]at e';exact .inr (.inl e')
 ·rw[if_neg z]at e';exact .inr (.inr e')
theorem cv(i:Nat)(S:ZE N N' o c)(ho:X.env.scope=o)(hl:c.names.lookup x=some .free)(hN:N'[i]? = some x:=by rfl)(hd:(x == ("__debug__" : Str))=false:=by decide)(hcd:(x == ("__classdict__" : Str))=false:=by decide) :
  PE (ZK X c N' C s H fp) (.Name x pos) (ZgC i):=Zd8 hN (Zgj S ho hl) hd hcd
theorem cw(i:Nat)(S:ZE N N' o c)(ho:X.env.scope=o)(hl:c.names.lookup x=some .local)(hN:N'[i]? = some x:=by rfl)(hd:(x == ("__debug__" : Str))=false:=by decide)(hcd:(x == ("__classdict__" : Str))=false:=by decide) :
  PE (ZK X c N' C s H fp) (.Name x pos) (ZgC i):=Zd8 hN (.inl (Zbn S ho hl)) hd hcd
theorem cg(i:Nat)(S:ZE N N' o c)(ho:X.env.scope=o)(hl:c.names.lookup x=some .local)(hi:N'[i]? = some x:=by rfl):PG (ZK X c N' C s H fp) (.Name x pos) (Zez i) :=
 Z2 S.nd hi (.inl (Zbn S ho hl)) (.inr (Zbn S ho hl))
end
mutual
inductive DV (K:PySem.W.Frag) (H:Hp):V→PyData→Prop where
 | non:DV K H .non .none
 | bl (b:Bool):DV K H (.bl b) (.bool b)
 | int (i:Int):DV K H (.int i) (.int i)
 | str (s:Str):DV K H (.str s) (.str s)
 | lst {a:Addr} {xs:List V} {ds:List PyData}:SqL K H a xs→DVs K H xs ds→DV K H (.ref a) (.list ds)
 | tup {a:Addr} {xs:List V} {ds:List PyData}:SqT K H a xs→DVs K H xs ds→DV K H (.ref a) (.tuple ds)
inductive DVs (K:PySem.W.Frag) (H:Hp):List V→List PyData→Prop where
 | nil:DVs K H [] []
 | cons {x:V} {d:PyData} {xs:List V} {ds:List PyData}:DV K H x d→DVs K H xs ds→DVs K H (x::xs) (d::ds)
end
section
variable {X:Cx} {pins:List (Addr×Obj)} {σ:St} {H:Hp} {s:Shared}
mutual
theorem Inv.reads(I:Inv X pins σ H s):∀ {x:V} {d:PyData} {u:Value},DV X.K H x d→Zo x u→∃as,Reads s.heap u d as
 | _,_,_,.non,r=>by cases r;exact⟨_,.none⟩
 | _,_,_,.bl b,r=>by cases r;exact⟨_,.bool b⟩
 | _,_,_,.int i,r=>by obtain⟨t,rfl⟩:=r;exact⟨_,.int i t⟩
 | _,_,_,.str z,r=>by obtain⟨t,rfl⟩:=r;exact⟨_,.str z t⟩
 | _,_,_,.lst h hs,r=>by
  cases r
  obtain⟨its,rv,⟨o,n,e,hc,_,hd⟩,_⟩:=I.list h
  obtain⟨as,q⟩:=Inv.readsAll I hs rv
  exact⟨_,reads_list_at e hc hd (by simpa using q)⟩
 | _,_,_,.tup h hs,r=>by
  cases r
  obtain⟨its,rv,⟨o,e,hc,n,hd⟩,_⟩:=I.tuple h
  obtain⟨as,q⟩:=Inv.readsAll I hs rv
  exact⟨_,reads_tuple_at e hc hd (by simpa using q)⟩
theorem Inv.readsAll(I:Inv X pins σ H s):∀ {xs:List V} {ds:List PyData} {us:List Value},DVs X.K H xs ds→Zm xs us→∃as,ReadsAll s.heap us ds as
 | _,_,_,.nil,r=>by cases r;exact⟨_,.nil⟩
 | _,_,_,.cons h hs,r=>by
  cases r with
  | cons r1 r2 =>
   obtain⟨as,q1⟩:=Inv.reads I h r1
   obtain⟨bs,q2⟩:=Inv.readsAll I hs r2
   exact⟨_,.cons q1 q2⟩
end
def Zi4(K:PySem.W.Frag)(neg:Bool):R2:=fun x y H Q=>∃d e,DV K H x d∧DV K H y e∧SeqAt.shaped d=true∧SeqAt.shaped e=true∧Q (.bl (if neg then !PyData.eqv d e else PyData.eqv d e)) H
theorem Zh1(hu:X.A.units+64<cLine):OpR X (compareOp .NotEq) (Zi4 X.K true):=by
 intro pins s σ H x y v u Q I rx ry h
 obtain⟨d,e,h1,h2,s1,s2,q⟩:=h
 obtain⟨as,r1⟩:=I.reads h1 rx
 obtain⟨bs,r2⟩:=I.reads h2 ry
 exact ne_dataH r1 r2 s1 s2 hu ⟨.bl _,H,I,rfl,q⟩
end
theorem neD{X:Cx}(K:PySem.W.Frag){k:Nat}(hr:ZaE k X.A)(h:X.K=K:=by rfl):OpR X (compareOp .NotEq) (Zi4 K true):=by subst h;exact Zh1 hr.units
mutual
theorem DV.mono{K:PySem.W.Frag}{H H':Hp}(s:Zn H H'):∀ {x:V} {d:PyData},DV K H x d→DV K H' x d
 | _,_,.non=>.non
 | _,_,.bl b=>.bl b
 | _,_,.int i=>.int i
 | _,_,.str z=>.str z
 | _,_,.lst h hs=>.lst (s.seq h) (DVs.mono s hs)
 | _,_,.tup h hs=>.tup (by
   rcases h with(h|⟨ob,h⟩)|h
   ·exact .inl (.inl (s _ _ h))
   ·exact .inl (.inr ⟨ob,s _ _ h⟩)
   ·exact .inr h) (DVs.mono s hs)
theorem DVs.mono{K:PySem.W.Frag}{H H':Hp}(s:Zn H H'):∀ {xs:List V} {ds:List PyData},DVs K H xs ds→DVs K H' xs ds
 | _,_,.nil=>.nil
 | _,_,.cons h hs=>.cons (DV.mono s h) (DVs.mono s hs)
end
def Ite(K:PySem.W.Frag)(a:Addr):It :=
 ⟨fun i H=>∃xs,SqL K H a xs∧i<xs.length,
  fun i H v H'=>∃p,H p=none∧v=.ref p∧∀xs,SqL K H a xs→∀x,xs[i]? = some x→H'=upd H p (.tup [.int i,x]),
  fun i H=>∃xs,SqL K H a xs∧xs.length≤i⟩
theorem Ze3{P:Program}{w:World}{K:PySem.W.Frag}{elts:List Expr}{x1:Nat}{tpos:Pos}{a e it:Addr}(hne:e≠it) :
  Zga P w K (.Tuple elts x1 tpos) (Ite K a) [e,it] e (fun i h=>(∃old,IsEnum h e it i old)∧h.IsListIter it a i) where
 mem:=by simp
 obj:=fun i h st b hb=>by
  obtain⟨⟨old,he⟩,o,hit,hc,hd⟩:=st
  simp only[List.mem_cons,List.not_mem_nil,or_false]at hb
  rcases hb with rfl|rfl
  ·exact⟨_,he,fun v z=>by cases z⟩
  ·exact⟨o,hit,fun v z=>by rw[hd]at z;cases z⟩
 keep:=fun i h h' st k=>by
  obtain⟨⟨old,he⟩,hit⟩:=st
  exact⟨⟨old,k e (by simp) _ he⟩,hit.at fun o q=>k it (by simp) o q⟩
 item:=by
  intro X hP hw hK hc i pins s σ H E I hf st hg
  subst hP hw hK
  obtain⟨⟨old,he⟩,hit⟩:=st
  obtain⟨xs,q1,l1⟩:=hg
  obtain⟨its,rv,pl,_⟩:=I.list q1
  obtain⟨u,hu,ru⟩:=rv.get (Qa l1)
  refine wpAny_pyNext_enum_item he hit pl.isList (x:=u) (by simpa using hu) hne fun h' a1 a2 a3 a4 a5=>?_
  have lt:∀ {b:Addr} {o:Obj},s.heap.get? b=some o→s.heap.objs.size≠b:=fun q=>QU (Qi q)
  have hes:s.heap.objs.size≠e:=lt he
  refine⟨_,rfl,wpAny_letOwnedTupleGo_enum a1 fun h'' he'' hs''=>?_⟩
  have hs':Heap.SameBut e h' h'':=hs''
  have hit'':h''.IsListIter it a (i+1):=a2.extBut hs'.extBut hne.symm
  have I2:Inv X pins σ (upd H s.heap.objs.size (.tup [.int i,xs[i]])) { s with heap:=h'',toks:=s.toks+1 }:=by
   refine I.zipped (fp:=[e,it]) (u:=.int i s.toks) (v:=u) hf ⟨_,rfl⟩ ru (hs'.extBut _ _ hes a3) (fun b hb=>?_) fun c o hc q=>?_
   ·simp only[List.mem_cons,List.not_mem_nil,or_false]at hb
    rcases hb with rfl|rfl
    ·exact⟨_,he''⟩
    ·obtain⟨o,q,_⟩:=hit'';exact⟨o,q⟩
   ·simp only[List.mem_cons,List.not_mem_nil,or_false,not_or]at hc
    exact hs'.extBut _ _ hc.1 (a5 c o hc.1 hc.2 q)
  refine⟨.ref s.heap.objs.size,_,I2,rfl,⟨s.heap.objs.size,I.fresh,rfl,fun xs' w1 x' e1=>?_⟩,⟨⟨_,he''⟩,hit''⟩,fun b hb=>?_⟩
  ·have e3:=I.list_inj w1 q1
   subst e3
   rw[Qa l1]at e1
   cases e1
   rfl
  ·rw[Zf (fun z=>by
    obtain⟨o,q⟩:∃o,s.heap.get? b=some o:=by
     simp only[List.mem_cons,List.not_mem_nil,or_false]at hb
     rcases hb with rfl|rfl
     ·exact⟨_,he⟩
     ·obtain⟨o,q,_⟩:=hit;exact⟨o,q⟩
    exact lt q z.symm)]
   exact(hf b hb).1
 done:=by
  intro X hP hw hK hc i pins s σ H E I hf st hg
  subst hP hw hK
  obtain⟨⟨old,he⟩,hit⟩:=st
  obtain⟨xs,q1,l1⟩:=hg
  obtain⟨its,rv,pl,_⟩:=I.list q1
  obtain⟨f0,f1,f2,f3,f4,f5⟩:=hf it (by simp)
  have hl:=rv.length
  exact wpAny_pyNext_enum_end (I.ok.hd hc) he hit pl.isList (by rw[Q6];exact Q7 (by omega)) fun h' eb=>⟨rfl,I.turned (t':=s.toks) (fun b o hb q=>eb b o hb q) f0 f1 f3 f4 f5⟩
 self:=fun _ _ _ _ _ st h=>by obtain⟨⟨old,he⟩,_⟩:=st;exact wpAny_pyIter_enum he h
def Zhl(K:PySem.W.Frag)(ta:TA):TI:=fun σ H R=>ta σ H fun vs H1=>∃a xs,vs=[V.ref a]∧SqL K H1 a xs∧R (Ite K a) H1
theorem Zha{X:Cx}{l:Expr}{ta:TA}{p pos:Pos}{elts:List Expr}{x1:Nat}{tpos:Pos}(hg:Gl X "enumerate")(hm:X.mg "enumerate" = none)(ha:PA X [l] ta)
  (hs:starEach [l] X.env=[(false,eval l X.env)]:=by rfl):PI X (.Tuple elts x1 tpos) (.Call (.Name "enumerate" p) [l] [] pos) (Zhl X.K ta):=by
 intro pins s σ H R I h
 refine Call_ (Zbk I hg hm boot_enumerate (QT (thn (ha pos pins s σ H _ I h) ?_) hs rfl))
 rintro us s1 ⟨vs,H1,I1,r1,q1⟩
 obtain⟨a,xs,e,y1,q⟩:=q1
 subst e
 obtain⟨u,rfl,ru⟩:=r1.one
 cases ru
 obtain⟨its,rv,pl,_⟩:=I1.list y1
 refine call_enumerate_list pl.isList fun h' he hit hsz hk=>wpAny_pyIter_enum he ?_
 have I2:Inv X pins σ H1 { s1 with heap:=h' }:=I1.kept (t':=s1.toks) hk
 refine⟨_,_,_,_,H1,rfl,I2,Ze3 (a:=a) (e:=s1.heap.objs.size+1) (it:=s1.heap.objs.size) (QU (Nat.lt_succ_self _)),⟨⟨_,he⟩,hit⟩,fun b hb=>?_,q⟩
 have hb':s1.heap.objs.size≤b:=by
  simp only[List.mem_cons,List.not_mem_nil,or_false]at hb
  rcases hb with rfl|rfl
  ·exact Qam _ 1
  ·exact Ql _
 exact I1.fpOk hb' (I1.hok.fresh hb')
theorem iE{X:Cx}(K:PySem.W.Frag){l:Expr}{ta:TA}{p pos:Pos}{elts:List Expr}{x1:Nat}{tpos:Pos}(hm:X.mg "enumerate" = none)(ha:PA X [l] ta)(hg:Gl X "enumerate":=by rfl)(hK:X.K=K:=by rfl)
  (hs:starEach [l] X.env=[(false,eval l X.env)]:=by rfl):PI X (.Tuple elts x1 tpos) (.Call (.Name "enumerate" p) [l] [] pos) (Zhl K ta):=by subst hK;exact Zha hg hm ha hs
theorem ZfQ{K:PySem.W.Frag}{a:Addr}{xs:List V}{g:TG}{tb:TS}{D:Zb3}{σ:St}{H:Hp}(Pv:Nat→St→Hp→Prop)(h0:Pv 0 σ H)(hl:∀i σ H,Pv i σ H→SqL K H a xs)
  (hs:∀i x σ H p,xs[i]? = some x→Pv i σ H→H p=none→g (.ref p) σ (upd H p (.tup [.int i,x])) fun σ2 H2=>tb { D with nx:=Pv (i+1),ct:=Pv (i+1),bk:=D.nx } σ2 H2) (hd:∀σ H,Pv xs.length σ H→D.nx σ H) :
  ∃W:Nat→Nat→St→Hp→Prop,(∃m,W 0 m σ H)∧∀i m σ H,W i m σ H →
   ((Ite K a).stop i H∧D.nx σ H)∨((Ite K a).go i H∧∃N:St→Hp→Prop,(∀σ' H',N σ' H'→∃m',m'<m∧W (i+1) m' σ' H')∧∀x H',(Ite K a).yld i H x H'→g x σ H' fun σ2 H2=>tb { D with nx:=N,ct:=N,bk:=D.nx } σ2 H2):=by
 refine⟨fun i m σ H=>m=xs.length-i∧i≤xs.length∧Pv i σ H,⟨xs.length,by simp,QA _,h0⟩,?_⟩
 rintro i m σ H ⟨rfl,hi,p⟩
 have q1:=hl i σ H p
 by_cases hlt:i<xs.length
 ·refine .inr ⟨⟨xs,q1,hlt⟩,Pv (i+1),fun σ' H' p'=>⟨xs.length-(i+1),by omega,rfl,hlt,p'⟩,fun x H' y=>?_⟩
  obtain⟨r,hr,rfl,e⟩:=y
  have e':=e xs q1 _ (Qa hlt)
  subst e'
  exact hs i _ σ H r (Qa hlt) p hr
 ·have e:i=xs.length:=by omega
  exact .inl ⟨⟨xs,q1,by omega⟩,hd σ H (e ▸ p)⟩
def rMinL(K:PySem.W.Frag):List V→Hp→VK→Prop:=fun vs H Q=>∃ (p:Addr) (ns:List Int),vs=[.ref p]∧SqL K H p (ns.map V.int)∧0<ns.length∧∀M,M∈ns→(∀a∈ns,M≤a)→Q (.int M) H
def ZhY(K:PySem.W.Frag):List V→Hp→VK→Prop:=fun xs H Q=>∃p ys,xs=[.ref p]∧(SqL K H p ys∨SqT K H p ys)∧∀l,H l=none→Q (.ref l) (upd H l (.lst ys))
theorem Zf6{X:Cx}(K:PySem.W.Frag)(h:X.K=K:=by rfl):ZT X (.type "list") (ZhY K):=by subst h;exact Zc9
section
variable {prog:Program} {w:World} {A:Around} {E:Value→Shared→Prop} {s:Shared}
end
def gLst(K:PySem.W.Frag)(n:Nat)(t:TGs):TG:=fun v σ H Q=>∃a xs,v=.ref a∧SqL K H a xs∧xs.length=n∧t xs σ H Q
def Zcr(xs:List V)(lo hi:Option Int)(st:Int):List V :=
 (sliceRange (sliceBounds lo hi (some st) xs.length).1 (sliceBounds lo hi (some st) xs.length).2.1 (sliceBounds lo hi (some st) xs.length).2.2).filterMap fun i=>xs[i]?
theorem ZcD{xs:List V}{us:List Value}(r:Zm xs us):∀is:List Nat,Zm (is.filterMap fun i=>xs[i]?) (is.filterMap fun i=>us[i]?)
 | []=>.nil
 | i::is=>by
  have ih:=ZcD r is
  by_cases hi:i<xs.length
  ·have e1:xs[i]? = some xs[i]:=Qa hi
   obtain⟨u,hu,ru⟩:=r.get e1
   rw[QW,QW,e1,hu]
   exact .cons ru ih
  ·have e1:xs[i]? = none:=Q7 (by omega)
   have e2:us[i]? = none:=Q7 (by rw[← r.length];omega)
   rw[QW,QW,e1,e2]
   exact ih
def Zid(X:Cx)(r:V→Option Int→Option Int→Int→Hp→VK→Prop):Prop :=
 ∀ (pins:List (Addr×Obj)) (s:Shared) (σ:St) (H:Hp) (x:V) (v vl vu vs:Value) (lo hi:Option Int) (st:Int) (sl:Addr) (Q:VK),Inv X pins σ H s→Zo x v→s.heap.IsSliceOf sl vl vu vs→IsPart vl lo→IsPart vu hi→IsPart vs (some st)→r x lo hi st H Q →
  ∃T id,typeLookup (.type T) "__getitem__" = pure (some (.builtin id))∧s.TypeIs v T∧wpAny (model X.prog X.w) X.A (getItem v (.ref sl)) (EP X pins σ Q) X.xe s
def ZjT(r:V→Option Int→Option Int→Int→Hp→VK→Prop)(te:TE)(tl th ts:TO):TE:=fun σ H Q=>te σ H fun x H1=>tl σ H1 fun l H2=>th σ H2 fun u H3=>ts σ H3 fun k H4=>∃i,k=some i∧r x l u i H4 Q
section
variable {X:Cx} {e st:Expr} {te:TE} {lo hi:Option Expr} {tl th ts:TO} {pos p2:Pos}
theorem Ze0{r:V→Option Int→Option Int→Int→Hp→VK→Prop}(hr:Zid X r)(he:PE X e te)(hl:PO X lo tl)(hu:PO X hi th)(hst:PO X (some st) ts):PE X (.Subscript e (.Slice lo hi (some st) p2) pos) (ZjT r te tl th ts):=by
 intro pins s σ H Q I h
 refine Subscript_ (thn (he pins s σ H _ I h) ?_)
 rintro v s1 ⟨x,H1,I1,r1,q1⟩
 refine wpAny_Slice (thn (hl pins s1 σ H1 _ I1 q1) fun vl s2 ⟨l,H2,I2,pl,q2⟩=>thn (hu pins s2 σ H2 _ I2 q2) fun vu s3 ⟨u,H3,I3,pu,q3⟩=>thn (hst pins s3 σ H3 _ I3 q3) ?_)
 rintro vs s4 ⟨k,H4,I4,pk,q4⟩
 obtain⟨i,rfl,q4⟩:=q4
 have I5:Inv X pins σ H4 { s4 with heap:=s4.heap.push { cls:=.type "slice",data:=.fields #[vl,vu,vs] } }:=I4.kept (t':=s4.toks) fun b ob q=>Qc _ q
 obtain⟨T,id,hT,ht,hg⟩:=hr pins { s4 with heap:=s4.heap.push { cls:=.type "slice",data:=.fields #[vl,vu,vs] } } σ H4 x v vl vu vs l u i s4.heap.objs.size Q I5 r1 (Heap.IsSliceOf.new ..) pl pu pk q4
 show wpAny (model X.prog X.w) X.A (subscriptTail e (.Slice lo hi (some st) p2) v (.ref s4.heap.objs.size)) (EP X pins σ Q) X.xe { s4 with heap:=s4.heap.push { cls:=.type "slice",data:=.fields #[vl,vu,vs] } }
 exact tail_any (ops:=[v,.ref s4.heap.objs.size]) ht hT hg (by with_unfolding_all rfl)
def Zhr(K:PySem.W.Frag):V→Option Int→Option Int→Int→Hp→VK→Prop:=fun x lo hi st H Q=>∃a xs,x=.ref a∧SqL K H a xs∧st≠0∧∀p,H p=none→Q (.ref p) (upd H p (.lst (Zcr xs lo hi st)))
theorem Zf9:Zid X (Zhr X.K):=by
 intro pins s σ H x v vl vu vs lo hi st sl Q I rx hs pl pu pk h
 obtain⟨a,xs,rfl,hx,hne,q⟩:=h
 cases rx
 obtain⟨its,r,ht,hz⟩:=I.list hx
 have hlen:=r.length
 refine⟨"list",_,slot_list_getitem.lookup,ht.isList.typeIs,?_⟩
 refine wpAny_getItem_list_slice ht.isList hs pl pu pk (by intro e;exact hne (Qp e)) ?_ (by rw[Qk]<;>omega)
 have hsz:=slicePick_size_le its.toArray lo hi (some st)
 have hv:Zm (Zcr xs lo hi st) (slicePick its.toArray lo hi (some st)).toList:=by
  unfold slicePick Zcr
  simp only[List.size_toArray,← hlen]
  have:=ZcD r (sliceRange (sliceBounds lo hi (some st) xs.length).1 (sliceBounds lo hi (some st) xs.length).2.1 (sliceBounds lo hi (some st) xs.length).2.2)
  simpa using this
 refine⟨.ref s.heap.objs.size,_,I.laid (t':=s.toks) (o:=.lst (Zcr xs lo hi st)) (fun b ob q=>Qc _ q) (Ql _) ?_,rfl,q _ (I.hok.fresh (Ql _))⟩
 refine⟨?_,(slicePick its.toArray lo hi (some st)).toList,0,hv,?_⟩
 ·have e1:its.toArray.size=xs.length:=by rw[Qk];exact hlen.symm
  rw[hv.length,Qs]
  exact QM hsz (by rw[e1];exact hz)
 ·simpa using Qr _ rfl
theorem ZjS(K:PySem.W.Frag)(h:X.K=K:=by rfl):Zid X (Zhr K):=by subst h;exact Zf9
end
section
variable {X:Cx}
def rInsert:V→List V→Hp→VK→Prop:=fun x vs H Q=>∃l xs i y,x=.ref l∧vs=[.int i,y]∧H l=some (.lst xs)∧0≤i∧i≤xs.length∧xs.length<sizeLine∧Q .non (upd H l (.lst (xs.take i.toNat++y::xs.drop i.toNat)))
def rBits:V→List V→Hp→VK→Prop:=fun x vs H Q=>∃i,x=.int i∧vs=[]∧Q (.int (Builtin.Int.intBits i:Nat)) H
def rTupQ(K:PySem.W.Frag):List V→Hp→VK→Prop:=fun xs H Q=>∃p ys,xs=[.ref p]∧((SqL K H p ys∧∀l,H l=none→Q (.ref l) (upd H l (.tup ys)))∨(SqT K H p ys∧Q (.ref p) H))
end
def Its(z:Str):It:=⟨fun i _=>i<z.cps.size,fun i H v H'=>H'=H∧∃c,z.cps[i]? = some c∧v=.str ⟨#[c]⟩,fun i _=>z.cps.size≤i⟩
section
variable {X:Cx} {tg:Expr}
def iStr(tl:TE):TI:=fun σ H R=>tl σ H fun x H1=>∃z,x=.str z∧R (Its z) H1
end
def Zj2:PyData→Str
 | .str z=>z
 | d=>d.shown
def rStrD(K:PySem.W.Frag):List V→Hp→VK→Prop:=fun xs H Q=>∃x d,xs=[x]∧DV K H x d∧PyData.layable0 d=true∧d.intsShort 13=true∧d.showable=true∧Q (.str (Zj2 d)) H
def ZdS(kvs:List (List Key×V))(k:List Key):Option V:=(kvs.find? fun kv=>decide (kv.1=k)).map (·.2)
abbrev PairT(H:Hp):List (List Key×V)→List (List Key×Addr×Value)→Prop:=Paired fun (p:List Key×V) (q:List Key×Addr×Value)=>p.1=q.1∧H q.2.1=some (.tup (p.1.map kV))∧Zo p.2 q.2.2
section
variable {X:Cx} {pins:List (Addr×Obj)} {σ:St} {H:Hp} {s:Shared}
def tNewT:TE:=fun _ H Q=>∀p,H p=none→Q (.ref p) (upd H p (.dT []))
end
def rSetDef:V→List V→Hp→VK→Prop:=fun x vs H Q=>∃d kvs b ks y,x=.ref d∧vs=[.ref b,y]∧H d=some (.dT kvs)∧H b=some (.tup (ks.map kV))∧kvs.length<sizeLine ∧
 (∀v,ZdS kvs ks=some v→Q v H)∧(ZdS kvs ks=none→Q y (upd H d (.dT (kvs++[(ks,y)]))))
def Zj9:List V→Hp→VK→Prop:=fun xs H Q=>∃j:Int,xs=[.int j]∧∀p,H p=none→Q (.ref p) (upd H p (.rng 0 j))
def Zka:List V→Hp→VK→Prop:=fun xs H Q=>∃i j:Int,xs=[.int i,.int j]∧∀p,H p=none→Q (.ref p) (upd H p (.rng i j))
def Zck(lo:Int)(n:Nat):List Int:=(List.range n).map fun (k:Nat)=>lo+k
def rListR:List V→Hp→VK→Prop:=fun xs H Q=>∃ (p:Addr) (lo hi:Int),xs=[.ref p]∧H p=some (.rng lo hi) ∧ -(2 ^ 62)≤lo∧lo<2 ^ 62 ∧ -(2 ^ 62)≤hi∧hi<2 ^ 62∧(hi-lo).toNat≤1000 ∧
 ∀l,H l=none→Q (.ref l) (upd H l (.lst ((Zck lo (hi-lo).toNat).map V.int)))
section
variable {prog:Program} {w:World} {A:Around} {E:Value→Shared→Prop} {s:Shared}
end
section
variable {X:Cx}
def rSlTS(K:PySem.W.Frag):V→Option Int→Option Int→Int→Hp→VK→Prop:=fun x lo hi st H Q=>∃a xs,x=.ref a∧SqT K H a xs∧lo=none∧hi=none∧st = -1∧∀p,H p=none→Q (.ref p) (upd H p (.tup xs.reverse))
def rExtendT(K:PySem.W.Frag):V→List V→Hp→VK→Prop:=fun x vs H Q=>∃l b xs zs,x=.ref l∧vs=[.ref b]∧H l=some (.lst xs)∧H b=some (.tup zs)∧xs.length+zs.length≤sizeLine∧Q .non (upd H l (.lst (xs++zs)))
theorem Z3{prog:Program}{w:World}{A:Around}{E:Value→Shared→Prop}{s:Shared}{a:Addr}{o:Obj}{xs:Array Value}{n:Nat}{Q:Array Value→Shared→Prop}(ho:s.heap.get? a=some o)(hd:o.data=.seq xs n)(h:Q xs s):wpAny (model prog w) A (Builtin.List.listItems (.ref a)) Q E s:=by
 unfold Builtin.List.listItems
 exact wpAny_bind (wpAny_seqItems ho hd (wpAny_pure h))
def gSlice(to:TE)(tl th:TO):TG:=fun v σ H Q=>to σ H fun o H1=>tl σ H1 fun l H2=>th σ H2 fun u H3=>∃ (p b:Addr) (xs ys:List V) (a c:Int),o=.ref p∧v=.ref b∧l=some a∧u=some c∧H3 p=some (.lst xs)∧H3 b=some (.lst ys)∧p≠b∧0≤a∧a≤c∧c≤xs.length∧xs.length+ys.length≤sizeLine ∧
 Q σ (upd H3 p (.lst (xs.take a.toNat++ys++xs.drop c.toNat)))
def rSumB(K:PySem.W.Frag):List V→Hp→VK→Prop:=fun vs H Q=>∃ (p:Addr) (ns:List Int),vs=[.ref p]∧SqL K H p (ns.map V.int)∧ns.length≤1000∧(∀n∈ns,0≤n∧n≤10000000000)∧Q (.int ns.sum) H
end
section
variable {prog:Program} {w:World} {A:Around} {E:Value→Shared→Prop} {s:Shared} {κ:PyProof.Rows.KeyKind} {k0:SortKind} {a₀:Array Keyed} {st:SortSt}
def Zbs(prog:Program)(w:World)(A:Around)(s:Shared)(k0:SortKind)(κ:PyProof.Rows.KeyKind):Prop :=
 ∀ (E:Value→Shared→Prop) (x y:Value) (a b:κ.α) (Q:Bool→Shared→Prop),κ.keyOf x=some a→κ.keyOf y=some b→Q (κ.blt a b) s→wpAny (model prog w) A (keyLt' k0 x y) Q E s
structure SB (k0:SortKind) (a₀:Array Keyed) (st:SortSt):Prop where
 perm:(arrOf st).Perm a₀
 kind:kindOf st=k0
 failed:failedOf st=none
 pend:pendingOf st = #[]
theorem SB.size(B:SB k0 a₀ st):(arrOf st).size=a₀.size:=B.perm.size_eq
theorem w_elem{arr:Array Keyed}{i:Nat}{p:Keyed}{Q:Keyed→SortSt→Prop}(h:arr[i]? = some p)(q:Q p st):wpS (model prog w) A E s (elem' arr i) Q st:=by
 rw[elem'_eq,h]
 exact wpS_pure q
theorem w_rev{i j:Nat}{Q:Unit→SortSt→Prop}(q:Q () (setArr st (mirror (arrOf st) i j ((j-i) / 2)))):wpS (model prog w) A E s (reverseSlice' i j) Q st:=wpS_reverse q
theorem Zjp(st:SortSt)(xs:Array Keyed):arrOf (setArr st xs)=xs:=rfl
end
section
variable {prog:Program} {w:World} {A:Around} {E:Value→Shared→Prop} {s:Shared} {κ:PyProof.Rows.KeyKind}
end
def kLt:Key→Key→Bool
 | .inl i,.inl j=>decide (i<j)
 | .inr x,.inr y=>decide (x.cps.toList<y.cps.toList)
 | .inl _,.inr _=>true
 | .inr _,.inl _=>false
theorem Zed:∀a:Key,kLt a a=false
 | .inl i=>decide_eq_false (by omega)
 | .inr x=>decide_eq_false (List.lt_irrefl _)
theorem ZeW:∀a b c:Key,kLt a b=true→kLt b c=true→kLt a c=true
 | .inl i,.inl j,.inl k,h1,h2=>by have:=of_decide_eq_true h1;have:=of_decide_eq_true h2;exact decide_eq_true (by omega)
 | .inr x,.inr y,.inr z,h1,h2=>decide_eq_true (List.lt_trans (of_decide_eq_true h1) (of_decide_eq_true h2))
 | .inl _,.inl _,.inr _,_,_=>rfl
 | .inl _,.inr _,.inr _,_,_=>rfl
 | .inl _,.inr _,.inl _,_,h=>by cases h
 | .inr _,.inl _,_,h,_=>by cases h
 | .inr _,.inr _,.inl _,_,h=>by cases h
theorem Zfg:∀a b:Key,kLt a b=false→kLt b a=false→a=b
 | .inl i,.inl j,h1,h2=>by have:=of_decide_eq_false h1;have:=of_decide_eq_false h2;congr 1;omega
 | .inr x,.inr y,h1,h2=>by
  have a1:¬ x.cps.toList<y.cps.toList:=of_decide_eq_false h1
  have a2:¬ y.cps.toList<x.cps.toList:=of_decide_eq_false h2
  have e:x.cps.toList=y.cps.toList:=List.le_antisymm a2 a1
  obtain⟨xs⟩:=x
  obtain⟨ys⟩:=y
  congr 2
  exact Array.toList_inj.mp e
 | .inl _,.inr _,h,_=>by cases h
 | .inr _,.inl _,_,h=>by cases h
def ZH:List Key→List Key→Bool
 | [],[]=>false
 | [],_::_=>true
 | _::_,[]=>false
 | x::xs,y::ys=>if x=y then ZH xs ys else kLt x y
theorem ZaH(x y:Key)(xs ys:List Key):ZH (x::xs) (y::ys)=if x=y then ZH xs ys else kLt x y:=rfl
theorem Zat:∀a:List Key,ZH a a=false
 | []=>rfl
 | x::r=>by unfold ZH;rw[if_pos rfl];exact Zat r
theorem Z7:∀a b c:List Key,ZH a b=true→ZH b c=true→ZH a c=true
 | [],[],_,h,_=>by cases h
 | [],_::_,[],_,h=>by cases h
 | [],_::_,_::_,_,_=>rfl
 | _::_,[],_,h,_=>by cases h
 | _::_,_::_,[],_,h=>by cases h
 | x::r,y::s,z::t,h1,h2=>by
  have ih:=Z7 r s t
  unfold ZH at h1 h2 ⊢
  by_cases e1:x=y
  ·rw[if_pos e1]at h1
   by_cases e2:y=z
   ·rw[if_pos e2]at h2
    rw[if_pos (e1.trans e2)]
    exact ih h1 h2
   ·rw[if_neg e2]at h2
    rw[if_neg (fun e=>e2 (e1.symm.trans e)),e1]
    exact h2
  ·rw[if_neg e1]at h1
   by_cases e2:y=z
   ·rw[if_neg (fun e=>e1 (e.trans e2.symm)),← e2]
    exact h1
   ·rw[if_neg e2]at h2
    have h3:=ZeW _ _ _ h1 h2
    rw[if_neg (fun e=>by rw[e,Zed]at h3;cases h3)]
    exact h3
theorem ZaR:∀a b:List Key,ZH a b=false→ZH b a=false→a=b
 | [],[],_,_=>rfl
 | [],_::_,h,_=>by cases h
 | _::_,[],_,h=>by cases h
 | x::r,y::s,h1,h2=>by
  unfold ZH at h1 h2
  by_cases e:x=y
  ·rw[if_pos e]at h1
   rw[if_pos e.symm]at h2
   rw[e,ZaR r s h1 h2]
  ·rw[if_neg e]at h1
   rw[if_neg fun z=>e z.symm]at h2
   exact absurd (Zfg _ _ h1 h2) e
theorem ZfO(a b c:List Key)(h:ZH a c=true):ZH a b=true∨ZH b c=true:=by
 by_cases h1:ZH a b=true
 ·exact .inl h1
 ·by_cases h2:ZH b a=true
  ·exact .inr (Z7 _ _ _ h2 h)
  ·have e:=ZaR a b (by simpa using h1) (by simpa using h2)
   rw[← e];exact .inr h
def unV:V→Option Key
 | .int i=>some (.inl i)
 | .str x=>some (.inr x)
 | _=>none
def ZbN:List V→Option (List Key)
 | []=>some []
 | x::r=>(unV x).bind fun k=>(ZbN r).map (k::·)
theorem Ziq(k:Key):unV (kV k)=some k:=by cases k<;>rfl
theorem ZdN:∀ks:List Key,ZbN (ks.map kV)=some ks
 | []=>rfl
 | k::r=>by show (unV (kV k)).bind _=_;rw[Ziq,ZdN r];rfl
theorem ZhL:∀ {x:V} {k:Key},unV x=some k→x=kV k
 | .int i,k,h=>by cases h;rfl
 | .str z,k,h=>by cases h;rfl
 | .non,_,h=>by cases h
 | .bl _,_,h=>by cases h
 | .byt _,_,h=>by cases h
 | .flt _,_,h=>by cases h
 | .ref _,_,h=>by cases h
 | .ty _,_,h=>by cases h
theorem ZdA:∀ {xs:List V} {ks:List Key},ZbN xs=some ks→xs=ks.map kV
 | [],ks,h=>by cases h;rfl
 | x::r,ks,h=>by
  unfold ZbN at h
  cases hu:unV x with
  | none=>rw[hu]at h;cases h
  | some k =>
   rw[hu]at h
   cases hr:ZbN r with
   | none=>rw[hr]at h;cases h
   | some ms=>rw[hr]at h;cases h;rw[ZhL hu,ZdA hr];rfl
def Z1(ks:List Key):List Bool:=ks.map fun k=>k.isLeft
def Zcw(H:Hp)(sh:List Bool):Value→Option (List Key)
 | .ref a=>match H a with
  | some (.tup xs)=>(ZbN xs).bind fun ks=>if Z1 ks=sh then some ks else none
  | _=>none
 | _=>none
theorem Zdk{H:Hp}{a:Addr}{ks:List Key}(h:H a=some (.tup (ks.map kV))):Zcw H (Z1 ks) (.ref a)=some ks:=by
 unfold Zcw
 dsimp only
 rw[h]
 show (ZbN (ks.map kV)).bind _=_
 rw[ZdN]
 show (if Z1 ks=Z1 ks then some ks else none)=_
 rw[if_pos rfl]
theorem ZdE{H:Hp}{sh:List Bool}{v:Value}{ks:List Key}(h:Zcw H sh v=some ks):∃a,v=.ref a∧H a=some (.tup (ks.map kV))∧Z1 ks=sh:=by
 unfold Zcw at h
 split at h
 ·rename_i a
  split at h
  ·rename_i xs hx
   cases hk:ZbN xs with
   | none=>rw[hk]at h;cases h
   | some ms =>
    rw[hk]at h
    have h':(if Z1 ms=sh then some ms else none)=some ks:=h
    by_cases e:Z1 ms=sh
    ·rw[if_pos e]at h'
     cases h'
     exact⟨a,rfl,by rw[hx,ZdA hk],e⟩
    ·rw[if_neg e]at h';cases h'
  ·cases h
 ·cases h
def Zdb(H:Hp)(sh:List Bool):PyProof.Rows.KeyKind:=⟨⟨List Key,ZH,Zat,Z7,fun a b c h=>ZfO a b c h,ZaR⟩,Zcw H sh,[]⟩
section
variable {prog:Program} {w:World} {A:Around} {E:Value→Shared→Prop} {s:Shared}
theorem Zh8{k m:Key}{p q:Value}(hp:Zo (kV k) p)(hq:Zo (kV m) q)(hs:k.isLeft=m.isLeft){Q:Bool→Shared→Prop}(h:Q (decide (k=m)) s):wpAny (model prog w) A (eqBool p q) Q E s:=by
 cases k with
 | inl i =>
  cases m with
  | inl j =>
   obtain⟨t,rfl⟩:=hp
   obtain⟨u,rfl⟩:=hq
   refine wpAny_eqBool_int ?_
   have e:(i == j)=decide ((Sum.inl i:Key)=Sum.inl j):=by
    by_cases z:i=j
    ·rw[z];simp
    ·rw[decide_eq_false (fun e=>z (Sum.inl.inj e))];simpa using z
   rw[e];exact h
  | inr y=>cases hs
 | inr x =>
  cases m with
  | inl j=>cases hs
  | inr y =>
   obtain⟨t,rfl⟩:=hp
   obtain⟨u,rfl⟩:=hq
   refine wpAny_eqBool_str ?_
   have e:decide (x=y)=decide ((Sum.inr x:Key)=Sum.inr y):=decide_eq_decide.mpr ⟨fun z=>by rw[z],fun z=>Sum.inr.inj z⟩
   rw[e];exact h
theorem ZhX{c:Bool}{k m:Key}{p q:Value}(hp:Zo (kV k) p)(hq:Zo (kV m) q)(hs:k.isLeft=m.isLeft){Q:Bool→Shared→Prop}(h:Q (kLt k m) s):wpAny (model prog w) A (oneLt' c p q) Q E s:=by
 cases k with
 | inl i =>
  cases m with
  | inl j =>
   obtain⟨t,rfl⟩:=hp
   obtain⟨u,rfl⟩:=hq
   cases c with
   | true=>exact oneLt_int h
   | false =>
    rw[oneLt'_eq]
    show wpAny _ _ (richCompare .Lt (.int i t) (.int j u) >>= _) _ _ _
    refine wpAny_bind (show wpAny (model prog w) A (compareOp .Lt (.int i t) (.int j u)) _ _ _ from PyProof.Rows.lt_int ?_)
    exact wpAny_pure h
  | inr y=>cases hs
 | inr x =>
  cases m with
  | inl j=>cases hs
  | inr y =>
   obtain⟨t,rfl⟩:=hp
   obtain⟨u,rfl⟩:=hq
   cases c with
   | true=>exact oneLt_str h
   | false =>
    rw[oneLt'_eq]
    show wpAny _ _ (richCompare .Lt (.str x t) (.str y u) >>= _) _ _ _
    refine wpAny_bind (show wpAny (model prog w) A (compareOp .Lt (.str x t) (.str y u)) _ _ _ from PyProof.Rows.lt_str ?_)
    exact wpAny_pure h
theorem ZhQ{b:Bool}{x y:Addr}{ks ms:List Key}{its its2:List Value}(hx:IsTup s.heap x its.toArray)(hy:IsTup s.heap y its2.toArray)(rx:Zm (ks.map kV) its)(ry:Zm (ms.map kV) its2)(hs:Z1 ks=Z1 ms){Q:Bool→Shared→Prop}
  (h:Q (ZH ks ms) s):wpAny (model prog w) A (keyLt' (tuples' b) (.ref x) (.ref y)) Q E s:=by
 obtain⟨o1,ho1,_,n1,hd1⟩:=hx
 obtain⟨o2,ho2,_,n2,hd2⟩:=hy
 show wpAny _ _ (Builtin.List.listItems (.ref x) >>= _) _ _ _
 refine wpAny_bind (Z3 ho1 hd1 (wpAny_bind (Z3 ho2 hd2 (wpAny_bind ?_))))
 have hl1:=rx.length
 have hl2:=ry.length
 have hl3:ks.length=ms.length:=by have:=congrArg List.length hs;simpa [Z1] using this
 rw[Qb]at hl1 hl2
 refine wpAny_forIn_list _ (fun rest c s'=>c=(none,())∧s'=s∧∃ (vs ws:List Value) (k:Nat) (ks' ms':List Key),rest=(vs.zip ws).zipIdx k∧Zm (ks'.map kV) vs∧Zm (ms'.map kV) ws∧Z1 ks'=Z1 ms'∧ZH ks ms=ZH ks' ms') _ ?_ ?_ _ _ ⟨rfl,rfl,its,its2,0,ks,ms,by simp,rx,ry,hs,rfl⟩
 ·rintro⟨⟨p,q⟩,i⟩ rest c s' ⟨rfl,rfl,vs,ws,k,ks',ms',hz,rv,rw',hs',he⟩
  cases ks' with
  | nil=>cases rv;cases hz
  | cons k1 kr =>
   cases ms' with
   | nil=>cases hs'
   | cons m1 mr =>
    cases rv with
    | cons r1 rr =>
     cases rw' with
     | cons r1' rr' =>
      rw[List.zip_cons_cons,List.zipIdx_cons]at hz
      injection hz with h1 h2
      injection h1 with h3 h4
      injection h3 with h5 h6
      subst h4 h5 h6
      unfold Z1 at hs'
      rw[Qv,Qv]at hs'
      injection hs' with s1 s2
      refine wpAny_bind (Zh8 r1 r1' s1 ?_)
      rw[ZaH]at he
      by_cases e:k1=m1
      ·rw[if_pos e]at he
       rw[decide_eq_true e]
       exact wpAny_pure ⟨rfl,rfl,_,_,_,kr,mr,h2,rr,rr',s2,he⟩
      ·rw[if_neg e]at he
       rw[decide_eq_false e]
       refine wpAny_bind (ZhX r1 r1' s1 (wpAny_pure ?_))
       refine wpAny_pure ?_
       rw[← he];exact h
 ·rintro c s' ⟨rfl,rfl,vs,ws,k,ks',ms',hz,rv,rw',hs',he⟩
  refine wpAny_pure ?_
  have e:ZH ks' ms'=false:=by
   cases ks' with
   | nil =>
    cases ms' with
    | nil=>rfl
    | cons _ _=>cases hs'
   | cons k1 kr =>
    cases ms' with
    | nil=>cases hs'
    | cons m1 mr =>
     cases rv with
     | cons r1 rr =>
      cases rw' with
      | cons r1' rr'=>rw[List.zip_cons_cons,List.zipIdx_cons]at hz;cases hz
  rw[e]at he
  rw[he]at h
  have e2:decide (its.toArray.size<its2.toArray.size)=false:=decide_eq_false (by rw[Qk,Qk];omega)
  rw[e2];exact h
end
section
variable {prog:Program} {w:World} {A:Around} {E:Value→Shared→Prop} {s:Shared}
theorem w_mapM{M:Model}{α β:Type}{f:α→Sem β}(R:α→β→Prop):∀ (l:List α) {Q:List β→Shared→Prop},(∀v∈l,∃r,R v r∧∀ (Q':β→Shared→Prop),Q' r s→wpAny M A (f v) Q' E s)→(∀rs,rs.length=l.length→(∀r∈rs,∃v∈l,R v r)→Q rs s)→wpAny M A (List.mapM f l) Q E s
 | [],Q,_,q=>by rw[List.mapM_nil];exact wpAny_pure (q [] rfl (fun r h=>by cases h))
 | a::l,Q,h,q=>by
  rw[List.mapM_cons]
  obtain⟨r,hr,hw⟩:=h a (by simp)
  refine wpAny_bind (hw _ (wpAny_bind (w_mapM R l (fun v hv=>h v (Qg _ hv)) fun rs hl hrs=>wpAny_pure (q (r::rs) (by simp[hl]) fun z hz=>?_))))
  rcases Qt.mp hz with rfl|hz
  ·exact⟨a,by simp,hr⟩
  ·obtain⟨v,hv,hR⟩:=hrs z hz
   exact⟨v,Qg _ hv,hR⟩
theorem w_mapA{M:Model}{α β:Type}{f:α→Sem β}(R:α→β→Prop)(l:Array α){Q:Array β→Shared→Prop}(h:∀v∈l.toList,∃r,R v r∧∀ (Q':β→Shared→Prop),Q' r s→wpAny M A (f v) Q' E s)(q:∀rs:Array β,(∀r∈rs.toList,∃v∈l.toList,R v r)→Q rs s):wpAny M A (Array.mapM f l) Q E s:=by
 rw[Array.mapM_eq_mapM_toList,map_eq_pure_bind]
 exact wpAny_bind (w_mapM R l.toList h fun rs _ hr=>wpAny_pure (q rs.toArray (by simpa using hr)))
theorem Ze8{a:Addr}{its:List Value}(ht:IsTup s.heap a its.toArray){Q:Option Value→Shared→Prop}(q:Q its[0]? s):wpAny (model prog w) A (firstOfTuple' (.ref a)) Q E s:=by
 obtain⟨o,ho,hc,n,hd⟩:=id ht
 show wpAny _ _ (typeOf (.ref a) >>= _) _ _ _
 refine wpAny_bind (wpAny_typeOf ht.typeIs ?_)
 rw[if_neg (by decide)]
 refine wpAny_bind (Z3 ho hd (wpAny_pure ?_))
 simpa using q
theorem Zf2{k:Key}{v:Value}(h:Zo (kV k) v){Q:Value→Shared→Prop}(q:Q (.type (if k.isLeft then "int" else "str")) s):wpAny (model prog w) A (typeOf v) Q E s:=by
 cases k with
 | inl i=>obtain⟨t,rfl⟩:=h;exact wpAny_typeOf (T := "int") rfl q
 | inr x=>obtain⟨t,rfl⟩:=h;exact wpAny_typeOf (T := "str") rfl q
theorem Zgr{vs:List Value}(h:∀v∈vs,∃ (a:Addr) (its:List Value) (k:Key) (v0:Value),v=.ref a∧IsTup s.heap a its.toArray∧its[0]? = some v0∧Zo (kV k) v0){Q:SortKind→Shared→Prop}(q:∀b,Q (tuples' b) s):wpAny (model prog w) A (keyKind' vs.toArray) Q E s:=by
 rw[keyKind'_eq]
 refine wpAny_bind (w_mapA (fun _ r=>∃ (k:Key) (v0:Value),r=some v0∧Zo (kV k) v0) _ (fun v hv=>?_) fun firsts hf=>?_)
 ·obtain⟨a,its,k,v0,rfl,ht,h0,hr⟩:=h v (by simpa using hv)
  exact⟨its[0]?,⟨k,v0,h0,hr⟩,fun Q' q'=>Ze8 ht q'⟩
 ·have hall:(firsts.all fun x=>x.isSome)=true:=by
   rw[Array.all_eq_true]
   intro i hi
   obtain⟨v,_,k,v0,e,_⟩:=hf firsts[i] (by simp)
   rw[e];rfl
  rw[if_pos hall]
  refine wpAny_bind (wpAny_rule (wpAny_bind ?_))
  rw[oneTypeOnly'_eq]
  refine wpAny_bind (w_mapA (fun _ _=>True) _ (fun v hv=>?_) fun ts _=>?_)
  ·have hv':v∈(Array.filterMap id firsts).toList:=hv
   rw[Array.toList_filterMap]at hv'
   obtain⟨o,ho,eo⟩:=List.mem_filterMap.mp hv'
   obtain⟨_,_,k,v0,e,hr⟩:=hf o ho
   have e2:v0=v:=by
    have:o=some v:=eo
    rw[e]at this;exact Qp this
   subst e2
   exact⟨_,trivial,fun Q' q'=>Zf2 hr q'⟩
  ·split
   ·exact wpAny_pure (wpAny_pure (q _))
   ·exact wpAny_pure (wpAny_pure (q _))
theorem w_sort0{a:Addr}{vs:List Value}{n:Nat}{P:PySem.Fin→Shared→Prop}(ha:s.heap.get? a=some (seqObj "list" vs.toArray n))(h2:vs.length<2)
  (q:P (Fin.done (Flow.ret Value.none)) { s with heap:=sortedHeap s.heap a vs ((pairsOf vs).map fun x=>x.snd) }) :
  wpAny (model prog w) A (Builtin.«list.sort» { pos:=[.ref a] }) P E s:=by
 have hz:vs.toArray.size≤sizeLine:=by rw[Qk,sizeLine_eq];omega
 rw[list_sort_plain]
 refine wpAny_bind (Z3 ha rfl ?_)
 show wpAny _ _ (updateSeq a (fun x=>#[]) >>= _) _ _ _
 refine wpAny_bind (wpAny_updateSeq ha rfl ?_ hz (by show 0≤_;omega))
 have e1:=get?_update_seq ha (fun _=>#[])
 refine wpAny_bind (seqEpoch_at e1 rfl ?_)
 refine wpAny_bind (wpAny_newTuple ?_ (by simpa using hz))
 refine wpAny_bind (wpAny_newList ?_ (by show 0≤_;omega))
 refine wpAny_holding ?_
 have hn2:vs.toArray.size<2:=by rw[Qk];omega
 have hps:(pairsOf vs).size=vs.length:=by unfold pairsOf;simp
 rw[if_pos hn2,if_pos hn2]
 have e2:(((s.heap.update a (Obj.mapSeq fun _=>#[])).push { cls:=.type "tuple",data:=.seq vs.toArray.toList.toArray }).push { cls:=.type "list",data:=.seq ([]:List Value).toArray }).get? a=some (seqObj "list" #[] _):=Qc _ (Qc _ e1)
 refine wpAny_bind (wpAny_pure ?_)
 show wpAny _ _ (pure ((),SortSt.mk' general' (vs.toArray.zip vs.toArray) #[] 7 none) >>= _) _ _ _
 refine wpAny_bind (wpAny_pure ?_)
 refine wpAny_bind (seqEpoch_at e2 rfl ?_)
 have hsz:((pairsOf vs).map fun x=>x.snd).size=vs.length:=by rw[Array.size_map,hps]
 show wpAny _ _ (updateSeq a (fun x=>(pairsOf vs).map fun x=>x.snd) >>= _) _ _ _
 refine wpAny_bind (wpAny_updateSeq e2 rfl ?_ (by show 0≤_;omega) (by show ((pairsOf vs).map fun x=>x.snd).size≤_;rw[hsz];rw[Qk]at hz;omega))
 show wpAny _ _ (if _ then _ else _) _ _ _
 rw[if_neg (by simp)]
 exact wpAny_pure q
theorem w_sorted0{l:Addr}{vs:List Value}{Q:Value→Shared→Prop}(hl:s.heap.IsList l vs.toArray)(h2:vs.length<2)
  (q:Q (.ref (s.heap.objs.size+1)) { s with heap:=sortedAll s.heap vs ((pairsOf vs).map fun x=>x.snd) }) :
  wpAny (model prog w) A (call (.builtin "sorted") [.ref l]) Q E s:=by
 refine Calls.call_function_entry kind_sorted plain_sorted entry_sorted (args_sorted1 (.ref l)) ?_
 have hz:vs.length≤sizeLine:=by rw[sizeLine_eq];omega
 refine wpAny_bind (wpAny_pure (wpAny_bind (collect_list hl (wpAny_bind (wpAny_newList ?_ hz)) hz)))
 have hsz:((s.heap.push (seqObj "list" #[] 0)).update s.heap.objs.size (Obj.mapSeq fun x=>x++vs.toArray)).objs.size=s.heap.objs.size+1:=by rw[Heap.size_update,size_push']
 have hoL:((((s.heap.push (seqObj "list" #[] 0)).update s.heap.objs.size (Obj.mapSeq fun x=>x++vs.toArray)).push (seqObj "list" vs.toArray 0)).get? (s.heap.objs.size+1))=some (seqObj "list" vs.toArray 0):=by
  rw[← hsz];exact Qr _ rfl
 show wpAny _ _ (holding [.ref ((s.heap.push (seqObj "list" #[] 0)).update s.heap.objs.size (Obj.mapSeq fun x=>x++vs.toArray)).objs.size] (call (.builtin "list.sort") [.ref ((s.heap.push (seqObj "list" #[] 0)).update s.heap.objs.size (Obj.mapSeq fun x=>x++vs.toArray)).objs.size]) >>= fun _=>ret (.ref ((s.heap.push (seqObj "list" #[] 0)).update s.heap.objs.size (Obj.mapSeq fun x=>x++vs.toArray)).objs.size)) _ _ _
 rw[hsz]
 refine wpAny_bind (wpAny_holding (wpAny_call_entry slot_list_sort ⟨_,hoL,rfl⟩ entry_list_sort ?_ (args_list_sort _)))
 exact w_sort0 hoL h2 ⟨_,rfl,wpAny_pure ⟨_,rfl,q⟩⟩
end
theorem ZdJ{α β:Type}(f:α→β){l m:List β}(h:l.Perm m):∀ts:List α,m=ts.map f→∃ts':List α,ts'.Perm ts∧l=ts'.map f:=by
 induction h with
 | nil =>
  intro ts e
  have:ts=[]:=by cases ts with
   | nil=>rfl
   | cons _ _=>cases e
  subst this
  exact⟨[],.nil,rfl⟩
 | cons x _ ih =>
  intro ts e
  cases ts with
  | nil=>cases e
  | cons a r =>
   rw[Qv]at e
   injection e with e1 e2
   obtain⟨ts',p,e3⟩:=ih r e2
   exact⟨a::ts',p.cons a,by rw[Qv,e1,e3]⟩
 | swap x y l =>
  intro ts e
  cases ts with
  | nil=>cases e
  | cons a r =>
   cases r with
   | nil=>cases e
   | cons b r =>
    rw[Qv,Qv]at e
    injection e with e1 e2
    injection e2 with e2 e3
    exact⟨b::a::r,.swap a b r,by rw[Qv,Qv,e1,e2,e3]⟩
 | trans _ _ ih1 ih2 =>
  intro ts e
  obtain⟨ts2,p2,e2⟩:=ih2 ts e
  obtain⟨ts1,p1,e1⟩:=ih1 ts2 e2
  exact⟨ts1,p1.trans p2,e1⟩
theorem ZdF{α:Type}:∀l:List α,l.zip l=l.map fun v=>(v,v)
 | []=>rfl
 | a::r=>by rw[List.zip_cons_cons,ZdF r];rfl
abbrev ZbG:=List (Addr×List Key)
def Za5(ts:ZbG):List V:=ts.map fun t=>V.ref t.1
def AtT(H:Hp)(ts:ZbG):Prop:=∀t∈ts,H t.1=some (.tup (t.2.map kV))
theorem Zcu:∀ {ts:ZbG} {us:List Value},Zm (Za5 ts) us→us=ts.map fun t=>Value.ref t.1
 | [],_,h=>by cases h;rfl
 | t::r,_,h=>by
  cases h with
  | cons a b=>rw[Zcu b];cases a;rfl
theorem Zcv:∀ts:ZbG,Zm (Za5 ts) (ts.map fun t=>Value.ref t.1)
 | []=>.nil
 | t::r=>.cons rfl (Zcv r)
def rSrtT(K:PySem.W.Frag):List V→Hp→VK→Prop:=fun xs H Q=>∃ (p:Addr) (ts:ZbG) (sh:List Bool),xs=[.ref p]∧SqL K H p (Za5 ts)∧AtT H ts∧sh≠[]∧(∀t∈ts,Z1 t.2=sh)∧ts.length<64 ∧
 ∀ (l:Addr) (ts':ZbG),H l=none→ts'.Perm ts→ts'.Pairwise (fun a b=>ZH b.2 a.2=false)→Q (.ref l) (upd H l (.lst (Za5 ts')))
section
open PySem.SeqAt
open PySem.AutoSeq1 (wpAny_loadPart')
open PySem.MeetsSeq PySem.MeetsSeq2 PySem.MeetsSeq3
end
section
variable {prog:Program} {w:World} {A:Around} {E:Value→Shared→Prop} {s:Shared}
end
section
variable {prog:Program} {w:World}
end
section
variable {X:Cx}
def rMinT(K:PySem.W.Frag):List V→Hp→VK→Prop:=fun vs H Q=>∃ (p:Addr) (ts:ZbG) (sh:List Bool),vs=[.ref p]∧SqL K H p (Za5 ts)∧AtT H ts∧ts≠[]∧(∀t∈ts,Z1 t.2=sh) ∧
 ∀t:Addr×List Key,t∈ts→(∀u∈ts,ZH u.2 t.2=false)→Q (.ref t.1) H
def tMinD(K:PySem.W.Frag)(te:TA):TE:=fun σ H Q=>te σ H fun vs H1=>∃ (p:Addr) (ts:ZbG) (sh:List Bool),vs=[.ref p]∧SqL K H1 p (Za5 ts)∧AtT H1 ts∧(∀t∈ts,Z1 t.2=sh)∧(ts=[]→Q .non H1) ∧
 ∀t:Addr×List Key,t∈ts→(∀u∈ts,ZH u.2 t.2=false)→Q (.ref t.1) H1
end
def EqS(s:Shared)(items:List Value)(v:Value)(e:Nat→Bool):Prop:=∀ (prog:Program) (w:World) (A:Around) (E:Value→Shared→Prop) (Q:Bool→Shared→Prop) (m:Nat) (x:Value),A.units+2<cLine→items[m]? = some x→Q (e m) s→wpAny (model prog w) A (eqBool x v) Q E s
section
variable {X:Cx}
def rRemI:V→List V→Hp→VK→Prop:=fun x vs H Q=>∃ (l:Addr) (ns:List Int) (n:Int),x=.ref l∧vs=[.int n]∧H l=some (.lst (ns.map V.int))∧n∈ns∧ns.length≤1000∧Q .non (upd H l (.lst ((ns.erase n).map V.int)))
def rRemT:V→List V→Hp→VK→Prop:=fun x vs H Q=>∃ (l:Addr) (ts:ZbG) (t:Addr×List Key),x=.ref l∧vs=[.ref t.1]∧H l=some (.lst (Za5 ts))∧AtT H ts∧t∈ts∧ts.length≤1000∧∀ (i:Nat) (hi:i<ts.length),ts[i].2=t.2→Q .non (upd H l (.lst (Za5 (ts.eraseIdx i))))
end
section
open PySem.SeqAt
open PySem.AutoSeq1 (wpAny_loadPart')
open PySem.MeetsSeq PySem.MeetsSeq2 PySem.MeetsSeq3
end
section
variable {prog:Program} {w:World} {A:Around} {E:Value→Shared→Prop} {s:Shared}
end
section
variable {X:Cx}
def rGeK(K:PySem.W.Frag):R2:=fun x y H Q=>∃ (a b:Addr) (ks ms:List Key),x=.ref a∧y=.ref b∧SqT K H a (ks.map kV)∧SqT K H b (ms.map kV)∧Z1 ks=Z1 ms∧Q (.bl (!ZH ks ms)) H
end
def rMaxL(K:PySem.W.Frag):List V→Hp→VK→Prop:=fun vs H Q=>∃ (p:Addr) (ns:List Int),vs=[.ref p]∧SqL K H p (ns.map V.int)∧0<ns.length∧∀M,M∈ns→(∀a∈ns,a≤M)→Q (.int M) H
def isNum(n:Int):Value→Bool
 | .int a _=>a == n
 | _=>false
section
variable {X:Cx}
def rCountI:V→List V→Hp→VK→Prop:=fun x vs H Q=>∃ (l:Addr) (ns:List Int) (n:Int),x=.ref l∧vs=[.int n]∧H l=some (.lst (ns.map V.int))∧Q (.int ((ns.count n:Nat):Int)) H
end
section
variable {X:Cx} {T name id:String} {r:V→List V→Hp→VK→Prop} {o e:Expr} {es:List Expr} {to:TE} {t:TA} {apos cpos:Pos}
end
def Zkb(s:Shared)(items:List Value)(v:Value)(e:Nat→Bool):Prop:=∀ (prog:Program) (w:World) (A:Around) (E:Value→Shared→Prop) (Q:Bool→Shared→Prop) (m:Nat) (x:Value),A.units+60<cLine→items[m]? = some x→Q (e m) s→wpAny (model prog w) A (eqBool x v) Q E s
section
variable {X:Cx}
def rRemD(K:PySem.W.Frag):V→List V→Hp→VK→Prop:=fun x vs H Q=>∃ (l:Addr) (xs:List V) (ds:List PyData) (y:V) (d:PyData) (i:Nat),x=.ref l∧vs=[y]∧H l=some (.lst xs)∧DVs K H xs ds∧DV K H y d∧(∀e∈ds,e.canLay0=true)∧d.canLay0=true∧d.depth≤56∧xs.length≤1000 ∧
 i<ds.length∧(∀e,ds[i]? = some e→PyData.eqv e d=true)∧(∀m e,m<i→ds[m]? = some e→PyData.eqv e d=false)∧Q .non (upd H l (.lst (xs.eraseIdx i)))
def rInD(K:PySem.W.Frag):R2:=fun x y H Q=>∃ (l:Addr) (xs:List V) (ds:List PyData) (d:PyData),y=.ref l∧SqL K H l xs∧DVs K H xs ds∧DV K H x d∧PyData.canLayAll0 ds=true∧SeqAt.shaped d=true∧d.depth≤60∧Q (.bl (ds.any fun e=>PyData.eqv e d)) H
def rSumC(K:PySem.W.Frag):List V→Hp→VK→Prop:=fun vs H Q=>∃ (p:Addr) (ns:List Int),vs=[.ref p]∧SqL K H p (ns.map V.int)∧ns.length≤1000∧(∀n∈ns,0≤n∧n≤10000000000000)∧Q (.int ns.sum) H
end
section
variable {X:Cx}
def rIxD:R2:=fun x y H Q=>∃d kvs b ks v,x=.ref d∧y=.ref b∧H d=some (.dT kvs)∧H b=some (.tup (ks.map kV))∧ZdS kvs ks=some v∧Q v H
def rSetDT:ZeS:=fun o i v H Q=>∃d kvs b ks,o=.ref d∧i=.ref b∧H d=some (.dT kvs)∧H b=some (.tup (ks.map kV))∧ZdS kvs ks=none∧kvs.length<sizeLine∧Q (upd H d (.dT (kvs++[(ks,v)])))
end
abbrev IsZipG(h:Heap)(z TI TO:Addr)(f0:Value)(fl:Bool):Prop :=
 h.get? z=some { cls:=.type "zip",dict:=none,data:=.fields #[f0,.bool fl,.bool false,.ref TI,.ref TO],slots:=#[] }
section
variable {prog:Program} {w:World} {A:Around} {E:Value→Shared→Prop} {s:Shared}
end
section
variable {prog:Program} {w:World} {A:Around} {R:Result→Shared→Prop} {s:Shared}
end
def Zg7(J:It)(D:Addr)(ys:List V)(σ:St)(H:Hp)(g:TG)(te:TE)(N:List V→St→Hp→Prop):Prop :=
 ∃W:Nat→Nat→List V→St→Hp→Prop,(∃m,W 0 m ys σ H) ∧
  ∀i m ys σ2 H2,W i m ys σ2 H2→(J.stop i H2∧N ys σ2 H2) ∨
   (J.go i H2∧∃N2:List V→St→Hp→Prop,(∀ys' σ' H',N2 ys' σ' H'→∃m',m'<m∧W (i+1) m' ys' σ' H')∧∀x H3,J.yld i H2 x H3→g x σ2 H3 fun σ4 H4 =>
    te σ4 H4 fun y H6=>H6 D=some (.lst ys)∧ys.length<sizeLine∧N2 (ys++[y]) σ4 (upd H6 D (.lst (ys++[y]))))
def ZgR(J:It)(D:Addr)(k:Nat)(σ:St)(H1:Hp)(g:TG)(wi2:TI)(g2:TG)(te:TE)(Q:VK):Prop :=
 ∃W:Nat→Nat→List V→St→Hp→Prop,(∃m,W 0 m [] (σ++List.replicate k none) (upd H1 D (.lst []))) ∧
  ∀i m ys σ2 H2,W i m ys σ2 H2→(J.stop i H2∧Q (.ref D) H2) ∨
   (J.go i H2∧∃N:List V→St→Hp→Prop,(∀ys' σ' H',N ys' σ' H'→∃m',m'<m∧W (i+1) m' ys' σ' H')∧∀x H3,J.yld i H2 x H3→g x σ2 H3 fun σ4 H4=>wi2 σ4 H4 fun J2 H5=>Zg7 J2 D ys σ4 H5 g2 te N)
def Zj4(n:Nat)(wi:TI)(g:TG)(wi2:TI)(g2:TG)(te:TE):TE:=fun σ H Q=>wi σ H fun J H1=>∀D,H1 D=none→ZgR J D n σ H1 g wi2 g2 te Q
section
variable {X:Cx} {N N':List Str} {o c:Scope}
end
end L2
namespace Hf
open L2
abbrev PW:=List (Int×Nat)
def val(P:PW):Int:=(P.map fun p=>p.1*(p.2:Int)).sum
def ws(P:PW):List Int:=P.map (·.1)
def ds(P:PW):List Nat:=P.map (·.2)
def zs(z:Nat):List Int:=List.replicate z 0
def kr(w E:Nat)(D:List Nat):Nat:=(D.map fun d=>w ^ (E-d)).sum
def Kr(w:Nat)(D:List Nat):Prop:=∃E,(∀d∈D,d≤E)∧kr w E D=w ^ E
inductive Hu (w:Nat):List Int→Nat→Int→Prop
 | stop {e:Int} {m:Nat}:Hu w [e] m 0
 | step {E L:List Int} {m:Nat} {C:Int}:1<L.length→E.Perm L→L.Pairwise (·≤·)→Hu w (L.drop m++[(L.take m).sum]) w C→Hu w E m (C+(L.take m).sum)
def Fit(w n m:Nat):Prop:=n=1∨∃t,n=m+t*(w-1)
structure Fits (w n m:Nat):Prop where
 w2:2≤w
 m2:2≤m
 mw:m≤w
 ok:Fit w n m
end Hf
namespace L2
open PySem PySem.Spec PyProof.Rows
section
variable {prog:Program} {w:World} {A:Around} {R:Result→Shared→Prop} {s:Shared}
end
def Zib(J:It)(D:Addr)(k:Nat)(σ:St)(H1:Hp)(g:TG)(tc:TT)(tk te:TE)(Q:VK):Prop :=
 ∃W:Nat→Nat→List (List Key×V)→St→Hp→Prop,(∃m,W 0 m [] (σ++List.replicate k none) (upd H1 D (.dT []))) ∧
  ∀i m ys σ2 H2,W i m ys σ2 H2→(J.stop i H2∧Q (.ref D) H2) ∨
   (J.go i H2∧∃N:List (List Key×V)→St→Hp→Prop,(∀ys' σ' H',N ys' σ' H'→∃m',m'<m∧W (i+1) m' ys' σ' H')∧∀x H3,J.yld i H2 x H3→g x σ2 H3 fun σ4 H4=>tc σ4 H4 fun b H5 =>
    if b=true then tk σ4 H5 fun kv H6=>te σ4 H6 fun y H7=>∃ (b:Addr) (ks:List Key),kv=.ref b∧H7 D=some (.dT ys)∧H7 b=some (.tup (ks.map kV))∧ZdS ys ks=none∧ys.length<sizeLine∧N (ys++[(ks,y)]) σ4 (upd H7 D (.dT (ys++[(ks,y)]))) else N ys σ4 H5)
def tDComp(n:Nat)(wi:TI)(g:TG)(tc:TT)(tk te:TE):TE:=fun σ H Q=>wi σ H fun J H1=>∀D,H1 D=none→Zib J D n σ H1 g tc tk te Q
section
variable {X:Cx} {N N':List Str} {o c:Scope}
end
section
variable {κ:Type} [DecidableEq κ]
def Zdd(kvs:List (κ×V))(k:κ):Option V:=(kvs.find? fun kv=>decide (kv.1=k)).map (·.2)
def ZfH(kvs:List (κ×V))(k:κ)(v:V):List (κ×V) :=
 if (kvs.any fun kv=>decide (kv.1=k))=true then kvs.map (fun kv=>if kv.1=k then (kv.1,v) else kv) else kvs++[(k,v)]
def ZeI(kvs:List (κ×V))(k:κ):List (κ×V):=kvs.filter fun kv=>decide (kv.1≠k)
theorem ZiU{k:κ}:Zdd ([]:List (κ×V)) k=none:=rfl
end
abbrev KT(H:Hp):List (List Key×V)→List (List Key×Addr×Value)→Prop:=Paired fun p q=>p.1=q.1∧H q.2.1=some (.tup (p.1.map kV))∧Zo p.2 q.2.2
section
variable {P:Program} {w:World} {H:Hp} {h:Heap} {a:Addr}
end
def Zc8(H:Hp)(a:Addr)(y:V)(r:Option V):Prop :=
 (∃kvs k,Rd H a (.dK kvs)∧y=kV k∧r=Zdd kvs k)∨∃kvs k b,Rd H a (.dT kvs)∧y=.ref b∧H b=some (.tup (k.map kV))∧r=Zdd kvs k
def Zio(H:Hp)(a:Addr)(y v:V)(H':Hp):Prop :=
 (∃kvs k,H a=some (.dK kvs)∧y=kV k∧kvs.length<sizeLine∧H'=upd H a (.dK (ZfH kvs k v))) ∨
 ∃kvs k b,H a=some (.dT kvs)∧y=.ref b∧H b=some (.tup (k.map kV))∧kvs.length<sizeLine∧H'=upd H a (.dT (ZfH kvs k v))
section
variable {X:Cx} {pins:List (Addr×Obj)} {σ:St} {H:Hp} {s:Shared} {a:Addr} {y v:V} {u r:Value} {o:Option V} {A:Around} {E:Value→Shared→Prop}
end
section
variable {X:Cx} {pins:List (Addr×Obj)} {σ:St} {H:Hp} {s:Shared} {a:Addr} {kvs:List (Key×V)} {k:Key} {u:Value} {A:Around} {E:Value→Shared→Prop}
end
def NoSl(i:Expr):Prop:=∀ov iv,subscripted i false ov iv=operate [ov,iv] (getItem ov iv)
def tDGet(td ty:TE):TE:=fun σ H Q=>td σ H fun x H1=>ty σ H1 fun y H2=>∃a v,x=.ref a∧Zc8 H2 a y (some v)∧Q v H2
def tDIn(ty td:TE):TE:=fun σ H Q=>ty σ H fun y H1=>td σ H1 fun x H2=>∃a o,x=.ref a∧Zc8 H2 a y o∧Q (.bl o.isSome) H2
def tDNotIn(ty td:TE):TE:=fun σ H Q=>ty σ H fun y H1=>td σ H1 fun x H2=>∃a o,x=.ref a∧Zc8 H2 a y o∧Q (.bl (!o.isSome)) H2
def sDPut(td ty tv:TE):TS:=fun D σ H=>tv σ H fun v H1=>td σ H1 fun x H2=>ty σ H2 fun y H3=>∃a H4,x=.ref a∧Zio H3 a y v H4∧D.nx σ H4
def sDAug(td ty tv:TE)(rd:V→V→Hp→VK→Prop):TS:=fun D σ H=>td σ H fun x H1=>ty σ H1 fun y H2=>∃a v,x=.ref a∧Zc8 H2 a y (some v) ∧
 tv σ H2 fun y2 H3=>rd v y2 H3 fun z H4=>∃H5,Zio H4 a y z H5∧D.nx σ H5
def sDDel(td ty:TE):TS:=fun D σ H=>td σ H fun x H1=>ty σ H1 fun y H2=>∃a kvs k,x=.ref a∧H2 a=some (.dK kvs)∧y=kV k∧(Zdd kvs k).isSome=true∧D.nx σ (upd H2 a (.dK (ZeI kvs k)))
section
variable {X:Cx} {o i e value:Expr} {pos pos' tpos:Pos} {td ty tv:TE}
end
def tDNewK:TE:=fun _ H Q=>∀p,H p=none→Q (.ref p) (upd H p (.dK []))
def tDNewT:TE:=fun _ H Q=>∀p,H p=none→Q (.ref p) (upd H p (.dT []))
section
variable {X:Cx} {pos:Pos}
end
def ZdY:List (TE×TE)→St→Hp→(List (V×V)→Hp→Prop)→Prop
 | [],_,H,Q=>Q [] H
 | (tk,tv)::r,σ,H,Q=>tk σ H fun x H1=>tv σ H1 fun y H2=>ZdY r σ H2 fun ps H3=>Q ((x,y)::ps) H3
abbrev VV:List (V×V)→List (Value×Value)→Prop:=Paired fun p q=>Zo p.1 q.1∧Zo p.2 q.2
def PPs(X:Cx)(pos:Pos)(keys:List (Option Expr))(values:List Expr)(trs:List (TE×TE)):Prop :=
 ∀ (pins:List (Addr×Obj)) (s:Shared) (σ:St) (H:Hp) (Q:List (V×V)→Hp→Prop),Inv X pins σ H s→ZdY trs σ H Q →
  wpAny (model X.prog X.w) X.A (evalPairs (pairTrees keys values X.env pos)) (fun vs s'=>∃ps H',Inv X pins σ H' s'∧VV ps vs∧Q ps H') X.xe s
def Zeh(kvs more:List (Key×V)):List (Key×V):=more.foldl (fun acc kv=>ZfH acc kv.1 kv.2) kvs
def tDisp(trs:List (TE×TE)):TE:=fun σ H Q=>∀p,H p=none→ZdY trs σ (upd H p (.dK [])) fun ps H2=>H2 p=some (.dK [])∧∃kvs:List (Key×V),ps=kvs.map (fun kv=>(kV kv.1,kv.2))∧kvs.length≤15∧Q (.ref p) (upd H2 p (.dK (Zeh [] kvs)))
structure M1 (X:Cx) (o:Expr) (m:Str) (apos:Pos) (e:Expr) (cpos:Pos):Prop where
 base:attributeBase o m X.env (eval o X.env)=eval o X.env
 few:((backTo cpos (starEach [e] X.env)).all (fun x=>!x.1)&&(backToKw cpos (keywordEach [] X.env)).all (fun x=>x.1.isSome)
  && decide (([e]:List Expr).length+([]:List Keyword).length+(if ([]:List Keyword).isEmpty then 0 else 1)<30))=true
 line:(apos.endLine == cpos.line)=true
 trees:backTo cpos (starEach [e] X.env)=[(false,eval e X.env)]
structure M2 (X:Cx) (o:Expr) (m:Str) (apos:Pos) (e f:Expr) (cpos:Pos):Prop where
 base:attributeBase o m X.env (eval o X.env)=eval o X.env
 few:((backTo cpos (starEach [e,f] X.env)).all (fun x=>!x.1)&&(backToKw cpos (keywordEach [] X.env)).all (fun x=>x.1.isSome)
  && decide (([e,f]:List Expr).length+([]:List Keyword).length+(if ([]:List Keyword).isEmpty then 0 else 1)<30))=true
 line:(apos.endLine == cpos.line)=true
 trees:backTo cpos (starEach [e,f] X.env)=[(false,eval e X.env),(false,eval f X.env)]
def IsD(H:Hp)(a:Addr):Prop:=(∃kvs,Rd H a (.dK kvs))∨∃kvs,Rd H a (.dT kvs)
section
variable {X:Cx} {pins:List (Addr×Obj)} {σ:St} {H:Hp} {s:Shared} {a:Addr} {y d:V} {u r:Value} {o:Option V} {A:Around} {E:Value→Shared→Prop}
end
def Zju(td ty:TE):TE:=fun σ H Q=>td σ H fun x H1=>∃a,x=.ref a∧IsD H1 a∧ty σ H1 fun y H2=>∃o,Zc8 H2 a y o∧Q (o.getD .non) H2
def Zjx(td ty tx:TE):TE:=fun σ H Q=>td σ H fun x H1=>∃a,x=.ref a∧IsD H1 a∧ty σ H1 fun y H2=>tx σ H2 fun z H3=>∃o,Zc8 H3 a y o∧Q (o.getD z) H3
def Zj1(td ty:TE):TE:=fun σ H Q=>td σ H fun x H1=>∃a,x=.ref a∧IsD H1 a∧ty σ H1 fun y H2=>∃kvs k v,H2 a=some (.dK kvs)∧y=kV k∧Zdd kvs k=some v∧Q v (upd H2 a (.dK (ZeI kvs k)))
def ZjR(td ty tx:TE):TE:=fun σ H Q=>td σ H fun x H1=>∃a,x=.ref a∧IsD H1 a∧ty σ H1 fun y H2=>tx σ H2 fun z H3=>∃kvs k,H3 a=some (.dK kvs)∧y=kV k ∧
 (∀v,Zdd kvs k=some v→Q v (upd H3 a (.dK (ZeI kvs k))))∧(Zdd kvs k=none→Q z H3)
section
variable {X:Cx} {o e f:Expr} {apos cpos:Pos} {td ty tx:TE}
end
section
variable {X:Cx} {pins:List (Addr×Obj)} {σ:St} {H:Hp} {s:Shared} {a:Addr} {kvs:List (Key×V)} {A:Around} {E:Value→Shared→Prop}
end
section
variable {X:Cx} {pins:List (Addr×Obj)} {σ:St} {H:Hp} {s:Shared} {a:Addr} {y:V} {u:Value} {A:Around} {E:Value→Shared→Prop}
end
section
variable {X:Cx}
end
section
variable {κ:Type} [DecidableEq κ]
end
structure Mf (P:Program) (w:World) (K:PySem.W.Frag) (mg:Str→Option Value) (base:Heap) (k:Nat) (C:Addr) (m:Str) (ps:List Str) (sp:Sp):Prop where
 ex:∃f fd,ZbP P w K mg base CX0 k f fd ps sp∧Zi0 K C m f∧Za6 K fd ps []
structure Cf (P:Program) (w:World) (K:PySem.W.Frag) (mg:Str→Option Value) (base:Heap) (k:Nat) (C:Addr) (x:Str) (ps:List Str) (sp:Sp):Prop where
 ex:∃f fd,ZbP P w K mg base CX0 k f fd ps sp∧Mk K C f∧Za6 K fd ps []∧mg x=some (.ref C)
structure TopM (K:PySem.W.Frag) (C:Addr) (m qual:Str) (st:Stmt) (ps:List Str):Prop where
 ex:∃f fd,Fun K m qual st f fd∧Zi0 K C m f∧Za6 K fd ps []
structure TopI (K:PySem.W.Frag) (mg:Str→Option Value) (C:Addr) (x qual:Str) (st:Stmt) (ps:List Str):Prop where
 ex:∃f fd,Fun K "__init__" qual st f fd∧Mk K C f∧Za6 K fd ps []∧mg x=some (.ref C)
section
variable {P:Program} {w:World} {K:PySem.W.Frag} {mg:Str→Option Value} {base:Heap}
end
section
variable {X:Cx} {k j:Nat} {C:Addr} {m x:Str} {ps:List Str} {sp:Sp} {o e:Expr} {es:List Expr} {ta:TE} {t:TA} {p apos pos:Pos} {pl:Sem Bool}
end
section
variable {X:Cx} {pins:List (Addr×Obj)} {σ:St} {H:Hp} {s:Shared} {d:Addr} {o:Obj} {u:HO}
end
def tThaw(t:TE):TE:=fun σ H Q=>∃d u,H d=some u∧Mut (some u)∧t σ H fun v H'=>∃o,H' d=some (.frz o u)∧Q v (upd H' d u)
def rListD:List V→Hp→VK→Prop:=fun xs H Q=>∃d kvs,xs=[.ref d]∧H d=some (.dK kvs)∧∀l,H l=none→Q (.ref l) (upd H l (.lst (kvs.map fun kv=>kV kv.1)))
def Itv(d:Addr)(o:Obj)(kvs:List (Key×V)):It :=
 ⟨fun i H=>H d=some (.frz o (.dK kvs))∧i<kvs.length,fun i H v H'=>H'=H∧∃k,kvs[i]? = some (k,v),fun i H=>H d=some (.frz o (.dK kvs))∧kvs.length≤i⟩
def Itk(d:Addr)(o:Obj)(kvs:List (Key×V)):It :=
 ⟨fun i H=>H d=some (.frz o (.dK kvs))∧i<kvs.length,fun i H v H'=>H'=H∧∃k x,kvs[i]? = some (k,x)∧v=kV k,fun i H=>H d=some (.frz o (.dK kvs))∧kvs.length≤i⟩
def iKeys(tl:TE):TI:=fun σ H R=>tl σ H fun x H1=>∃d kvs,x=.ref d∧H1 d=some (.dK kvs)∧∀o,R (Itk d o kvs) (upd H1 d (.frz o (.dK kvs)))
def rSortedD:List V→Hp→VK→Prop:=fun xs H Q=>∃d kvs ns,xs=[.ref d]∧H d=some (.dK kvs)∧kvs.map (·.1)=ns.map Sum.inl∧ns.length<64 ∧
 ∀ (l:Addr) (ns':List Int),H l=none→ns'.Perm ns→ns'.Pairwise (·≤·)→Q (.ref l) (upd H l (.lst (ns'.map V.int)))
def rSumL(K:PySem.W.Frag):List V→Hp→VK→Prop:=fun vs H Q=>∃ (p:Addr) (ns:List Int),vs=[.ref p]∧SqL K H p (ns.map V.int)∧ns.length≤1000∧(∀n∈ns,0≤n∧n≤1000000)∧Q (.int ns.sum) H
def iVals(tl:TE):TI:=fun σ H R=>tl σ H fun x H1=>∃d kvs,x=.ref d∧H1 d=some (.dK kvs)∧∀o,R (Itv d o kvs) (upd H1 d (.frz o (.dK kvs)))
def Iti(d:Addr)(o:Obj)(kvs:List (Key×V)):It :=
 ⟨fun i H=>H d=some (.frz o (.dK kvs))∧i<kvs.length,
  fun i H v H'=>∃p k x,H p=none∧v=.ref p∧kvs[i]? = some (k,x)∧H'=upd H p (.tup [kV k,x]),
  fun i H=>H d=some (.frz o (.dK kvs))∧kvs.length≤i⟩
def iItems(tl:TE):TI:=fun σ H R=>tl σ H fun x H1=>∃d kvs,x=.ref d∧H1 d=some (.dK kvs)∧∀o,R (Iti d o kvs) (upd H1 d (.frz o (.dK kvs)))
def Zg4(J:It)(D:Addr)(k:Nat)(σ:St)(H1:Hp)(g:TG)(tc:TT)(tk te:TE)(Q:VK):Prop :=
 ∃W:Nat→Nat→List (Key×V)→St→Hp→Prop,(∃m,W 0 m [] (σ++List.replicate k none) (upd H1 D (.dK []))) ∧
  ∀i m ys σ2 H2,W i m ys σ2 H2→(J.stop i H2∧Q (.ref D) H2) ∨
   (J.go i H2∧∃N:List (Key×V)→St→Hp→Prop,(∀ys' σ' H',N ys' σ' H'→∃m',m'<m∧W (i+1) m' ys' σ' H')∧∀x H3,J.yld i H2 x H3→g x σ2 H3 fun σ4 H4=>tc σ4 H4 fun b H5 =>
    if b=true then tk σ4 H5 fun kv H6=>te σ4 H6 fun y H7=>∃k:Key,kv=kV k∧H7 D=some (.dK ys)∧ys.length<sizeLine∧N (ZfH ys k y) σ4 (upd H7 D (.dK (ZfH ys k y))) else N ys σ4 H5)
def tKComp(n:Nat)(wi:TI)(g:TG)(tc:TT)(tk te:TE):TE:=fun σ H Q=>wi σ H fun J H1=>∀D,H1 D=none→Zg4 J D n σ H1 g tc tk te Q
section
variable {X:Cx} {N N':List Str} {o c:Scope}
end
section
variable {X:Cx}
def rIxK:R2:=fun x y H Q=>∃d kvs k v,x=.ref d∧y=kV k∧H d=some (.dK kvs)∧Zdd kvs k=some v∧Q v H
end
section
variable {prog:Program} {w:World} {A:Around} {R:Result→Shared→Prop} {I:Addr} {fp wr:List Addr} {G:Array GenState→Array GenState→Prop} {n:Nat} {P:Nat→Value→Prop} {St:Nat→Shared→Prop} {K:Type} [DecidableEq K] {knd:KeyKind prog w K}
end
section
variable {prog:Program} {w:World} {A:Around} {E:Value→Shared→Prop} {s:Shared} {K:Type} [DecidableEq K] {knd:KeyKind prog w K}
end
def rDictP(K:PySem.W.Frag):List V→Hp→VK→Prop:=fun xs H Q=>∃ (a:Addr) (ts:List (Addr×Key×V)),xs=[.ref a]∧SqL K H a (ts.map fun t=>V.ref t.1)∧(∀t∈ts,H t.1=some (.tup [kV t.2.1,t.2.2]))∧ts.length≤1000 ∧
 ∀D,H D=none→Q (.ref D) (upd H D (.dK (Zeh [] (ts.map (·.2)))))
def rInG:R2:=fun y x H Q=>∃a o,x=.ref a∧Zc8 H a y o∧Q (.bl o.isSome) H
def rNotInG:R2:=fun y x H Q=>∃a o,x=.ref a∧Zc8 H a y o∧Q (.bl (!o.isSome)) H
def rIxG:R2:=fun x y H Q=>∃a v,x=.ref a∧Zc8 H a y (some v)∧Q v H
section
variable {X:Cx} {k:Nat}
def rSetG:ZeS:=fun o i v H Q=>∃a H',o=.ref a∧Zio H a i v H'∧Q H'
def rEqE(neg:Bool):R2:=fun x y H Q=>∃a b kvs,x=.ref a∧y=.ref b∧H a=some (.dK kvs)∧H b=some (.dK [])∧Q (.bl (if neg then !kvs.isEmpty else kvs.isEmpty)) H
end
mutual
inductive DH (H:Hp):V→PyData→Prop where
 | non:DH H .non .none
 | bl (b:Bool):DH H (.bl b) (.bool b)
 | int (i:Int):DH H (.int i) (.int i)
 | str (s:Str):DH H (.str s) (.str s)
 | lst {a:Addr} {xs:List V} {ds:List PyData}:H a=some (.lst xs)→DHs H xs ds→DH H (.ref a) (.list ds)
 | tup {a:Addr} {xs:List V} {ds:List PyData}:H a=some (.tup xs)→DHs H xs ds→DH H (.ref a) (.tuple ds)
inductive DHs (H:Hp):List V→List PyData→Prop where
 | nil:DHs H [] []
 | cons {x:V} {d:PyData} {xs:List V} {ds:List PyData}:DH H x d→DHs H xs ds→DHs H (x::xs) (d::ds)
end
mutual
theorem DH.mono{H H':Hp}(s:Zn H H'):∀ {x:V} {d:PyData},DH H x d→DH H' x d
 | _,_,.non=>.non
 | _,_,.bl b=>.bl b
 | _,_,.int i=>.int i
 | _,_,.str z=>.str z
 | _,_,.lst h hs=>.lst (s _ _ h) (DHs.mono s hs)
 | _,_,.tup h hs=>.tup (s _ _ h) (DHs.mono s hs)
theorem DHs.mono{H H':Hp}(s:Zn H H'):∀ {xs:List V} {ds:List PyData},DHs H xs ds→DHs H' xs ds
 | _,_,.nil=>.nil
 | _,_,.cons h hs=>.cons (DH.mono s h) (DHs.mono s hs)
end
mutual
theorem DH.dv{K:PySem.W.Frag}{H:Hp}:∀ {x:V} {d:PyData},DH H x d→DV K H x d
 | _,_,.non=>.non
 | _,_,.bl b=>.bl b
 | _,_,.int i=>.int i
 | _,_,.str z=>.str z
 | _,_,.lst h hs=>.lst (SqL.of h) (DHs.dv hs)
 | _,_,.tup h hs=>.tup (SqT.of h) (DHs.dv hs)
theorem DHs.dv{K:PySem.W.Frag}{H:Hp}:∀ {xs:List V} {ds:List PyData},DHs H xs ds→DVs K H xs ds
 | _,_,.nil=>.nil
 | _,_,.cons h hs=>.cons (DH.dv h) (DHs.dv hs)
end
def tyD:PyData→String
 | .none => "NoneType"
 | .bool _ => "bool"
 | .int _ => "int"
 | .str _ => "str"
 | .tuple _ => "tuple"
 | _ => "list"
def isIntD:PyData→Bool
 | .int _=>true
 | _=>false
def isBoolD:PyData→Bool
 | .bool _=>true
 | _=>false
def isLstD:PyData→Bool
 | .list _=>true
 | _=>false
def isTupD:PyData→Bool
 | .tuple _=>true
 | _=>false
def isStrD:PyData→Bool
 | .str _=>true
 | _=>false
section
open PySem.W
end
def tOrK(K:PySem.W.Frag)(ta tb:TE):TE:=fun σ H Q=>ta σ H fun x H1=>∃k,ZjU K x H1 k∧if k=true then Q x H1 else tb σ H1 Q
end L2
namespace L2
open PySem PySem.Spec PyProof.Rows
def off(p:Addr)(H:Hp):Hp:=fun b=>if b=p then none else H b
section
variable {prog:Program} {w:World} {A:Around} {R:Result→Shared→Prop} {I:Addr} {fp wr:List Addr} {G:Array GenState→Array GenState→Prop} {n:Nat} {P:Nat→Value→Prop} {St:Nat→Shared→Prop} {K:Type} [DecidableEq K] {knd:KeyKind prog w K}
end
def rDPop:V→List V→Hp→VK→Prop:=fun x vs H Q=>∃a kvs k v,x=.ref a∧vs=[kV k]∧H a=some (.dK kvs)∧Zdd kvs k=some v∧Q v (upd H a (.dK (ZeI kvs k)))
def rDUpd(K:PySem.W.Frag):V→List V→Hp→VK→Prop:=fun x vs H Q=>∃ (D a:Addr) (kvs:List (Key×V)) (ts:List (Addr×Key×V)),x=.ref D∧vs=[.ref a]∧H D=some (.dK kvs)∧H a=some (.lst (ts.map fun t=>V.ref t.1))∧(∀t∈ts,H t.1=some (.tup [kV t.2.1,t.2.2]))∧ts.length≤1000∧kvs.length≤100000 ∧
 Q .non (upd H D (.dK (Zeh kvs (ts.map (·.2)))))
def pairsAt(ts:List (Addr×Key×V))(l:Addr)(H:Hp):Hp:=fun b=>if b=l then some (.lst (ts.map fun t=>V.ref t.1)) else
 match ts.find? fun t=>decide (t.1=b) with
 | some t=>some (.tup [kV t.2.1,t.2.2])
 | none=>H b
def tLstItems(to:TE):TE:=fun σ H Q=>to σ H fun x H1=>∃d kvs,x=.ref d∧H1 d=some (.dK kvs) ∧
 ∀ (l:Addr) (ts:List (Addr×Key×V)) (H2:Hp),H1 l=none→ts.map (·.2)=kvs→(∀t∈ts,H1 t.1=none∧H2 t.1=some (.tup [kV t.2.1,t.2.2]))→(∀b o,H1 b=some o→H2 b=some o)→H2 l=some (.lst (ts.map fun t=>V.ref t.1))→Q (.ref l) H2
end L2
namespace L2
open PySem PySem.Spec PyProof.Rows
section
variable {prog:Program} {w:World} {A:Around} {E:Value→Shared→Prop} {s:Shared} {l:Addr} {xs:Array (Int×Tok)}
end
def rMinQ(K:PySem.W.Frag):List V→Hp→VK→Prop:=fun vs H Q=>∃ (p:Addr) (ns:List Int),vs=[.ref p]∧SqT K H p (ns.map V.int)∧0<ns.length∧∀M,M∈ns→(∀a∈ns,M≤a)→Q (.int M) H
section
variable {X:Cx}
end
section
variable {X:Cx}
end
def tThawS(t:TS):TS:=fun D σ H=>∃d u,H d=some u∧Mut (some u)∧t ⟨fun σ' H'=>∃o,H' d=some (.frz o u)∧D.nx σ' (upd H' d u),fun _ _=>False,fun _ _=>False,fun _ _=>False⟩ σ H
def tCut(t u:TS):TS:=fun D σ H=>∃M:St→Hp→Prop,t { D with nx:=M } σ H∧∀σ' H',M σ' H'→u D σ' H'
section
variable {prog:Program} {w:World} {A:Around} {E:Value→Shared→Prop} {s:Shared} {K:Type} [DecidableEq K] {knd:KeyKind prog w K}
end
def rDictC:List V→Hp→VK→Prop:=fun xs H Q=>∃ (a:Addr) (kvs:List (Key×V)),xs=[.ref a]∧H a=some (.dK kvs)∧∀D,H D=none→Q (.ref D) (upd H D (.dK kvs))
section
variable {prog:Program} {w:World} {A:Around} {E:Value→Shared→Prop} {s:Shared} {K:Type} [DecidableEq K] {knd:HeapKind prog w K}
end
def rDictT:List V→Hp→VK→Prop:=fun xs H Q=>∃ (a:Addr) (kvs:List (List Key×V)),xs=[.ref a]∧H a=some (.dT kvs)∧(∀ (P:Program) (w:World),∀x∈kvs.map (·.1),∀y∈kvs.map (·.1),(tupleKind (Zbw P w)).hash x=(tupleKind (Zbw P w)).hash y→x=y)∧∀D,H D=none→Q (.ref D) (upd H D (.dT kvs))
def pairH(a b:Nat):Int:=reduceHash (Builtin.Tuple.tupleHashOf [hashInt (a:Int),hashInt (b:Int)])
def Zjo:List (Nat×Nat):=(List.range 36).flatMap fun b=>(List.range b).map fun a=>(a,b)
def apart:List Int→Bool
 | []=>true
 | x::r=>r.all (fun y=>x != y)&&apart r
structure CompScC (N N':List Str) (o c:Scope):Prop where
 kind:c.kind=.function
 okind:o.kind=.function
 cel:∀y∈c.names,y.2=.cell→c.names.lookup y.1=some .cell
 loc:∀y∈c.names,y.2=.local→c.names.lookup y.1=some .local
 free:∀y∈c.names,y.2=.free→c.names.lookup y.1=some .free∧(o.names.lookup y.1=some .cell∨o.names.lookup y.1=some .free)
 len:N.length≤N'.length
 same:∀i∈List.range N.length,∀x∈N'[i]?,c.names.lookup x=some .local∨c.names.lookup x=some .free∨c.names.lookup x=some .cell→c.names.lookup x=some .free∧N[i]? = some x
 nd:N'.Nodup
def ZjL(X:Cx)(c:Scope)(C:Addr):List (Str×Addr):=cellsFrom (C+1) c.names (ZJ X.env.cells c.names [])
def compCxC(X:Cx)(c:Scope)(N':List Str)(C:Addr)(s:Shared)(H:Hp)(fp:List Addr):Cx :=
 { X with N:=N',s₀:=s,H₀:=H,env:=compEnvC c (ZjL X c C) C X.env,outer:=X.stack,stack:=X.stack,ex:=fp,fn:=fun x=>c.names.lookup x == some .cell,pn:=[],xe:=fun _ _=>False }
section
variable {X:Cx} {N N':List Str} {o c:Scope}
variable {x:Str} {pos:Pos} {C:Addr} {s:Shared} {H:Hp} {fp:List Addr}
end
section
variable {prog:Program} {w:World} {A:Around} {E:Value→Shared→Prop} {s:Shared}
end
def rTupR:List V→Hp→VK→Prop:=fun xs H Q=>∃ (p:Addr) (lo hi:Int),xs=[.ref p]∧H p=some (.rng lo hi) ∧ -(2 ^ 62)≤lo∧lo<2 ^ 62 ∧ -(2 ^ 62)≤hi∧hi<2 ^ 62∧(hi-lo).toNat≤1000 ∧
 ∀l,H l=none→Q (.ref l) (upd H l (.tup ((Zck lo (hi-lo).toNat).map V.int)))
section
variable {prog:Program} {w:World} {A:Around} {R:Result→Shared→Prop} {I:Addr} {fp wr:List Addr} {G:Array GenState→Array GenState→Prop} {n:Nat} {P:Nat→Value→Prop} {St:Nat→Shared→Prop}
variable {K:Type} [DecidableEq K] {knd:KeyKind prog w K}
end
section
variable {prog:Program} {w:World} {A:Around} {E:Value→Shared→Prop} {s:Shared} {K:Type} [DecidableEq K] {knd:KeyKind prog w K}
end
def rDictU(K:PySem.W.Frag):List V→Hp→VK→Prop:=fun xs H Q=>∃ (a:Addr) (ts:List (Addr×Addr×List Key×V)),xs=[.ref a]∧SqL K H a (ts.map fun t=>V.ref t.1)∧(∀t∈ts,H t.1=some (.tup [.ref t.2.1,t.2.2.2])∧H t.2.1=some (.tup (t.2.2.1.map kV)))∧ts.length≤1000∧(ts.map (·.2.2.1)).Nodup ∧
 ∀D,H D=none→Q (.ref D) (upd H D (.dT (ts.map (·.2.2))))
def gallop':Bool→Keyed→Array Keyed→Nat→Nat→Nat→StateT SortSt Sem (Option Nat):=sortPriv% PySem.Builtin.gallop
def Has(κ:PyProof.Rows.KeyKind)(p:Keyed):Prop:=∃a,κ.keyOf p.1=some a
def kyd(κ:PyProof.Rows.KeyKind)(p:Keyed):κ.α:=(κ.keyOf p.1).getD κ.dflt
theorem Zf4{κ:PyProof.Rows.KeyKind}{xs:Array Keyed}{i:Nat}{p:Keyed}(h:xs[i]? = some p):KK κ xs i=kyd κ p:=by unfold KK kyd;rw[h]
def ZgY(left:Bool)(key:Keyed)(arr:Array Keyed)(base i:Nat):StateT SortSt Sem (Option Bool) :=
 elem' arr (base+i) >>= fun x=>if left=true then lt' x key else lt' key x >>= fun r=>pure (r.map (!·))
def gB(κ:PyProof.Rows.KeyKind)(left:Bool)(key p:Keyed):Bool:=if left then κ.blt (kyd κ p) (kyd κ key) else !κ.blt (kyd κ key) (kyd κ p)
section
variable {prog:Program} {w:World} {A:Around} {E:Value→Shared→Prop} {s:Shared} {κ:PyProof.Rows.KeyKind} {k0:SortKind} {a₀:Array Keyed} {st:SortSt}
theorem w_ltp(hL:Zbs prog w A s k0 κ)(hK:kindOf st=k0){p q:Keyed}(hp:Has κ p)(hq:Has κ q){Q:Option Bool→SortSt→Prop}(h:Q (some (κ.blt (kyd κ p) (kyd κ q))) st):wpS (model prog w) A E s (lt' p q) Q st:=by
 obtain⟨a,ha⟩:=hp
 obtain⟨b,hb⟩:=hq
 rw[lt'_eq]
 refine wpS_bind (wpS_get (wpS_bind (wpS_lift (wpAny_attempt ?_))))
 rw[hK]
 unfold kyd at h
 rw[ha,hb]at h
 exact hL _ p.1 q.1 _ _ _ ha hb ⟨rfl,wpS_pure h⟩
theorem w_ask(hL:Zbs prog w A s k0 κ)(hK:kindOf st=k0){left:Bool}{key p:Keyed}{arr:Array Keyed}{base i:Nat}(hkey:Has κ key)(hp:arr[base+i]? = some p)(hq:Has κ p){Q:Option Bool→SortSt→Prop}(q:Q (some (gB κ left key p)) st) :
  wpS (model prog w) A E s (ZgY left key arr base i) Q st:=by
 unfold ZgY
 refine wpS_bind (w_elem hp ?_)
 cases left with
 | true=>rw[if_pos rfl];exact w_ltp hL hK hq hkey q
 | false=>rw[if_neg (by decide)];exact wpS_bind (w_ltp hL hK hkey hq (wpS_pure q))
theorem w_gallop(hL:Zbs prog w A s k0 κ)(hK:kindOf st=k0){left:Bool}{key:Keyed}{arr:Array Keyed}{base n hint:Nat}(hh:hint<n)(hkey:Has κ key){B:Nat→Bool}
  (hB:∀i,i<n→∃p,arr[base+i]? = some p∧Has κ p∧B i=gB κ left key p) (mono:∀i j,i≤j→j<n→B j=true→B i=true)
  {Q:Option Nat→SortSt→Prop} (q:∀h,h≤n→(∀i,i<h→B i=true)→(∀i,h≤i→i<n→B i=false)→Q (some h) st):wpS (model prog w) A E s (gallop' left key arr base n hint) Q st:=by
 have ask:∀ (i:Nat) (Q:Option Bool→SortSt→Prop),i<n→Q (some (B i)) st→wpS (model prog w) A E s (ZgY left key arr base i) Q st:=fun i Q hi h=>by
  obtain⟨p,a,b,c⟩:=hB i hi
  rw[c]at h
  exact w_ask hL hK hkey a b h
 have no:∀i j,i≤j→j<n→B i=false→B j=false:=fun i j h1 h2 h=>by
  cases hb:B j with
  | true=>rw[mono i j h1 h2 hb]at h;cases h
  | false=>rfl
 show wpS _ _ _ _ (ZgY left key arr base hint >>= _) _ _
 refine wpS_bind (ask hint _ hh ?_)
 cases hb:B hint with
 | true =>
  show wpS _ _ _ _ (forIn [:n] (none,0,1) _ >>= _) _ _
  refine wpS_bind (wpS_mono (wpS_forRange (fun i c st'=>∃l o,c=(none,l,o)∧st'=st∧l<o∧l<n-hint∧i+1≤o∧B (hint+l)=true) (Q:=fun c st'=>∃l o,c=(none,l,o)∧st'=st∧l<o∧l<n-hint∧B (hint+l)=true∧(n-hint≤o∨B (hint+o)=false)) ?_ ?_ ⟨0,1,rfl,rfl,by omega,by omega,by omega,hb⟩) ?_)
  ·rintro i c st' _ hi ⟨l,o,rfl,rfl,b1,b2,b3,b4⟩
   show wpS _ _ _ _ (if o≥n-hint then _ else _) _ _
   by_cases e:o≥n-hint
   ·rw[if_pos e]
    exact wpS_pure ⟨l,o,rfl,rfl,b1,b2,b4,.inl e⟩
   ·rw[if_neg e]
    refine wpS_bind (ask _ _ (show hint+o<n by omega) ?_)
    cases hb2:B (hint+o) with
    | true=>exact wpS_pure ⟨o,2*o+1,rfl,rfl,by omega,by omega,by omega,hb2⟩
    | false=>exact wpS_pure ⟨l,o,rfl,rfl,b1,b2,b4,.inr hb2⟩
  ·rintro c st' ⟨l,o,rfl,rfl,b1,b2,b3,b4⟩
   exact⟨l,o,rfl,rfl,b1,b2,b4,.inl (by omega)⟩
  ·rintro c s1 ⟨l,o,rfl,rfl,a1,a2,a3,a4⟩
   have c3:∀i,i<(hint+l+1)→B i=true:=fun i hi=>mono i (hint+l) (by omega) (by omega) a3
   have c4:∀i,(hint+min o (n-hint))≤i→i<n→B i=false:=fun i h1 h2=>a4.elim (fun a4=>by omega) fun a4=>no (hint+o) i (by omega) h2 a4
   show wpS _ _ _ _ (forIn [:n] (none,(hint+l+1),(hint+min o (n-hint))) _ >>= _) _ _
   refine wpS_bind (wpS_forRange (fun i c st'=>∃l h,c=(none,l,h)∧st'=s1∧l≤h∧h≤n∧h-l≤n-i∧(∀i,i<l→B i=true)∧(∀i,h≤i→i<n→B i=false)) ?_ ?_ ⟨_,_,rfl,rfl,by omega,by omega,by omega,c3,c4⟩)
   ·rintro i c st' _ hi ⟨l,h,rfl,rfl,b1,b2,b3,b4,b5⟩
    show wpS _ _ _ _ (if l≥h then _ else _) _ _
    by_cases e:l≥h
    ·rw[if_pos e]
     exact wpS_pure (wpS_pure (q h b2 (fun i hi=>b4 i (by omega)) b5))
    ·rw[if_neg e]
     refine wpS_bind (ask _ _ (show l+(h-l) / 2<n by omega) ?_)
     cases hb:B (l+(h-l) / 2) with
     | true=>exact wpS_pure ⟨l+(h-l) / 2+1,h,rfl,rfl,by omega,b2,by omega,fun i hi=>mono i (l+(h-l) / 2) (by omega) (by omega) hb,b5⟩
     | false=>exact wpS_pure ⟨l,l+(h-l) / 2,rfl,rfl,by omega,by omega,by omega,b4,fun i h1 h2=>no _ i h1 h2 hb⟩
   ·rintro c st' ⟨l,h,rfl,rfl,b1,b2,b3,b4,b5⟩
    exact wpS_pure (q h b2 (fun i hi=>b4 i (by omega)) b5)
 | false =>
  show wpS _ _ _ _ (forIn [:n] (none,0,1) _ >>= _) _ _
  refine wpS_bind (wpS_mono (wpS_forRange (fun i c st'=>∃l o,c=(none,l,o)∧st'=st∧l<o∧l<hint+1∧i+1≤o∧B (hint-l)=false) (Q:=fun c st'=>∃l o,c=(none,l,o)∧st'=st∧l<o∧l<hint+1∧B (hint-l)=false∧(hint+1≤o∨B (hint-o)=true)) ?_ ?_ ⟨0,1,rfl,rfl,by omega,by omega,by omega,hb⟩) ?_)
  ·rintro i c st' _ hi ⟨l,o,rfl,rfl,b1,b2,b3,b4⟩
   show wpS _ _ _ _ (if o≥hint+1 then _ else _) _ _
   by_cases e:o≥hint+1
   ·rw[if_pos e]
    exact wpS_pure ⟨l,o,rfl,rfl,b1,b2,b4,.inl e⟩
   ·rw[if_neg e]
    refine wpS_bind (ask _ _ (show hint-o<n by omega) ?_)
    cases hb2:B (hint-o) with
    | false=>exact wpS_pure ⟨o,2*o+1,rfl,rfl,by omega,by omega,by omega,hb2⟩
    | true=>exact wpS_pure ⟨l,o,rfl,rfl,b1,b2,b4,.inr hb2⟩
  ·rintro c st' ⟨l,o,rfl,rfl,b1,b2,b3,b4⟩
   exact⟨l,o,rfl,rfl,b1,b2,b4,.inl (by omega)⟩
  ·rintro c s1 ⟨l,o,rfl,rfl,a1,a2,a3,a4⟩
   have c3:∀i,i<(hint+1-min o (hint+1))→B i=true:=fun i hi=>a4.elim (fun a4=>by omega) fun a4=>mono i (hint-o) (by omega) (by omega) a4
   have c4:∀i,(hint-l)≤i→i<n→B i=false:=fun i h1 h2=>no (hint-l) i h1 h2 a3
   show wpS _ _ _ _ (forIn [:n] (none,(hint+1-min o (hint+1)),(hint-l)) _ >>= _) _ _
   refine wpS_bind (wpS_forRange (fun i c st'=>∃l h,c=(none,l,h)∧st'=s1∧l≤h∧h≤n∧h-l≤n-i∧(∀i,i<l→B i=true)∧(∀i,h≤i→i<n→B i=false)) ?_ ?_ ⟨_,_,rfl,rfl,by omega,by omega,by omega,c3,c4⟩)
   ·rintro i c st' _ hi ⟨l,h,rfl,rfl,b1,b2,b3,b4,b5⟩
    show wpS _ _ _ _ (if l≥h then _ else _) _ _
    by_cases e:l≥h
    ·rw[if_pos e]
     exact wpS_pure (wpS_pure (q h b2 (fun i hi=>b4 i (by omega)) b5))
    ·rw[if_neg e]
     refine wpS_bind (ask _ _ (show l+(h-l) / 2<n by omega) ?_)
     cases hb:B (l+(h-l) / 2) with
     | true=>exact wpS_pure ⟨l+(h-l) / 2+1,h,rfl,rfl,by omega,b2,by omega,fun i hi=>mono i (l+(h-l) / 2) (by omega) (by omega) hb,b5⟩
     | false=>exact wpS_pure ⟨l,l+(h-l) / 2,rfl,rfl,by omega,by omega,by omega,b4,fun i h1 h2=>no _ i h1 h2 hb⟩
   ·rintro c st' ⟨l,h,rfl,rfl,b1,b2,b3,b4,b5⟩
    exact wpS_pure (q h b2 (fun i hi=>b4 i (by omega)) b5)
end
section
variable {κ:PyProof.Rows.KeyKind}
def kS(κ:PyProof.Rows.KeyKind)(l:List Keyed):Prop:=l.Pairwise fun p q=>κ.kle (kyd κ p) (kyd κ q)
def kLe(κ:PyProof.Rows.KeyKind)(l m:List Keyed):Prop:=∀x∈l,∀y∈m,κ.kle (kyd κ x) (kyd κ y)
theorem Zay{l m:List Keyed}(a:kS κ l)(b:kS κ m)(c:kLe κ l m):kS κ (l++m):=QZ.mpr ⟨a,b,c⟩
theorem Zbx{l l' m:List Keyed}(a:kLe κ l m)(b:kLe κ l' m):kLe κ (l++l') m:=fun x hx y hy=>(Qn.mp hx).elim (fun h=>a x h y hy) fun h=>b x h y hy
theorem ZdL{l m m':List Keyed}(a:kLe κ l m)(b:kLe κ l m'):kLe κ l (m++m'):=fun x hx y hy=>(Qn.mp hy).elim (fun h=>a x hx y h) fun h=>b x hx y h
structure Mg (κ:PyProof.Rows.KeyKind) (all out l m:List Keyed):Prop where
 perm:(out++(l++m)).Perm all
 so:kS κ out
 sl:kS κ l
 sm:kS κ m
 ol:kLe κ out l
 om:kLe κ out m
theorem Mg.swap{all out l m:List Keyed}(M:Mg κ all out l m):Mg κ all out m l:=⟨(List.Perm.append_left _ List.perm_append_comm).trans M.perm,M.so,M.sm,M.sl,M.om,M.ol⟩
theorem Mg.put{all out x l m:List Keyed}(M:Mg κ all out (x++l) m)(h:kLe κ x m):Mg κ all (out++x) l m:=by
 have p:=QZ.mp M.sl
 refine⟨?_,Zay M.so p.1 fun a ha b hb=>M.ol a ha b (QJ _ hb),p.2.1,M.sm,Zbx (fun a ha b hb=>M.ol a ha b (Qe _ hb)) p.2.2,Zbx M.om h⟩
 have:=M.perm
 simpa [List.append_assoc] using this
theorem Mg.fin{all out l m:List Keyed}(M:Mg κ all out l m)(h:kLe κ l m):(out++l++m).Perm all∧kS κ (out++l++m) :=
 ⟨by rw[QI];exact M.perm,Zay (Zay M.so M.sl M.ol) M.sm (Zbx M.om h)⟩
structure Mh (κ:PyProof.Rows.KeyKind) (all l m out:List Keyed):Prop where
 perm:((l++m)++out).Perm all
 so:kS κ out
 sl:kS κ l
 sm:kS κ m
 lo:kLe κ l out
 mo:kLe κ m out
theorem Mh.swap{all out l m:List Keyed}(M:Mh κ all l m out):Mh κ all m l out:=⟨(Qaz _ List.perm_append_comm).trans M.perm,M.so,M.sm,M.sl,M.mo,M.lo⟩
theorem Mh.put{all out x l m:List Keyed}(M:Mh κ all m (l++x) out)(h:kLe κ m x):Mh κ all m l (x++out):=by
 have p:=QZ.mp M.sm
 refine⟨?_,Zay p.2.1 M.so fun a ha b hb=>M.mo a (Qe _ ha) b hb,M.sl,p.1,ZdL h M.lo,ZdL p.2.2 fun a ha b hb=>M.mo a (QJ _ ha) b hb⟩
 have:=M.perm
 simpa [List.append_assoc] using this
theorem Mh.fin{all out l m:List Keyed}(M:Mh κ all l m out)(h:kLe κ l m):(l++m++out).Perm all∧kS κ (l++m++out) :=
 ⟨M.perm,Zay (Zay M.sl M.sm h) M.so (Zbx M.lo M.mo)⟩
theorem Zz{a:Array Keyed}{i:Nat}(h:i<a.size):a[i]? = some a[i]:=Array.getElem?_eq_getElem h
theorem Zx{a:Array Keyed}{i:Nat}(h:i<a.size):KK κ a i=kyd κ a[i]:=Zf4 (Zz h)
theorem ZaC{a:Array Keyed}{i:Nat}{y:Keyed}(h:y∈a.toList.drop i):∃j,i≤j∧j<a.size∧kyd κ y=KK κ a j:=by
 obtain⟨j,hj,e⟩:=QY.mp h
 rw[QS,Qs]at hj
 refine⟨i+j,by omega,by omega,?_⟩
 rw[Zx (by omega),← e,Qai,QF]
theorem ZcP{a:Array Keyed}{i k:Nat}{y:Keyed}(h:y∈(a.toList.drop i).take k):∃j,i≤j∧j<i+k∧j<a.size∧kyd κ y=KK κ a j:=by
 obtain⟨j,hj,e⟩:=QY.mp h
 rw[QB,QS,Qs]at hj
 refine⟨i+j,by omega,by omega,by omega,?_⟩
 rw[Zx (by omega),← e,Qaj,Qai,QF]
theorem Zao(a:Array Keyed)(i j:Nat):(a.extract i j).toList=(a.toList.drop i).take (j-i):=by
 rw[Array.toList_extract,List.extract_eq_take_drop]
theorem ZbX(a:Array Keyed)(i:Nat):(a.extract i a.size).toList=a.toList.drop i:=by
 rw[Zao,QG (by rw[QS,Qs];exact Ql _)]
theorem Zc1(a:Array Keyed)(j:Nat):(a.extract 0 j).toList=a.toList.take j:=by rw[Zao,List.drop_zero,Nat.sub_zero]
theorem Zca{a:Array Keyed}(h:kS κ a.toList):SortedToK κ a a.size:=fun i j hij hj=>by
 rw[Zx (by omega),Zx hj]
 by_cases e:i=j
 ·subst e;exact KeyOrd.kle_refl _
 ·have:=Qap.mp h i j (by rw[Qs];omega) (by rw[Qs];omega) (by omega)
  simpa using this
theorem ZdG{a:Array Keyed}{i:Nat}(h:i<a.size):a.toList.drop i=[a[i]]++a.toList.drop (i+1):=by
 rw[List.drop_eq_getElem_cons (by rw[Qs];exact h),QF];rfl
theorem Zdn{a:Array Keyed}{i:Nat}(h:i<a.size):a.toList.take (i+1)=a.toList.take i++[a[i]]:=by
 rw[List.take_succ_eq_append_getElem (by rw[Qs];exact h),QF]
theorem ZeO{a:Array Keyed}{i:Nat}(h:a.size≤i):a.toList.drop i=[]:=List.drop_eq_nil_of_le (by rw[Qs];exact h)
theorem ZaG{a:Array Keyed}{i:Nat}{y:Keyed}(h:y∈a.toList.take i):∃j,j<i∧j<a.size∧kyd κ y=KK κ a j:=by
 obtain⟨j,hj,e⟩:=QY.mp h
 rw[QB,Qs]at hj
 refine⟨j,by omega,by omega,?_⟩
 rw[Zx (by omega),← e,Qaj,QF]
structure Zbu (κ:PyProof.Rows.KeyKind) (a b:Array Keyed):Prop where
 ha:∀p∈a.toList,Has κ p
 hb:∀p∈b.toList,Has κ p
 sa:kS κ a.toList
 sb:kS κ b.toList
 a0:0<a.size
 b0:0<b.size
 fst:∀i,i<a.size→κ.kle (KK κ b 0) (KK κ a i)
 lst:∀i,i<b.size→κ.kle (KK κ b i) (KK κ a (a.size-1))
theorem Zbu.hasA{a b:Array Keyed}(L:Zbu κ a b){i:Nat}(h:i<a.size):Has κ a[i]:=L.ha _ (by rw[← QF];exact QX _)
theorem Zbu.hasB{a b:Array Keyed}(L:Zbu κ a b){i:Nat}(h:i<b.size):Has κ b[i]:=L.hb _ (by rw[← QF];exact QX _)
def Zbf(κ:PyProof.Rows.KeyKind)(a b r:Array Keyed):Prop:=r.toList.Perm (a.toList++b.toList)∧kS κ r.toList
def Lo(κ:PyProof.Rows.KeyKind)(a b out:Array Keyed)(ia ib:Nat):Prop:=Mg κ (a.toList++b.toList) out.toList (a.toList.drop ia) (b.toList.drop ib)
variable {a b out:Array Keyed} {ia ib:Nat}
theorem Lo.takeA(M:Lo κ a b out ia ib)(k:Nat)(h:∀i j,ia≤i→i<ia+k→i<a.size→ib≤j→j<b.size→κ.kle (KK κ a i) (KK κ b j)):Lo κ a b (out++a.extract ia (ia+k)) (ia+k) ib:=by
 unfold Lo at M ⊢
 rw[← QN k (a.toList.drop ia),List.drop_drop]at M
 have:=M.put fun x hx y hy=>by
  obtain⟨i,i1,i2,i3,e⟩:=ZcP (κ:=κ) hx
  obtain⟨j,j1,j2,f⟩:=ZaC (κ:=κ) hy
  rw[e,f]
  exact h i j i1 i2 i3 j1 j2
 rw[Qz,Zao,show ia+k-ia=k by omega]
 exact this
theorem Lo.takeB(M:Lo κ a b out ia ib)(k:Nat)(h:∀i j,ib≤i→i<ib+k→i<b.size→ia≤j→j<a.size→κ.kle (KK κ b i) (KK κ a j)):Lo κ a b (out++b.extract ib (ib+k)) ia (ib+k):=by
 unfold Lo at M ⊢
 rw[← QN k (b.toList.drop ib),List.drop_drop]at M
 have:=(M.swap.put fun x hx y hy=>by
  obtain⟨i,i1,i2,i3,e⟩:=ZcP (κ:=κ) hx
  obtain⟨j,j1,j2,f⟩:=ZaC (κ:=κ) hy
  rw[e,f]
  exact h i j i1 i2 i3 j1 j2).swap
 rw[Qz,Zao,show ib+k-ib=k by omega]
 exact this
theorem Lo.pushA(M:Lo κ a b out ia ib)(hi:ia<a.size)(h:∀j,ib≤j→j<b.size→κ.kle (KK κ a ia) (KK κ b j)):Lo κ a b (out.push a[ia]) (ia+1) ib:=by
 unfold Lo at M ⊢
 rw[ZdG hi]at M
 rw[Q9]
 exact M.put fun x hx y hy=>by
  obtain⟨j,j1,j2,f⟩:=ZaC (κ:=κ) hy
  rw[Qf.mp hx,f,← Zx hi]
  exact h j j1 j2
theorem Lo.pushB(M:Lo κ a b out ia ib)(hi:ib<b.size)(h:∀j,ia≤j→j<a.size→κ.kle (KK κ b ib) (KK κ a j)):Lo κ a b (out.push b[ib]) ia (ib+1):=by
 unfold Lo at M ⊢
 rw[ZdG hi]at M
 rw[Q9]
 exact(M.swap.put fun x hx y hy=>by
  obtain⟨j,j1,j2,f⟩:=ZaC (κ:=κ) hy
  rw[Qf.mp hx,f,← Zx hi]
  exact h j j1 j2).swap
theorem Lo.done(M:Lo κ a b out ia ib)(h:a.size≤ia∨b.size≤ib):Zbf κ a b (out++a.extract ia a.size++b.extract ib b.size):=by
 unfold Lo at M
 have e:(out++a.extract ia a.size++b.extract ib b.size).toList=out.toList++a.toList.drop ia++b.toList.drop ib:=by rw[Qz,Qz,ZbX,ZbX]
 unfold Zbf
 rw[e]
 refine M.fin fun x hx y hy=>?_
 rcases h with h|h
 ·rw[ZeO h]at hx;cases hx
 ·rw[ZeO h]at hy;cases hy
theorem Lo.last(M:Lo κ a b out ia ib)(L:Zbu κ a b)(h:ia+1=a.size):Zbf κ a b (out++b.extract ib b.size++a.extract ia a.size):=by
 unfold Lo at M
 have e:(out++b.extract ib b.size++a.extract ia a.size).toList=out.toList++b.toList.drop ib++a.toList.drop ia:=by rw[Qz,Qz,ZbX,ZbX]
 unfold Zbf
 rw[e]
 refine M.swap.fin fun x hx y hy=>?_
 obtain⟨i,i1,i2,e1⟩:=ZaC (κ:=κ) hx
 obtain⟨j,j1,j2,e2⟩:=ZaC (κ:=κ) hy
 rw[e1,e2,show j=a.size-1 by omega]
 exact L.lst i i2
def Hi(κ:PyProof.Rows.KeyKind)(a b out:Array Keyed)(na nb:Nat):Prop:=Mh κ (a.toList++b.toList) (a.toList.take na) (b.toList.take nb) out.toList.reverse
variable {na nb:Nat}
theorem Zdr(a:Array Keyed){k n:Nat}(h:k≤n):a.toList.take n=a.toList.take k++(a.extract k n).toList:=by
 rw[Zao,← List.drop_take]
 have:=QN k (List.take n a.toList)
 rw[List.take_take,Nat.min_eq_left h]at this
 exact this.symm
theorem Zdp{a:Array Keyed}{i k:Nat}{y:Keyed}(h:y∈(a.extract i k).toList):∃j,i≤j∧j<k∧j<a.size∧kyd κ y=KK κ a j:=by
 rw[Zao]at h
 obtain⟨j,j1,j2,j3,e⟩:=ZcP (κ:=κ) h
 exact⟨j,j1,by omega,j3,e⟩
theorem Hi.takeB(M:Hi κ a b out na nb)(k:Nat)(hk:k≤nb)(h:∀i j,i<na→i<a.size→k≤j→j<nb→j<b.size→κ.kle (KK κ a i) (KK κ b j)):Hi κ a b (out++(b.extract k nb).reverse) na k:=by
 unfold Hi at M ⊢
 rw[Zdr b hk]at M
 have:=M.put fun x hx y hy=>by
  obtain⟨i,i1,i2,e⟩:=ZaG (κ:=κ) hx
  obtain⟨j,j1,j2,j3,f⟩:=Zdp (κ:=κ) hy
  rw[e,f]
  exact h i j i1 i2 j1 j2 j3
 rw[Qz,Qak,Qaq,List.reverse_reverse]
 exact this
theorem Hi.takeA(M:Hi κ a b out na nb)(k:Nat)(hk:k≤na)(h:∀i j,i<nb→i<b.size→k≤j→j<na→j<a.size→κ.kle (KK κ b i) (KK κ a j)):Hi κ a b (out++(a.extract k na).reverse) k nb:=by
 unfold Hi at M ⊢
 rw[Zdr a hk]at M
 have:=(M.swap.put fun x hx y hy=>by
  obtain⟨i,i1,i2,e⟩:=ZaG (κ:=κ) hx
  obtain⟨j,j1,j2,j3,f⟩:=Zdp (κ:=κ) hy
  rw[e,f]
  exact h i j i1 i2 j1 j2 j3).swap
 rw[Qz,Qak,Qaq,List.reverse_reverse]
 exact this
theorem Hi.pushB(M:Hi κ a b out na (nb+1))(hb:nb<b.size)(h:∀i,i<na→i<a.size→κ.kle (KK κ a i) (KK κ b nb)):Hi κ a b (out.push b[nb]) na nb:=by
 unfold Hi at M ⊢
 rw[Zdn hb]at M
 rw[Q9,Qaq]
 exact M.put fun x hx y hy=>by
  obtain⟨i,i1,i2,e⟩:=ZaG (κ:=κ) hx
  rw[Qf.mp hy,e,← Zx hb]
  exact h i i1 i2
theorem Hi.pushA(M:Hi κ a b out (na+1) nb)(hb:na<a.size)(h:∀i,i<nb→i<b.size→κ.kle (KK κ b i) (KK κ a na)):Hi κ a b (out.push a[na]) na nb:=by
 unfold Hi at M ⊢
 rw[Zdn hb]at M
 rw[Q9,Qaq]
 exact(M.swap.put fun x hx y hy=>by
  obtain⟨i,i1,i2,e⟩:=ZaG (κ:=κ) hx
  rw[Qf.mp hy,e,← Zx hb]
  exact h i i1 i2).swap
theorem Hi.done(M:Hi κ a b out na nb)(h:na=0∨nb=0):Zbf κ a b (a.extract 0 na++b.extract 0 nb++out.reverse):=by
 unfold Hi at M
 have e:(a.extract 0 na++b.extract 0 nb++out.reverse).toList=a.toList.take na++b.toList.take nb++out.toList.reverse:=by rw[Qz,Qz,Zc1,Zc1,Qak]
 unfold Zbf
 rw[e]
 refine M.fin fun x hx y hy=>?_
 rcases h with h|h
 ·rw[h]at hx;cases hx
 ·rw[h]at hy;cases hy
theorem Hi.first(M:Hi κ a b out na nb)(L:Zbu κ a b)(h:nb=1):Zbf κ a b (b.extract 0 nb++a.extract 0 na++out.reverse):=by
 unfold Hi at M
 have e:(b.extract 0 nb++a.extract 0 na++out.reverse).toList=b.toList.take nb++a.toList.take na++out.toList.reverse:=by rw[Qz,Qz,Zc1,Zc1,Qak]
 unfold Zbf
 rw[e]
 refine M.swap.fin fun x hx y hy=>?_
 obtain⟨i,i1,i2,e1⟩:=ZaG (κ:=κ) hx
 obtain⟨j,j1,j2,e2⟩:=ZaG (κ:=κ) hy
 rw[e1,e2,show i=0 by omega]
 exact L.fst j j2
end
def mergeLo':Array Keyed→Array Keyed→StateT SortSt Sem (Array Keyed):=sortPriv% PySem.Builtin.mergeLo
def mergeHi':Array Keyed→Array Keyed→StateT SortSt Sem (Array Keyed):=sortPriv% PySem.Builtin.mergeHi
def Sm(st st':SortSt):Prop:=kindOf st'=kindOf st∧arrOf st'=arrOf st∧pendingOf st'=pendingOf st∧failedOf st'=failedOf st
theorem Sm.rfl{st:SortSt}:Sm st st:=⟨Eq.refl _,Eq.refl _,Eq.refl _,Eq.refl _⟩
theorem Sm.trans{a b c:SortSt}(h:Sm a b)(h':Sm b c):Sm a c:=⟨h'.1.trans h.1,h'.2.1.trans h.2.1,h'.2.2.1.trans h.2.2.1,h'.2.2.2.trans h.2.2.2⟩
section
variable {prog:Program} {w:World} {A:Around} {E:Value→Shared→Prop} {s:Shared} {κ:PyProof.Rows.KeyKind} {k0:SortKind} {st:SortSt} {α β γ:Type}
theorem w_jp{c:Prop}[Decidable c]{x:β}{y:γ}{X Y:β→γ→StateT SortSt Sem α}{Q:α→SortSt→Prop}(P:β→γ→Prop)(H:∀o i,P o i→wpS (model prog w) A E s (Y o i) Q st)
  (hX:(∀o i,P o i→wpS (model prog w) A E s (Y o i) Q st)→c→wpS (model prog w) A E s (X x y) Q st) (hY:¬ c→P x y):∀o,x=o→∀i,y=i→wpS (model prog w) A E s (if c then X o i else Y o i) Q st:=by
 rintro _ rfl _ rfl
 by_cases h:c
 ·rw[if_pos h];exact hX H h
 ·rw[if_neg h];exact H x y (hY h)
theorem w_jp1{X Y:Nat→StateT SortSt Sem α}{Q:α→SortSt→Prop}(e:∀g,X g=Y (g-1))(H:∀g,wpS (model prog w) A E s (Y g) Q st):∀g,wpS (model prog w) A E s (if g>1 then X g else Y g) Q st:=by
 intro g
 by_cases h:g>1
 ·rw[if_pos h,e];exact H _
 ·rw[if_neg h];exact H g
theorem w_mg{m:StateT SortSt Sem PUnit}{g:Nat}(hm:m=modify fun s=>SortSt.mk' (kindOf s) (arrOf s) (pendingOf s) g (failedOf s)){Q:PUnit→SortSt→Prop}(q:∀st',Sm st st'→Q ⟨⟩ st'):wpS (model prog w) A E s m Q st:=by
 rw[hm]
 exact wpS_modify (q _ ⟨rfl,rfl,rfl,rfl⟩)
theorem w_bq{x y:Nat}{X Y:StateT SortSt Sem α}{Q:α→SortSt→Prop}(hX:x=y→wpS (model prog w) A E s X Q st)(hY:x≠y→wpS (model prog w) A E s Y Q st):wpS (model prog w) A E s (if (x == y)=true then X else Y) Q st:=by
 by_cases h:x=y
 ·rw[if_pos (by rw[h];exact beq_self_eq_true _)];exact hX h
 ·rw[if_neg (by intro z;exact h (eq_of_beq z))];exact hY h
theorem w_if{c:Prop}[Decidable c]{X Y:StateT SortSt Sem α}{Q:α→SortSt→Prop}(hX:c→wpS (model prog w) A E s X Q st)(hY:¬ c→wpS (model prog w) A E s Y Q st):wpS (model prog w) A E s (if c then X else Y) Q st:=by
 by_cases h:c
 ·rw[if_pos h];exact hX h
 ·rw[if_neg h];exact hY h
def Zgg(κ:PyProof.Rows.KeyKind)(a b:Array Keyed)(t:Nat)(out:Array Keyed)(ia ib:Nat):Prop:=Lo κ a b out ia ib∧ia+1<a.size∧ib<b.size∧t≤ia+ib
theorem w_lo(hL:Zbs prog w A s k0 κ)(hK:kindOf st=k0){a b:Array Keyed}(L:Zbu κ a b){Q:Array Keyed→SortSt→Prop}(q:∀r st',Zbf κ a b r→Sm st st'→Q r st'):wpS (model prog w) A E s (mergeLo' a b) Q st:=by
 have sA:=Zca L.sa
 have sB:=Zca L.sb
 show wpS _ _ _ _ (liftM (rule _) >>= _) _ _
 refine wpS_bind (wpS_lift (wpAny_rule ⟨rfl,?_⟩))
 refine wpS_bind (w_elem (Zz L.b0) ?_)
 have M0:Lo κ a b #[b[0]'L.b0] 0 1:=by
  have h0:Lo κ a b #[] 0 0:=⟨by simp,List.Pairwise.nil,by simpa using L.sa,by simpa using L.sb,(fun x hx=>by cases hx),(fun x hx=>by cases hx)⟩
  exact h0.pushB L.b0 fun j _ hj=>L.fst j hj
 refine w_bq (fun h=>wpS_pure (q _ _ (M0.done (.inr (by omega))) Sm.rfl)) fun hb=>?_
 refine w_bq (fun h=>wpS_pure (q _ _ (M0.last L h) Sm.rfl)) fun ha=>?_
 have a0:=L.a0
 have b0:=L.b0
 refine wpS_bind (wpS_get ?_)
 refine wpS_bind (wpS_mono (wpS_forRange (fun i c st'=>∃out ia ib g,c=(none,out,ia,ib,g)∧Sm st st'∧Zgg κ a b (i+1) out ia ib) (Q:=fun c st'=>∃r z,c=(some r,z)∧Zbf κ a b r∧Sm st st') ?_ ?_ ⟨_,0,1,_,rfl,Sm.rfl,M0,by omega,by omega,by omega⟩) ?_)
 ·rintro t c st1 _ ht ⟨out,ia,ib,g,rfl,S1,I1⟩
  dsimp only
  show wpS _ _ _ _ (forIn [:a.size+b.size] (none,out,ia,ib,0,0) _ >>= _) _ _
  refine wpS_bind (wpS_mono (wpS_forRange (fun i c st'=>∃out ia ib x y,c=(none,out,ia,ib,x,y)∧Sm st st'∧Zgg κ a b (t+1+i) out ia ib)
   (Q:=fun c st'=>Sm st st'∧∃out ia ib x y,(∃r,c=(some r,out,ia,ib,x,y)∧Zbf κ a b r)∨(c=(none,out,ia,ib,x,y)∧Zgg κ a b (t+2) out ia ib)) ?_ ?_ ⟨out,ia,ib,0,0,rfl,S1,I1⟩) ?_)
  ·rintro i c st2 _ hi ⟨out,ia,ib,x,y,rfl,S2,M,h1,h2,h3⟩
   dsimp only
   refine wpS_bind (w_elem (Zz h2) (wpS_bind (w_elem (Zz (show ia<a.size by omega)) (wpS_bind (w_ltp hL (S2.1.trans hK) (L.hasB h2) (L.hasA (by omega)) ?_)))))
   rw[← Zx,← Zx]
   cases hb:κ.blt (KK κ b ib) (KK κ a ia) with
   | true =>
    have M':=M.pushB h2 fun j j1 j2=>KeyOrd.kle_trans (KeyOrd.kle_of_klt hb) (sA ia j j1 j2)
    refine wpS_bind (w_elem (Zz h2) ?_)
    refine w_bq (fun h=>wpS_pure ⟨S2,_,_,_,_,_,.inl ⟨_,rfl,M'.done (.inr (by omega))⟩⟩) fun hne=>?_
    refine w_if (fun _=>wpS_pure ⟨S2,_,_,_,_,_,.inr ⟨rfl,M',by omega,by omega,by omega⟩⟩) fun _=>wpS_pure ⟨_,_,_,_,_,rfl,S2,M',by omega,by omega,by omega⟩
   | false =>
    have M':=M.pushA (by omega) fun j j1 j2=>KeyOrd.kle_trans (show κ.kle (KK κ a ia) (KK κ b ib) from hb) (sB ib j j1 j2)
    refine wpS_bind (w_elem (Zz (show ia<a.size by omega)) ?_)
    refine w_bq (fun h=>wpS_pure ⟨S2,_,_,_,_,_,.inl ⟨_,rfl,M'.last L h⟩⟩) fun hne=>?_
    refine w_if (fun _=>wpS_pure ⟨S2,_,_,_,_,_,.inr ⟨rfl,M',by omega,by omega,by omega⟩⟩) fun _=>wpS_pure ⟨_,_,_,_,_,rfl,S2,M',by omega,by omega,by omega⟩
  ·rintro c st2 ⟨out,ia,ib,x,y,rfl,S2,M,h1,h2,h3⟩
   exact⟨S2,_,_,_,_,_,.inr ⟨rfl,M,h1,h2,by omega⟩⟩
  ·rintro c st2 ⟨S2,out,ia,ib,x,y,⟨r,rfl,hr⟩|⟨rfl,I2⟩⟩
   ·exact wpS_pure ⟨r,_,rfl,hr,S2⟩
   dsimp only
   refine wpS_bind (wpS_lift (wpAny_rule ⟨rfl,?_⟩))
   show wpS _ _ _ _ (forIn [:a.size+b.size] (none,out,ia,ib,g+1,x,y) _ >>= _) _ _
   refine wpS_bind (wpS_mono (wpS_forRange (fun i c st'=>∃out ia ib g x y,c=(none,out,ia,ib,g,x,y)∧Sm st st'∧Zgg κ a b (t+2) out ia ib)
    (Q:=fun c st'=>Sm st st'∧∃out ia ib g x y,(∃r,c=(some r,out,ia,ib,g,x,y)∧Zbf κ a b r)∨(c=(none,out,ia,ib,g,x,y)∧Zgg κ a b (t+2) out ia ib)) ?_ ?_ ⟨out,ia,ib,g+1,x,y,rfl,S2,I2⟩) ?_)
   ·rintro i c st3 _ hi ⟨out,ia,ib,g,x,y,rfl,S3,M,h1,h2,h3⟩
    dsimp only
    revert g
    refine w_jp1 (fun _=>rfl) ?_
    rintro g
    refine wpS_bind (w_mg (g:=g) rfl fun st4 S4=>?_)
    have S4':=S3.trans S4
    refine wpS_bind (w_elem (Zz h2) (wpS_bind ?_))
    refine w_gallop hL (S4'.1.trans hK) (B:=fun i=>!κ.blt (KK κ b ib) (KK κ a (ia+i))) (by omega) (L.hasB h2) (fun i hi=>⟨a[ia+i]'(by omega),Zz (by omega),L.hasA (by omega),by rw[Zx h2,Zx (show ia+i<a.size by omega)];rfl⟩) (fun i j hij hj hB=>?_) fun k hk k1 k2=>?_
    ·have z:κ.kle (KK κ a (ia+j)) (KK κ b ib):=by simpa [KeyOrd.kle] using hB
     have:=KeyOrd.kle_trans (sA (ia+i) (ia+j) (by omega) (by omega)) z
     simpa [KeyOrd.kle] using this
    have k1':∀i,ia≤i→i<ia+k→κ.kle (KK κ a i) (KK κ b ib):=fun i i1 i2=>by
     have:=k1 (i-ia) (by omega)
     rw[show ia+(i-ia)=i by omega]at this
     simpa [KeyOrd.kle] using this
    have k2':∀i,ia+k≤i→i<a.size→κ.kle (KK κ b ib) (KK κ a i):=fun i i1 i2=>by
     have:=k2 (i-ia) (by omega) (by omega)
     rw[show ia+(i-ia)=i by omega]at this
     exact KeyOrd.kle_of_klt (show κ.blt _ _=true by simpa using this)
    generalize ho:out=o
    generalize hi:ia=i
    revert i hi
    revert o ho
    refine w_jp (fun out' ia'=>Lo κ a b out' ia' ib∧ia'+1<a.size∧ia≤ia'∧∀i,ia'≤i→i<a.size→κ.kle (KK κ b ib) (KK κ a i)) ?_ ?_ ?_
    ·rintro out' ia' ⟨M1,g1,g0,g2⟩
     show wpS _ _ _ _ (_ >>= _) _ _
     refine wpS_bind (w_elem (Zz h2) ?_)
     have M2:=M1.pushB h2 g2
     refine w_bq (fun h=>wpS_pure ⟨S4',_,_,_,_,_,_,.inl ⟨_,rfl,M2.done (.inr (by omega))⟩⟩) fun hne=>?_
     refine wpS_bind (w_elem (Zz (show ia'<a.size by omega)) (wpS_bind ?_))
     refine w_gallop hL (S4'.1.trans hK) (B:=fun i=>κ.blt (KK κ b (ib+1+i)) (KK κ a ia')) (by omega) (L.hasA (by omega)) (fun i hi=>⟨b[ib+1+i]'(by omega),Zz (by omega),L.hasB (by omega),by rw[Zx (show ia'<a.size by omega),Zx (show ib+1+i<b.size by omega)];rfl⟩) (fun i j hij hj hB=>KeyOrd.klt_of_kle_of_klt (sB _ _ (by omega) (by omega)) hB) fun m hm m1 m2=>?_
     have m2':∀i,ib+1+m≤i→i<b.size→κ.kle (KK κ a ia') (KK κ b i):=fun i i1 i2=>by
      have:=m2 (i-(ib+1)) (by omega) (by omega)
      rw[show ib+1+(i-(ib+1))=i by omega]at this
      exact this
     have e1:ib<ib+1:=Nat.lt_succ_self _
     have e2:ib+1≤b.size:=h2
     generalize ho:out'.push b[ib]=o
     generalize hi:ib+1=i
     revert i hi
     revert o ho
     refine w_jp (fun o2 ib2=>Lo κ a b o2 ia' ib2∧ib2<b.size∧ib+1≤ib2∧∀i,ib2≤i→i<b.size→κ.kle (KK κ a ia') (KK κ b i)) ?_ ?_ ?_
     ·rintro o2 ib2 ⟨M3,n1,n0,n2⟩
      refine wpS_bind (w_elem (Zz (show ia'<a.size by omega)) ?_)
      have M4:=M3.pushA (by omega) n2
      refine w_bq (fun h=>wpS_pure ⟨S4',_,_,_,_,_,_,.inl ⟨_,rfl,M4.last L h⟩⟩) fun hne2=>?_
      exact w_if (fun _=>wpS_pure ⟨S4',_,_,_,_,_,_,.inr ⟨rfl,M4,by omega,by omega,by omega⟩⟩) fun _=>wpS_pure ⟨_,_,_,_,_,_,rfl,S4',M4,by omega,by omega,by omega⟩
     ·intro H hm0
      have M3:=M2.takeB m fun i j l1 l2 l3 j1 j2=>by
       have:=m1 (i-(ib+1)) (by omega)
       rw[show ib+1+(i-(ib+1))=i by omega]at this
       exact KeyOrd.kle_trans (KeyOrd.kle_of_klt this) (sA ia' j j1 j2)
      refine w_bq (fun h=>wpS_pure ⟨S4',_,_,_,_,_,_,.inl ⟨_,rfl,M3.done (.inr (by omega))⟩⟩) fun hne2=>?_
      exact H _ _ ⟨M3,by omega,by omega,fun i j1 j2=>m2' i j1 j2⟩
     ·exact fun hm0=>⟨M2,by omega,Ql _,fun i l1 l2=>m2' i (by omega) l2⟩
    ·intro H hk0
     have M1:=M.takeA k fun i j i1 i2 i3 j1 j2=>KeyOrd.kle_trans (k1' i i1 i2) (sB ib j j1 j2)
     refine w_bq (fun h=>wpS_pure ⟨S4',_,_,_,_,_,_,.inl ⟨_,rfl,M1.last L h⟩⟩) fun hne=>?_
     refine w_bq (fun h=>wpS_pure ⟨S4',_,_,_,_,_,_,.inl ⟨_,rfl,M1.done (.inl (by omega))⟩⟩) fun hne2=>?_
     exact H _ _ ⟨M1,by omega,by omega,fun i j1 j2=>k2' i j1 j2⟩
    ·exact fun hk0=>⟨M,h1,Ql _,fun i i1 i2=>k2' i (by omega) i2⟩
   ·rintro c st3 ⟨out,ia,ib,g,x,y,rfl,S3,I3⟩
    exact⟨S3,_,_,_,_,_,_,.inr ⟨rfl,I3⟩⟩
   ·rintro c st3 ⟨S3,out,ia,ib,g,x,y,⟨r,rfl,hr⟩|⟨rfl,I3⟩⟩
    ·exact wpS_pure ⟨r,_,rfl,hr,S3⟩
    ·dsimp only
     exact wpS_bind (w_mg (g:=g+1) rfl fun st4 S4=>wpS_pure ⟨_,_,_,_,rfl,S3.trans S4,I3⟩)
 ·rintro c st1 ⟨out,ia,ib,g,rfl,S1,M,h1,h2,h3⟩
  omega
 ·rintro c st1 ⟨r,z,rfl,hr,S1⟩
  exact wpS_pure (q r _ hr S1)
end
section
variable {prog:Program} {w:World} {A:Around} {E:Value→Shared→Prop} {s:Shared} {κ:PyProof.Rows.KeyKind} {k0:SortKind} {st:SortSt} {α β γ:Type} {a b out:Array Keyed} {na nb:Nat}
theorem Hi.putA(M:Hi κ a b out na nb)(h0:0<na)(ha:na-1<a.size)(h:∀i,i<nb→i<b.size→κ.kle (KK κ b i) (KK κ a (na-1))):Hi κ a b (out.push a[na-1]) (na-1) nb:=by
 obtain⟨n,rfl⟩:∃n,na=n+1:=⟨na-1,by omega⟩
 exact M.pushA ha h
theorem Hi.putB(M:Hi κ a b out na nb)(h0:0<nb)(hb:nb-1<b.size)(h:∀i,i<na→i<a.size→κ.kle (KK κ a i) (KK κ b (nb-1))):Hi κ a b (out.push b[nb-1]) na (nb-1):=by
 obtain⟨n,rfl⟩:∃n,nb=n+1:=⟨nb-1,by omega⟩
 exact M.pushB hb h
def Zgq(κ:PyProof.Rows.KeyKind)(a b:Array Keyed)(t:Nat)(out:Array Keyed)(na nb:Nat):Prop:=Hi κ a b out na nb∧0<na∧1<nb∧na≤a.size∧nb≤b.size∧na+nb+t≤a.size+b.size
theorem w_hi(hL:Zbs prog w A s k0 κ)(hK:kindOf st=k0)(L:Zbu κ a b){Q:Array Keyed→SortSt→Prop}(q:∀r st',Zbf κ a b r→Sm st st'→Q r st'):wpS (model prog w) A E s (mergeHi' a b) Q st:=by
 have sA:=Zca L.sa
 have sB:=Zca L.sb
 have a0:=L.a0
 have b0:=L.b0
 show wpS _ _ _ _ (liftM (rule _) >>= _) _ _
 refine wpS_bind (wpS_lift (wpAny_rule ⟨rfl,?_⟩))
 refine wpS_bind (w_elem (Zz (show a.size-1<a.size by omega)) ?_)
 have M0:Hi κ a b #[a[a.size-1]] (a.size-1) b.size:=by
  have h0:Hi κ a b #[] a.size b.size:=⟨by simp[List.take_of_length_le],List.Pairwise.nil,by simpa [List.take_of_length_le] using L.sa,by simpa [List.take_of_length_le] using L.sb,(fun x _ y hy=>by cases hy),(fun x _ y hy=>by cases hy)⟩
  exact h0.putA a0 (by omega) fun i _ hi=>L.lst i hi
 refine w_bq (fun h=>wpS_pure (q _ _ (M0.done (.inl h)) Sm.rfl)) fun ha=>?_
 refine w_bq (fun h=>wpS_pure (q _ _ (M0.first L h) Sm.rfl)) fun hb=>?_
 refine wpS_bind (wpS_get ?_)
 refine wpS_bind (wpS_mono (wpS_forRange (fun i c st'=>∃na nb out g,c=(none,na,nb,out,g)∧Sm st st'∧Zgq κ a b (i+1) out na nb) (Q:=fun c st'=>∃r z,c=(some r,z)∧Zbf κ a b r∧Sm st st') ?_ ?_ ⟨_,_,_,_,rfl,Sm.rfl,M0,by omega,by omega,by omega,by omega,by omega⟩) ?_)
 ·rintro t c st1 _ ht ⟨na,nb,out,g,rfl,S1,I1⟩
  dsimp only
  refine wpS_bind (wpS_mono (wpS_forRange (fun i c st'=>∃na nb out x y,c=(none,na,nb,out,x,y)∧Sm st st'∧Zgq κ a b (t+1+i) out na nb)
   (Q:=fun c st'=>Sm st st'∧∃na nb out x y,(∃r,c=(some r,na,nb,out,x,y)∧Zbf κ a b r)∨(c=(none,na,nb,out,x,y)∧Zgq κ a b (t+2) out na nb)) ?_ ?_ ⟨na,nb,out,0,0,rfl,S1,I1⟩) ?_)
  ·rintro i c st2 _ hi ⟨na,nb,out,x,y,rfl,S2,M,h1,h2,h3,h4,h5⟩
   dsimp only
   refine wpS_bind (w_elem (Zz (show nb-1<b.size by omega)) (wpS_bind (w_elem (Zz (show na-1<a.size by omega)) (wpS_bind (w_ltp hL (S2.1.trans hK) (L.hasB (by omega)) (L.hasA (by omega)) ?_)))))
   rw[← Zx,← Zx]
   cases hb:κ.blt (KK κ b (nb-1)) (KK κ a (na-1)) with
   | true =>
    have M':=M.putA h1 (by omega) fun i j1 j2=>KeyOrd.kle_trans (sB i (nb-1) (by omega) (by omega)) (KeyOrd.kle_of_klt hb)
    refine wpS_bind (w_elem (Zz (show na-1<a.size by omega)) ?_)
    refine w_bq (fun h=>wpS_pure ⟨S2,_,_,_,_,_,.inl ⟨_,rfl,M'.done (.inl h)⟩⟩) fun hne=>?_
    exact w_if (fun _=>wpS_pure ⟨S2,_,_,_,_,_,.inr ⟨rfl,M',by omega,by omega,by omega,by omega,by omega⟩⟩) fun _=>wpS_pure ⟨_,_,_,_,_,rfl,S2,M',by omega,by omega,by omega,by omega,by omega⟩
   | false =>
    have M':=M.putB (by omega) (by omega) fun i j1 j2=>KeyOrd.kle_trans (sA i (na-1) (by omega) (by omega)) (show κ.kle (KK κ a (na-1)) (KK κ b (nb-1)) from hb)
    refine wpS_bind (w_elem (Zz (show nb-1<b.size by omega)) ?_)
    refine w_bq (fun h=>wpS_pure ⟨S2,_,_,_,_,_,.inl ⟨_,rfl,M'.first L h⟩⟩) fun hne=>?_
    exact w_if (fun _=>wpS_pure ⟨S2,_,_,_,_,_,.inr ⟨rfl,M',by omega,by omega,by omega,by omega,by omega⟩⟩) fun _=>wpS_pure ⟨_,_,_,_,_,rfl,S2,M',by omega,by omega,by omega,by omega,by omega⟩
  ·rintro c st2 ⟨na,nb,out,x,y,rfl,S2,M,h1,h2,h3,h4,h5⟩
   exact⟨S2,_,_,_,_,_,.inr ⟨rfl,M,h1,h2,h3,h4,by omega⟩⟩
  ·rintro c st2 ⟨S2,na,nb,out,x,y,⟨r,rfl,hr⟩|⟨rfl,I2⟩⟩
   ·exact wpS_pure ⟨r,_,rfl,hr,S2⟩
   dsimp only
   refine wpS_bind (wpS_lift (wpAny_rule ⟨rfl,?_⟩))
   refine wpS_bind (wpS_mono (wpS_forRange (fun i c st'=>∃na nb out g x y,c=(none,na,nb,out,g,x,y)∧Sm st st'∧Zgq κ a b (t+2) out na nb)
    (Q:=fun c st'=>Sm st st'∧∃na nb out g x y,(∃r,c=(some r,na,nb,out,g,x,y)∧Zbf κ a b r)∨(c=(none,na,nb,out,g,x,y)∧Zgq κ a b (t+2) out na nb)) ?_ ?_ ⟨na,nb,out,g+1,x,y,rfl,S2,I2⟩) ?_)
   ·rintro i c st3 _ hi ⟨na,nb,out,g,x,y,rfl,S3,M,h1,h2,h3,h4,h5⟩
    dsimp only
    revert g
    refine w_jp1 (fun _=>rfl) ?_
    rintro g
    refine wpS_bind (w_mg (g:=g) rfl fun st4 S4=>?_)
    have S4':=S3.trans S4
    have hb1:nb-1<b.size:=by omega
    refine wpS_bind (w_elem (Zz hb1) (wpS_bind ?_))
    refine w_gallop hL (S4'.1.trans hK) (B:=fun i=>!κ.blt (KK κ b (nb-1)) (KK κ a (0+i))) (by omega) (L.hasB hb1) (fun i hi=>⟨a[0+i]'(by omega),Zz (by omega),L.hasA (by omega),by rw[Zx hb1,Zx (show 0+i<a.size by omega)];rfl⟩) (fun i j hij hj hB=>?_) fun f hf k1 k2=>?_
    ·have z:κ.kle (KK κ a (0+j)) (KK κ b (nb-1)):=by simpa [KeyOrd.kle] using hB
     have:=KeyOrd.kle_trans (sA (0+i) (0+j) (by omega) (by omega)) z
     simpa [KeyOrd.kle] using this
    have k1':∀i,i<f→κ.kle (KK κ a i) (KK κ b (nb-1)):=fun i i1=>by
     have:=k1 i i1
     rw[Nat.zero_add]at this
     simpa [KeyOrd.kle] using this
    have k2':∀i,f≤i→i<na→κ.klt (KK κ b (nb-1)) (KK κ a i):=fun i i1 i2=>by
     have:=k2 i i1 i2
     rw[Nat.zero_add]at this
     exact(show κ.blt _ _=true by simpa using this)
    dsimp only
    generalize hk:na-f=k
    generalize ho:na=o
    generalize hi:out=i
    revert i hi
    revert o ho
    refine w_jp (fun na' out'=>Hi κ a b out' na' nb∧0<na'∧na'≤na∧∀i,i<na'→κ.kle (KK κ a i) (KK κ b (nb-1))) ?_ ?_ ?_
    ·rintro na' out' ⟨M1,g1,g0,g2⟩
     refine wpS_bind (w_elem (Zz hb1) ?_)
     have M2:=M1.putB (by omega) hb1 fun i i1 _=>g2 i i1
     refine w_bq (fun h=>wpS_pure ⟨S4',_,_,_,_,_,_,.inl ⟨_,rfl,M2.first L h⟩⟩) fun hne=>?_
     have ha1:na'-1<a.size:=by omega
     refine wpS_bind (w_elem (Zz ha1) (wpS_bind ?_))
     refine w_gallop hL (S4'.1.trans hK) (B:=fun i=>κ.blt (KK κ b (0+i)) (KK κ a (na'-1))) (by omega) (L.hasA ha1) (fun i hi=>⟨b[0+i]'(by omega),Zz (by omega),L.hasB (by omega),by rw[Zx ha1,Zx (show 0+i<b.size by omega)];rfl⟩) (fun i j hij hj hB=>KeyOrd.klt_of_kle_of_klt (sB _ _ (by omega) (by omega)) hB) fun m hm m1 m2=>?_
     have m1':∀i,i<m→κ.kle (KK κ b i) (KK κ a (na'-1)):=fun i i1=>by
      have:=m1 i i1
      rw[Nat.zero_add]at this
      exact KeyOrd.kle_of_klt this
     have m2':∀i,m≤i→i<nb-1→κ.kle (KK κ a (na'-1)) (KK κ b i):=fun i i1 i2=>by
      have:=m2 i i1 i2
      rw[Nat.zero_add]at this
      exact this
     dsimp only
     generalize hk2:nb-1-m=k2
     generalize hi:out'.push b[nb-1]=i
     generalize ho:nb-1=o
     revert i hi
     revert o ho
     refine w_jp (fun nb2 o2=>Hi κ a b o2 na' nb2∧1<nb2∧nb2≤nb-1∧∀i,i<nb2→κ.kle (KK κ b i) (KK κ a (na'-1))) ?_ ?_ ?_
     ·rintro nb2 o2 ⟨M3,n1,n0,n2⟩
      refine wpS_bind (w_elem (Zz ha1) ?_)
      have M4:=M3.putA g1 ha1 fun i i1 _=>n2 i i1
      refine w_bq (fun h=>wpS_pure ⟨S4',_,_,_,_,_,_,.inl ⟨_,rfl,M4.done (.inl h)⟩⟩) fun hne2=>?_
      exact w_if (fun _=>wpS_pure ⟨S4',_,_,_,_,_,_,.inr ⟨rfl,M4,by omega,by omega,by omega,by omega,by omega⟩⟩) fun _=>wpS_pure ⟨_,_,_,_,_,_,rfl,S4',M4,by omega,by omega,by omega,by omega,by omega⟩
     ·intro H hm0
      have M3:=M2.takeB m hm fun i j i1 i2 j1 j2 j3=>KeyOrd.kle_trans (sA i (na'-1) (by omega) (by omega)) (m2' j j1 j2)
      refine w_bq (fun h=>wpS_pure ⟨S4',_,_,_,_,_,_,.inl ⟨_,rfl,M3.first L h⟩⟩) fun hne2=>?_
      refine w_bq (fun h=>wpS_pure ⟨S4',_,_,_,_,_,_,.inl ⟨_,rfl,M3.done (.inr h)⟩⟩) fun hne3=>?_
      exact H _ _ ⟨M3,by omega,hm,m1'⟩
     ·exact fun hm0=>⟨M2,by omega,Ql _,fun i l1=>m1' i (by omega)⟩
    ·intro H hk0
     have M1:=M.takeA f hf fun i j i1 i2 j1 j2 j3=>KeyOrd.kle_trans (sB i (nb-1) (by omega) (by omega)) (KeyOrd.kle_of_klt (k2' j j1 j2))
     refine w_bq (fun h=>wpS_pure ⟨S4',_,_,_,_,_,_,.inl ⟨_,rfl,M1.done (.inl h)⟩⟩) fun hne=>?_
     exact H _ _ ⟨M1,by omega,hf,k1'⟩
    ·exact fun hk0=>⟨M,h1,Ql _,fun i i1=>k1' i (by omega)⟩
   ·rintro c st3 ⟨na,nb,out,g,x,y,rfl,S3,I3⟩
    exact⟨S3,_,_,_,_,_,_,.inr ⟨rfl,I3⟩⟩
   ·rintro c st3 ⟨S3,na,nb,out,g,x,y,⟨r,rfl,hr⟩|⟨rfl,I3⟩⟩
    ·exact wpS_pure ⟨r,_,rfl,hr,S3⟩
    ·dsimp only
     exact wpS_bind (w_mg (g:=g+1) rfl fun st4 S4=>wpS_pure ⟨_,_,_,_,rfl,S3.trans S4,I3⟩)
 ·rintro c st1 ⟨na,nb,out,g,rfl,S1,M,h1,h2,h3,h4,h5⟩
  omega
 ·rintro c st1 ⟨r,z,rfl,hr,S1⟩
  exact wpS_pure (q r _ hr S1)
end
def ZbC:Nat→List (List Keyed)→List (Nat×Nat)
 | _,[]=>[]
 | o,r::rs=>(o,r.length)::ZbC (o+r.length) rs
theorem Zby:∀ (o:Nat) (l m:List (List Keyed)),ZbC o (l++m)=ZbC o l++ZbC (o+l.flatten.length) m
 | o,[],m=>by simp[ZbC]
 | o,r::l,m=>by simp[ZbC,Zby (o+r.length) l m,Nat.add_assoc]
theorem Zb2:∀ (o:Nat) (l:List (List Keyed)),(ZbC o l).length=l.length
 | _,[]=>rfl
 | o,r::l=>by simp[ZbC,Zb2 (o+r.length) l]
def Zax(p:Nat×Nat×Nat):Nat×Nat:=(p.1,p.2.1)
section
variable {prog:Program} {w:World} {A:Around} {E:Value→Shared→Prop} {s:Shared} {κ:PyProof.Rows.KeyKind} {k0:SortKind} {st:SortSt} {a₀:Array Keyed}
structure Rn (κ:PyProof.Rows.KeyKind) (k0:SortKind) (a₀:Array Keyed) (st:SortSt) (rs:List (List Keyed)) (rest:List Keyed):Prop where
 kind:kindOf st=k0
 failed:failedOf st=none
 arr:(arrOf st).toList=rs.flatten++rest
 perm:(arrOf st).Perm a₀
 srt:∀r∈rs,kS κ r
 ne:∀r∈rs,r≠[]
 pend:(pendingOf st).toList.map Zax=ZbC 0 rs
theorem ZdQ{sa:Nat}{R:List Keyed}:∀ (r S L:List Keyed) (n:Nat) (xs:Array Keyed),xs.toList=L++S++R→L.length=sa+n→S.length=r.length→((r.zipIdx n).foldl (fun a x=>a.setIfInBounds (sa+x.2) x.1) xs).toList=L++r++R
 | [],S,L,n,xs,h,_,h2=>by
  have:S=[]:=QC h2
  subst this
  simpa using h
 | p::r,[],L,n,xs,h,_,h2=>by cases h2
 | p::r,q::S,L,n,xs,h,h1,h2=>by
  rw[List.zipIdx_cons,List.foldl_cons]
  have e:(xs.setIfInBounds (sa+n) p).toList=(L++[p])++S++R:=by
   rw[Array.toList_setIfInBounds,h,← h1]
   simp
  have:=ZdQ (sa:=sa) (R:=R) r S (L++[p]) (n+1) _ e (by simp;omega) (by simpa using h2)
  simpa using this
theorem Zdc{xs:Array Keyed}{L x R:List Keyed}(h:xs.toList=L++x++R){i:Nat}(hi:i<x.length):xs[L.length+i]? = some x[i]:=by
 rw[← QH,h,QI,QV (by omega),Nat.add_sub_cancel_left,Qao hi,Qa hi]
theorem ZgV{left:Bool}{key p q:Keyed}(h:κ.kle (kyd κ p) (kyd κ q))(hq:gB κ left key q=true):gB κ left key p=true:=by
 unfold gB at *
 cases left with
 | true=>exact KeyOrd.klt_of_kle_of_klt h (show κ.klt _ _ from hq)
 | false =>
  have z:κ.kle (kyd κ q) (kyd κ key):=by simpa [KeyOrd.kle] using hq
  simpa [KeyOrd.kle] using KeyOrd.kle_trans h z
theorem w_galL(hL:Zbs prog w A s k0 κ)(hK:kindOf st=k0){left:Bool}{key:Keyed}{xs:Array Keyed}{L x R:List Keyed}{base n hint:Nat}(e:xs.toList=L++x++R)(hb:base=L.length)(hn:n=x.length)(hh:hint<n)(hkey:Has κ key)(hx:∀p∈x,Has κ p)(sx:kS κ x)
  {Q:Option Nat→SortSt→Prop} (q:∀h,h≤n→(∀p∈x.take h,gB κ left key p=true)→(∀p∈x.drop h,gB κ left key p=false)→Q (some h) st):wpS (model prog w) A E s (gallop' left key xs base n hint) Q st:=by
 subst hb hn
 refine w_gallop hL hK (B:=fun i=>if h:i<x.length then gB κ left key x[i] else false) hh hkey (fun i hi=>⟨x[i],Zdc e hi,hx _ (QX hi),by rw[dif_pos hi]⟩) (fun i j hij hj hB=>?_) fun h hh k1 k2=>q h hh (fun p hp=>?_) fun p hp=>?_
 ·rw[dif_pos hj]at hB
  rw[dif_pos (by omega)]
  by_cases eq:i=j
  ·subst eq;exact hB
  ·exact ZgV (Qap.mp sx i j (by omega) hj (by omega)) hB
 ·obtain⟨i,hi,rfl⟩:=QY.mp hp
  rw[QB]at hi
  have:=k1 i (by omega)
  rw[dif_pos (by omega)]at this
  rw[Qaj]
  exact this
 ·obtain⟨i,hi,rfl⟩:=QY.mp hp
  rw[QS]at hi
  have:=k2 (h+i) (by omega) (by omega)
  rw[dif_pos (by omega)]at this
  rw[Qai]
  exact this
theorem ZiV(a:List Keyed)(k:Nat)(b c:List Keyed):a++b++c=a++b.take k++b.drop k++c:=by rw[QI a (b.take k),QN]
theorem Zj0(a:List Keyed)(k:Nat)(b c:List Keyed):a++b++c=a++b.take k++(b.drop k++c):=by rw[← QI,← ZiV]
theorem Zjh(k f:Nat)(b c:List Keyed):b.take k++(b.drop k++c.take f)++c.drop f=b++c:=by rw[← QI,QN,QI,QN]
theorem Zj6(a:List Keyed)(k f:Nat)(b c d:List Keyed):a++b++(c++d)=(a++b.take k)++(b.drop k++c.take f)++(c.drop f++d):=by
 have:=Zjh k f b c
 simp only[List.append_assoc]at this ⊢
 rw[← QI b,← this]
 simp only[List.append_assoc]
theorem ZeG{xs:Array Keyed}{L v R:List Keyed}{i j:Nat}(h:xs.toList=L++v++R)(hi:i=L.length)(hj:j=L.length+v.length):(xs.extract i j).toList=v:=by
 subst hi hj
 rw[Zao,h,QI,List.drop_left,Nat.add_sub_cancel_left,List.take_left]
theorem Zdg{x y:List Keyed}(h:kS κ x)(s:y.Sublist x):kS κ y:=List.Pairwise.sublist s h
theorem ZgO{key p:Keyed}(h:gB κ false key p=true):κ.kle (kyd κ p) (kyd κ key):=by unfold gB at h;simpa [KeyOrd.kle] using h
theorem gB_f'{key p:Keyed}(h:gB κ false key p=false):κ.kle (kyd κ key) (kyd κ p):=by unfold gB at h;exact KeyOrd.kle_of_klt (show κ.blt _ _=true by simpa using h)
theorem ZiA{key p:Keyed}(h:gB κ true key p=true):κ.kle (kyd κ p) (kyd κ key):=KeyOrd.kle_of_klt (show κ.blt _ _=true from h)
theorem gB_t'{key p:Keyed}(h:gB κ true key p=false):κ.kle (kyd κ key) (kyd κ p):=h
theorem ZfV{p:Keyed}{x:List Keyed}(h:kS κ (p::x)):∀q∈p::x,κ.kle (kyd κ p) (kyd κ q):=fun q hq=>(Qt.mp hq).elim (fun e=>by rw[e];exact KeyOrd.kle_refl _) fun hq=>(Qae.mp h).1 q hq
theorem Zhw{p:Keyed}{x:List Keyed}(h:kS κ (x++[p])):∀q∈x++[p],κ.kle (kyd κ q) (kyd κ p):=fun q hq=>(Qn.mp hq).elim (fun hq=>(QZ.mp h).2.2 q hq p (List.mem_singleton.mpr rfl)) fun e=>by rw[Qf.mp e];exact KeyOrd.kle_refl _
theorem Rn.has{rs:List (List Keyed)}{rest:List Keyed}(R:Rn κ k0 a₀ st rs rest)(hk:PyProof.Rows.KeysOf κ a₀){p:Keyed}(h:p∈(arrOf st).toList):Has κ p:=hk p ((Array.perm_iff_toList_perm.mp R.perm).mem_iff.mp h)
theorem Rn.up{l:List (List Keyed)}{x y:List Keyed}{m:List (List Keyed)}{rest:List Keyed}(R:Rn κ k0 a₀ st (l++x::y::m) rest){st':SortSt}{z:List Keyed}(hk:kindOf st'=k0)(hf:failedOf st'=none)(ha:(arrOf st').toList=l.flatten++z++(m.flatten++rest))(hz:z.Perm (x++y))(sz:kS κ z)
  (hp:(pendingOf st').toList.map Zax=ZbC 0 (l++z::m)):Rn κ k0 a₀ st' (l++z::m) rest:=by
 refine⟨hk,hf,by rw[ha];simp,?_,?_,?_,hp⟩
 ·refine Array.Perm.trans ?_ R.perm
  rw[Array.perm_iff_toList_perm,ha,R.arr]
  have:(l.flatten++z++(m.flatten++rest)).Perm (l.flatten++(x++y)++(m.flatten++rest)):=Qaz _ (List.Perm.append_left _ hz)
  simpa [List.append_assoc] using this
 ·intro r hr
  rcases Qn.mp hr with h|h
  ·exact R.srt r (QJ _ h)
  ·rcases Qt.mp h with rfl|h
   ·exact sz
   ·exact R.srt r (Qe _ (Qg _ (Qg _ h)))
 ·intro r hr
  rcases Qn.mp hr with h|h
  ·exact R.ne r (QJ _ h)
  ·rcases Qt.mp h with rfl|h
   ·intro e
    rw[e]at hz
    have e2:=hz.nil_eq
    exact R.ne x (Qe _ (Qq ..)) (List.append_eq_nil_iff.mp e2.symm).1
   ·exact R.ne r (Qe _ (Qg _ (Qg _ h)))
theorem w_at(hL:Zbs prog w A s k0 κ)(hk:PyProof.Rows.KeysOf κ a₀){l:List (List Keyed)}{x y:List Keyed}{m:List (List Keyed)}{rest:List Keyed}(R:Rn κ k0 a₀ st (l++x::y::m) rest){Q:Bool→SortSt→Prop}
  (q:∀st' z,Rn κ k0 a₀ st' (l++z::m) rest→z.length=x.length+y.length→Q true st'):wpS (model prog w) A E s (mergeAt' l.length) Q st:=by
 have hx:x≠[]:=R.ne x (Qe _ (Qq ..))
 have hy:y≠[]:=R.ne y (Qe _ (Qg _ (Qq ..)))
 have sx:kS κ x:=R.srt x (Qe _ (Qq ..))
 have sy:kS κ y:=R.srt y (Qe _ (Qg _ (Qq ..)))
 have arr:(arrOf st).toList=l.flatten++x++(y++(m.flatten++rest)):=by rw[R.arr];simp
 have arr2:(arrOf st).toList=(l.flatten++x)++y++(m.flatten++rest):=by rw[R.arr];simp
 have hasx:∀p∈x,Has κ p:=fun p hp=>R.has hk (by rw[arr];exact QJ _ (Qe _ hp))
 have hasy:∀p∈y,Has κ p:=fun p hp=>R.has hk (by rw[arr2];exact QJ _ (Qe _ hp))
 have K1:∀P g,kindOf (SortSt.mk' (kindOf st) (arrOf st) P g (failedOf st))=k0:=fun _ _=>R.kind
 have hp:=R.pend
 rw[Zby]at hp
 obtain⟨Pl,P2,eP,h1,h2⟩:=List.map_eq_append_iff.mp hp
 obtain⟨p1,P3,rfl,h3,h4⟩:=List.map_eq_cons_iff.mp h2
 obtain⟨p2,Pm,rfl,h5,h6⟩:=List.map_eq_cons_iff.mp h4
 have lP:Pl.length=l.length:=by have:=congrArg List.length h1;rw[Qb,Zb2]at this;exact this
 obtain⟨sa,na,pw⟩:=p1
 obtain⟨sb,nb,pw2⟩:=p2
 have esa:sa=l.flatten.length:=by have:=congrArg Prod.fst h3;simpa [Zax] using this
 have ena:na=x.length:=by have:=congrArg Prod.snd h3;simpa [Zax] using this
 have esb:sb=l.flatten.length+x.length:=by have:=congrArg Prod.fst h5;simpa [Zax] using this
 have enb:nb=y.length:=by have:=congrArg Prod.snd h5;simpa [Zax] using this
 have g1:(pendingOf st)[l.length]? = some (sa,na,pw):=by rw[← QH,eP,← lP];simp
 have g2:(pendingOf st)[l.length+1]? = some (sb,nb,pw2):=by
  rw[← QH,eP,← lP,QV (by omega),show Pl.length+1-Pl.length=1 by omega];rfl
 have npend:∀z:List Keyed,z.length=x.length+y.length→(((pendingOf st).setIfInBounds l.length (sa,na+nb,pw)).eraseIdxIfInBounds (l.length+1)).toList.map Zax=ZbC 0 (l++z::m):=fun z hz=>by
  have e:(((pendingOf st).setIfInBounds l.length (sa,na+nb,pw)).eraseIdxIfInBounds (l.length+1)).toList=Pl++(sa,na+nb,pw)::Pm:=by
   rw[Array.toList_eraseIdxIfInBounds,Array.toList_setIfInBounds,eP,← lP]
   simp[List.eraseIdx_append_of_length_le]
  rw[e,Zby,Qh,h1,Qv,h6]
  simp only[ZbC,Zax,hz,esa,ena,enb,Nat.zero_add,Nat.add_assoc]
 obtain⟨y0,yt,rfl⟩:∃y0 yt,y=y0::yt:=by cases y with|nil=>exact absurd rfl hy|cons a b=>exact⟨a,b,rfl⟩
 obtain⟨xt,xl,rfl⟩:∃xt xl,x=xt++[xl]:=⟨x.dropLast,x.getLast hx,(List.dropLast_concat_getLast hx).symm⟩
 show wpS _ _ _ _ (get >>= _) _ _
 refine wpS_bind (wpS_get ?_)
 simp only[g1,g2]
 refine wpS_bind ?_
 show wpS _ _ _ _ (modify fun _=>SortSt.mk' (kindOf st) (arrOf st) (((pendingOf st).setIfInBounds l.length (sa,na+nb,pw)).eraseIdxIfInBounds (l.length+1)) (gallopOf st) (failedOf st)) _ _
 refine wpS_modify ?_
 refine wpS_bind (w_elem (p:=y0) ?_ ?_)
 ·have:=Zdc arr2 (i:=0) (by simp)
  rw[esb]
  simpa using this
 refine wpS_bind ?_
 refine w_galL hL (K1 _ _) (left:=false) (hint:=0) (L:=l.flatten) (x:=xt++[xl]) (R:=y0::yt++(m.flatten++rest)) (by rw[arr]) esa ena (by rw[ena];simp) (hasy y0 (Qq ..)) hasx sx fun k hk1 k1 k2=>?_
 dsimp only
 refine w_bq (fun h=>wpS_pure ?_) fun hk2=>?_
 ·refine q _ ((xt++[xl])++(y0::yt)) (R.up R.kind R.failed (by show (arrOf st).toList=_;rw[arr];simp) (QaA _) (Zay sx sy fun p hp r hr=>?_) (npend _ (Qd ..))) (Qd ..)
  exact KeyOrd.kle_trans (ZgO (k1 p (by rw[QG (by omega)];exact hp))) (ZfV sy r hr)
 refine wpS_bind (w_elem (p:=xl) ?_ ?_)
 ·have:=Zdc arr (i:=xt.length) (by simp)
  simp only[List.getElem_concat_length]at this
  rw[← this]
  congr 1
  simp at ena
  omega
 refine wpS_bind ?_
 refine w_galL hL (K1 _ _) (left:=true) (hint:=nb-1) (L:=l.flatten++(xt++[xl])) (x:=y0::yt) (R:=m.flatten++rest) (by rw[arr2]) (by rw[esb];simp) enb (by rw[enb];simp) (hasx xl (Qe _ (List.mem_singleton.mpr rfl))) hasy sy fun f hf f1 f2=>?_
 dsimp only
 refine w_bq (fun h=>wpS_pure ?_) fun hf2=>?_
 ·refine q _ ((xt++[xl])++(y0::yt)) (R.up R.kind R.failed (by show (arrOf st).toList=_;rw[arr];simp) (QaA _) (Zay sx sy fun p hp r hr=>?_) (npend _ (Qd ..))) (Qd ..)
  subst h
  exact KeyOrd.kle_trans (Zhw sx p hp) (gB_t' (f2 r hr))
 have hk3:k≤xt.length:=by simp at ena;omega
 have hf3:f≤(y0::yt).length:=by omega
 have eX:((arrOf st).extract (sa+k) sb).toList=(xt++[xl]).drop k:=ZeG (L:=l.flatten++(xt++[xl]).take k) (R:=y0::yt++(m.flatten++rest)) (by rw[arr];exact ZiV _ k _ _) (by rw[esa,Qd,QB];simp;omega) (by rw[esb];simp;omega)
 have eY:((arrOf st).extract sb (sb+f)).toList=(y0::yt).take f:=ZeG (L:=l.flatten++(xt++[xl])) (R:=(y0::yt).drop f++(m.flatten++rest)) (by rw[arr2];exact Zj0 _ f _ _) (by rw[esb];simp) (by rw[esb,QB];simp at hf3 ⊢;omega)
 have memX:∀i,i<((arrOf st).extract (sa+k) sb).size→∃p∈(xt++[xl]).drop k,KK κ ((arrOf st).extract (sa+k) sb) i=kyd κ p:=fun i hi=>⟨_,by rw[← eX];exact Qat hi,Zx hi⟩
 have memY:∀i,i<((arrOf st).extract sb (sb+f)).size→∃p∈(y0::yt).take f,KK κ ((arrOf st).extract sb (sb+f)) i=kyd κ p:=fun i hi=>⟨_,by rw[← eY];exact Qat hi,Zx hi⟩
 have LP:Zbu κ ((arrOf st).extract (sa+k) sb) ((arrOf st).extract sb (sb+f)):=by
  have szX:((arrOf st).extract (sa+k) sb).size=(xt++[xl]).length-k:=by rw[← Qs,eX,QS]
  have szY:((arrOf st).extract sb (sb+f)).size=f:=by rw[← Qs,eY,QB];omega
  refine⟨by rw[eX];exact fun p hp=>hasx p (List.mem_of_mem_drop hp),by rw[eY];exact fun p hp=>hasy p (List.mem_of_mem_take hp),by rw[eX];exact Zdg sx (List.drop_sublist _ _),by rw[eY];exact Zdg sy (List.take_sublist _ _),by rw[szX];simp;omega,by rw[szY];omega,fun i hi=>?_,fun i hi=>?_⟩
  ·obtain⟨p,hp,e⟩:=memX i hi
   rw[e,Zf4 (show ((arrOf st).extract sb (sb+f))[0]? = some y0 by rw[← QH,eY,List.getElem?_take_of_lt (by omega)];rfl)]
   exact gB_f' (k2 p hp)
  ·obtain⟨p,hp,e⟩:=memY i hi
   rw[e,szX,Zf4 (show ((arrOf st).extract (sa+k) sb)[(xt++[xl]).length-k-1]? = some xl by rw[← QH,eX,List.drop_append_of_le_length hk3,QV (by rw[QS,Qd];simp;omega),QS,Qd,show xt.length+[xl].length-k-1-(xt.length-k)=0 by simp;omega];rfl)]
   exact ZiA (f1 p hp)
 refine w_if (fun h=>wpS_bind (w_lo hL (K1 _ _) LP fun r st2 hr S2=>?_)) fun h=>wpS_bind (w_hi hL (K1 _ _) LP fun r st2 hr S2=>?_)
 all_goals
  refine wpS_bind (wpS_modify ?_)
  refine wpS_bind (wpS_get ?_)
  have eF:failedOf st2=none:=S2.2.2.2.trans R.failed
  show wpS _ _ _ _ (pure (failedOf st2).isNone) _ _
  rw[eF]
  obtain⟨hr1,hr2⟩:=hr
  rw[eX,eY]at hr1
  have lr:r.toList.length=((xt++[xl]).drop k++(y0::yt).take f).length:=hr1.length_eq
  have pz:((xt++[xl]).take k++r.toList++(y0::yt).drop f).Perm ((xt++[xl])++(y0::yt)):=by
   have p1:=Qaz ((y0::yt).drop f) (List.Perm.append_left ((xt++[xl]).take k) hr1)
   rw[Zjh]at p1
   exact p1
  refine wpS_pure (q _ ((xt++[xl]).take k++r.toList++(y0::yt).drop f) (R.up (S2.1.trans R.kind) eF ?_ pz ?_ ?_) (by rw[pz.length_eq,Qd]))
  ·have pb:=ZdQ (sa:=sa+k) (R:=(y0::yt).drop f++(m.flatten++rest)) r.toList ((xt++[xl]).drop k++(y0::yt).take f) (l.flatten++(xt++[xl]).take k) 0 (arrOf st2) (by
    rw[S2.2.1]
    show (arrOf st).toList=_
    rw[arr]
    exact Zj6 _ k f _ _ _) (by rw[esa,Qd,QB];simp;omega) lr.symm
   refine Eq.trans pb ?_
   simp
  ·refine Zay (Zay (Zdg sx (List.take_sublist _ _)) hr2 fun p hp z hz=>?_) (Zdg sy (List.drop_sublist _ _)) (Zbx (fun p hp z hz=>?_) fun p hp z hz=>?_)
   ·rcases Qn.mp (hr1.mem_iff.mp hz) with hz|hz
    ·exact KeyOrd.kle_trans (ZgO (k1 p hp)) (gB_f' (k2 z hz))
    ·exact KeyOrd.kle_trans (ZgO (k1 p hp)) (ZfV sy z (List.mem_of_mem_take hz))
   ·exact KeyOrd.kle_trans (ZgO (k1 p hp)) (ZfV sy z (List.mem_of_mem_drop hz))
   ·rcases Qn.mp (hr1.mem_iff.mp hp) with hp|hp
    ·exact KeyOrd.kle_trans (Zhw sx p (List.mem_of_mem_drop hp)) (gB_t' (f2 z hz))
    ·exact KeyOrd.kle_trans (ZiA (f1 p hp)) (gB_t' (f2 z hz))
  ·show (pendingOf st2).toList.map Zax=_
   rw[S2.2.2.1]
   exact npend _ (by rw[pz.length_eq,Qd])
end
section
variable {prog:Program} {w:World} {A:Around} {E:Value→Shared→Prop} {s:Shared} {κ:PyProof.Rows.KeyKind} {k0:SortKind} {st st0:SortSt} {a₀:Array Keyed} {α:Type} {lo:Nat}
theorem w_jp0{c:Prop}[Decidable c]{X J:StateT SortSt Sem α}{Q:α→SortSt→Prop}(P:SortSt→Prop)(H:∀st',P st'→wpS (model prog w) A E s J Q st')(hX:(∀st',P st'→wpS (model prog w) A E s J Q st')→c→wpS (model prog w) A E s X Q st)(hY:¬ c→P st):wpS (model prog w) A E s (if c then X else J) Q st:=by
 by_cases h:c
 ·rw[if_pos h];exact hX H h
 ·rw[if_neg h];exact H st (hY h)
structure Ph (k0:SortKind) (a₀:Array Keyed) (lo:Nat) (st0 st:SortSt):Prop where
 kind:kindOf st=k0
 failed:failedOf st=none
 pend:pendingOf st=pendingOf st0
 perm:(arrOf st).Perm a₀
 pre:∀k,k<lo→(arrOf st)[k]? = (arrOf st0)[k]?
def SgK(κ:PyProof.Rows.KeyKind)(xs:Array Keyed)(lo n:Nat):Prop:=∀i j,lo≤i→i≤j→j<lo+n→κ.kle (KK κ xs i) (KK κ xs j)
def NiK(κ:PyProof.Rows.KeyKind)(xs:Array Keyed)(lo n:Nat):Prop:=∀i j,lo≤i→i≤j→j<lo+n→κ.kle (KK κ xs j) (KK κ xs i)
theorem Ph.size(B:Ph k0 a₀ lo st0 st):(arrOf st).size=a₀.size:=B.perm.size_eq
theorem Ph.rev(B:Ph k0 a₀ lo st0 st){i j:Nat}(hi:lo≤i)(hj:j≤a₀.size):Ph k0 a₀ lo st0 (setArr st (mirror (arrOf st) i j ((j-i) / 2))) :=
 ⟨B.kind,B.failed,B.pend,(mirror_perm _ _ _ _).trans B.perm,fun k hk=>by
  show (mirror (arrOf st) i j ((j-i) / 2))[k]? = _
  rw[getElem?_mirror_all (by rw[B.size];exact hj),if_neg (by omega)]
  exact B.pre k hk⟩
theorem Ph.dn(B:Ph k0 a₀ lo st0 st){src d:Nat}(hs:src<a₀.size)(hd:d≤src)(hi:lo≤src-d):Ph k0 a₀ lo st0 (setArr st (bubble (arrOf st) src d)) :=
 ⟨B.kind,B.failed,B.pend,(bubble_perm _ _ _).trans B.perm,fun k hk=>by
  show (bubble (arrOf st) src d)[k]? = _
  rw[getElem?_bubble (by rw[B.size];exact hs) d hd,if_neg (by omega),if_neg (by omega)]
  exact B.pre k hk⟩
theorem w_ltA(hL:Zbs prog w A s k0 κ)(hk:PyProof.Rows.KeysOf κ a₀)(B:Ph k0 a₀ lo st0 st){i j:Nat}(hi:i<a₀.size)(hj:j<a₀.size){Q:Option Bool→SortSt→Prop}(q:Q (some (κ.blt (KK κ (arrOf st) i) (KK κ (arrOf st) j))) st):wpS (model prog w) A E s (ltAt' i j) Q st:=by
 have hi':i<(arrOf st).size:=by rw[B.size];exact hi
 have hj':j<(arrOf st).size:=by rw[B.size];exact hj
 have has:∀n (h:n<(arrOf st).size),Has κ (arrOf st)[n]:=fun n h=>hk _ ((Array.perm_iff_toList_perm.mp B.perm).mem_iff.mp (Qat h))
 rw[ltAt'_eq]
 refine wpS_bind (wpS_get ?_)
 refine wpS_bind (w_elem (Zz hi') (wpS_bind (w_elem (Zz hj') ?_)))
 refine w_ltp hL B.kind (has i hi') (has j hj') ?_
 rw[← Zx hi',← Zx hj']
 exact q
theorem SgK.succ{xs:Array Keyed}{i:Nat}(h0:1≤i)(S:SgK κ xs lo i)(h:κ.kle (KK κ xs (lo+i-1)) (KK κ xs (lo+i))):SgK κ xs lo (i+1):=by
 intro a b ha hab hb
 by_cases e:b<lo+i
 ·exact S a b ha hab e
 ·have eb:b=lo+i:=by omega
  subst eb
  by_cases ea:a=lo+i
  ·subst ea;exact KeyOrd.kle_refl _
  ·exact KeyOrd.kle_trans (S a (lo+i-1) ha (by omega) (by omega)) h
theorem NiK.succ{xs:Array Keyed}{i:Nat}(h0:1≤i)(S:NiK κ xs lo i)(h:κ.kle (KK κ xs (lo+i)) (KK κ xs (lo+i-1))):NiK κ xs lo (i+1):=by
 intro a b ha hab hb
 by_cases e:b<lo+i
 ·exact S a b ha hab e
 ·have eb:b=lo+i:=by omega
  subst eb
  by_cases ea:a=lo+i
  ·subst ea;exact KeyOrd.kle_refl _
  ·exact KeyOrd.kle_trans h (S a (lo+i-1) ha (by omega) (by omega))
theorem w_countA(hL:Zbs prog w A s k0 κ)(hk:PyProof.Rows.KeysOf κ a₀){nrem:Nat}(hn:lo+nrem≤a₀.size)(h1:1≤nrem)(B:Ph k0 a₀ lo st0 st){Q:Option Nat→SortSt→Prop}
  (q:∀ (m:Nat) (st':SortSt),Ph k0 a₀ lo st0 st'→1≤m→m≤nrem→SgK κ (arrOf st') lo m→Q (some m) st'):wpS (model prog w) A E s (countRun' lo nrem) Q st:=by
 show wpS _ _ _ _ (forIn [1:nrem] (none,1) _ >>= _) _ _
 refine wpS_bind (wpS_mono (wpS_forRange (fun i c st'=>st'=st∧c=(none,i)∧SgK κ (arrOf st) lo i)
  (Q:=fun c st'=>st'=st∧∃n,c=(none,n)∧1≤n∧n≤nrem∧SgK κ (arrOf st) lo n∧(n=nrem∨κ.klt (KK κ (arrOf st) (lo+n)) (KK κ (arrOf st) (lo+n-1)))) ?_ ?_ ⟨rfl,rfl,fun i j a b c=>by obtain rfl:i=j:=(by omega);exact KeyOrd.kle_refl _⟩) ?_)
 ·rintro i c st' hi hi2 ⟨rfl,rfl,S⟩
  dsimp only
  refine wpS_bind (w_ltA hL hk B (by omega) (by omega) ?_)
  cases hb:κ.blt (KK κ (arrOf st') (lo+i)) (KK κ (arrOf st') (lo+i-1)) with
  | true=>exact wpS_pure ⟨rfl,i,rfl,by omega,by omega,S,.inr hb⟩
  | false=>exact wpS_pure ⟨rfl,rfl,S.succ (by omega) hb⟩
 ·rintro c st' ⟨rfl,rfl,S⟩
  rw[show max 1 nrem=nrem by omega]at S ⊢
  exact⟨rfl,nrem,rfl,by omega,by omega,S,.inl rfl⟩
 rintro c st' ⟨rfl,n,rfl,n1,n2,S,hor⟩
 dsimp only
 refine w_bq (fun _=>wpS_pure (q n _ B n1 n2 S)) fun hne=>?_
 have hlt:=hor.resolve_left hne
 refine w_jp0 (fun st1=>Ph k0 a₀ lo st0 st1∧NiK κ (arrOf st1) lo (n+1)) ?_ ?_ ?_
 ·rintro st1 ⟨B1,N1⟩
  refine wpS_bind (wpS_lift (wpAny_rule ⟨rfl,?_⟩))
  refine wpS_bind (wpS_mono (wpS_forRange (fun i c st2=>∃neq,c=(none,i,neq)∧Ph k0 a₀ lo st0 st2∧NiK κ (arrOf st2) lo i∧neq+1≤i∧(∀k,lo+i-(neq+1)≤k→k<lo+i→KK κ (arrOf st2) k=KK κ (arrOf st2) (lo+i-1)))
   (Q:=fun c st2=>∃i neq,c=(none,i,neq)∧Ph k0 a₀ lo st0 st2∧n+1≤i∧i≤nrem∧NiK κ (arrOf st2) lo i∧neq+1≤i∧(∀k,lo+i-(neq+1)≤k→k<lo+i→KK κ (arrOf st2) k=KK κ (arrOf st2) (lo+i-1))) ?_ ?_ ⟨0,rfl,B1,N1,by omega,fun k k1 k2=>by rw[show k=lo+(n+1)-1 by omega]⟩) ?_)
  ·rintro i c st2 hi hi2 ⟨neq,rfl,B2,N2,q2,e2⟩
   dsimp only
   refine wpS_bind (w_ltA hL hk B2 (by omega) (by omega) ?_)
   cases hb:κ.blt (KK κ (arrOf st2) (lo+i)) (KK κ (arrOf st2) (lo+i-1)) with
   | true =>
    show wpS _ _ _ _ (if neq>0 then _ else _) _ _
    refine w_jp0 (fun st3=>Ph k0 a₀ lo st0 st3∧NiK κ (arrOf st3) lo (i+1)) ?_ (fun H h0=>?_) fun _=>⟨B2,N2.succ (by omega) (KeyOrd.kle_of_klt hb)⟩
    ·rintro st3 ⟨B3,N3⟩
     exact wpS_pure ⟨0,rfl,B3,N3,by omega,fun k k1 k2=>by rw[show k=lo+(i+1)-1 by omega]⟩
    refine wpS_bind (w_rev (H _ ⟨B2.rev (by omega) (by omega),?_⟩))
    have e:=KK_mirror_equal (κ:=κ) (xs:=arrOf st2) (i:=lo+i-(neq+1)) (j:=lo+i) (by rw[B2.size];omega) e2
    intro x y hx hxy hy
    show κ.kle (KK κ (mirror _ _ _ _) y) (KK κ (mirror _ _ _ _) x)
    rw[e x,e y]
    exact N2.succ (by omega) (KeyOrd.kle_of_klt hb) x y hx hxy hy
   | false =>
    refine wpS_bind (w_ltA hL hk B2 (by omega) (by omega) ?_)
    cases hb2:κ.blt (KK κ (arrOf st2) (lo+i-1)) (KK κ (arrOf st2) (lo+i)) with
    | true=>exact wpS_pure ⟨i,neq,rfl,B2,by omega,by omega,N2,q2,e2⟩
    | false =>
     have ee:=κ.total _ _ hb hb2
     refine wpS_pure ⟨neq+1,rfl,B2,N2.succ (by omega) hb2,by omega,fun k k1 k2=>?_⟩
     rw[show lo+(i+1)-1=lo+i by omega,ee]
     by_cases hki:k=lo+i
     ·rw[hki,ee]
     ·exact e2 k (by omega) (by omega)
  ·rintro c st2 ⟨neq,rfl,B2,N2,q2,e2⟩
   rw[show max (n+1) nrem=nrem by omega]at *
   exact⟨nrem,neq,rfl,B2,by omega,by omega,N2,q2,e2⟩
  rintro c st2 ⟨i,neq,rfl,B2,i1,i2,N2,q2,e2⟩
  dsimp only
  refine w_jp0 (fun st3=>Ph k0 a₀ lo st0 st3∧NiK κ (arrOf st3) lo i) (fun st3 h3=>?_) (fun H h0=>?_) fun _=>⟨B2,N2⟩
  ·obtain⟨B3,N3⟩:=h3
   refine wpS_bind (w_rev ?_)
   have B4:=B3.rev (i:=lo) (j:=lo+i) (Ql _) (by omega)
   have e:=KK_mirror (κ:=κ) (xs:=arrOf st3) (i:=lo) (j:=lo+i) (by rw[B3.size];omega)
   have S4:SgK κ (mirror (arrOf st3) lo (lo+i) ((lo+i-lo) / 2)) lo i:=fun x y hx hxy hy=>by
    rw[e x,e y,if_pos ⟨by omega,by omega⟩,if_pos ⟨by omega,by omega⟩]
    exact N3 _ _ (by omega) (by omega) (by omega)
   refine wpS_bind (wpS_mono (wpS_forRange (fun j c st5=>st5=(setArr st3 (mirror (arrOf st3) lo (lo+i) ((lo+i-lo) / 2)))∧c=(none,j)∧SgK κ (mirror (arrOf st3) lo (lo+i) ((lo+i-lo) / 2)) lo j)
    (Q:=fun c st5=>st5=(setArr st3 (mirror (arrOf st3) lo (lo+i) ((lo+i-lo) / 2)))∧∃n,c=(none,n)∧1≤n∧n≤nrem∧SgK κ (mirror (arrOf st3) lo (lo+i) ((lo+i-lo) / 2)) lo n) ?_ ?_ ⟨rfl,rfl,S4⟩) ?_)
   ·rintro j c st5 hj hj2 ⟨rfl,rfl,S5⟩
    dsimp only
    refine wpS_bind (w_ltA hL hk B4 (by omega) (by omega) ?_)
    cases hb:κ.blt (KK κ (mirror (arrOf st3) lo (lo+i) ((lo+i-lo) / 2)) (lo+j)) (KK κ (mirror (arrOf st3) lo (lo+i) ((lo+i-lo) / 2)) (lo+j-1)) with
    | true=>exact wpS_pure ⟨rfl,j,rfl,by omega,by omega,S5⟩
    | false=>exact wpS_pure ⟨rfl,rfl,S5.succ (by omega) hb⟩
   ·rintro c st5 ⟨rfl,rfl,S5⟩
    rw[show max i nrem=nrem by omega]at S5 ⊢
    exact⟨rfl,nrem,rfl,by omega,by omega,S5⟩
   ·rintro c st5 ⟨rfl,m,rfl,m1,m2,S5⟩
    exact wpS_pure (q m _ B4 m1 m2 S5)
  ·refine wpS_bind (w_rev (H _ ⟨B2.rev (by omega) (by omega),?_⟩))
   have e:=KK_mirror_equal (κ:=κ) (xs:=arrOf st2) (i:=lo+i-(neq+1)) (j:=lo+i) (by rw[B2.size];omega) e2
   intro x y hx hxy hy
   show κ.kle (KK κ (mirror _ _ _ _) y) (KK κ (mirror _ _ _ _) x)
   rw[e x,e y]
   exact N2 x y hx hxy hy
 ·intro H h0
  refine wpS_bind (w_ltA hL hk B (by omega) (by omega) ?_)
  cases hb:κ.blt (KK κ (arrOf st') lo) (KK κ (arrOf st') (lo+n-1)) with
  | true=>exact wpS_pure (q n _ B n1 n2 S)
  | false =>
   have hf:∀k,lo≤k→k<lo+n→KK κ (arrOf st') k=KK κ (arrOf st') (lo+n-1):=fun k k1 k2 =>
    KeyOrd.kle_antisymm (S k (lo+n-1) k1 (by omega) (by omega)) (KeyOrd.kle_trans (show κ.kle (KK κ (arrOf st') (lo+n-1)) (KK κ (arrOf st') lo) from hb) (S lo k (by omega) k1 k2))
   refine wpS_bind (w_rev (H _ ⟨B.rev (Ql _) (by omega),?_⟩))
   have e:=KK_mirror_equal (κ:=κ) (xs:=arrOf st') (i:=lo) (j:=lo+n) (by rw[B.size];omega) hf
   intro x y hx hxy hy
   show κ.kle (KK κ (mirror _ _ _ _) y) (KK κ (mirror _ _ _ _) x)
   rw[e x,e y]
   refine NiK.succ n1 (fun a b ha hab hb=>?_) (KeyOrd.kle_of_klt hlt) x y hx hxy hy
   rw[hf a ha (by omega),hf b (by omega) hb]
   exact KeyOrd.kle_refl _
 ·intro h0
  refine⟨B,NiK.succ n1 (fun a b ha hab hb=>?_) (KeyOrd.kle_of_klt hlt)⟩
  obtain rfl:a=b:=by omega
  exact KeyOrd.kle_refl _
theorem w_binA(hL:Zbs prog w A s k0 κ)(hk:PyProof.Rows.KeysOf κ a₀){n ok:Nat}(hn:lo+n≤a₀.size)(h1:ok≤n)(h0:1≤ok)(B:Ph k0 a₀ lo st0 st)(S:SgK κ (arrOf st) lo ok){Q:Bool→SortSt→Prop}
  (q:∀ (st':SortSt),Ph k0 a₀ lo st0 st'→SgK κ (arrOf st') lo n→Q true st'):wpS (model prog w) A E s (binarySort' lo n ok) Q st:=by
 rw[binarySort'_eq]
 refine wpS_bind ?_
 refine wpS_forRange (fun i c st'=>c=(none,())∧Ph k0 a₀ lo st0 st'∧SgK κ (arrOf st') lo i) ?_ ?_ ⟨rfl,B,by rw[show max ok 1=ok by omega];exact S⟩
 ·rintro k c st' hak hkn ⟨rfl,B',S'⟩
  refine wpS_bind (wpS_mono (wpS_forRange (fun i c st2=>∃l r,c=(none,l,r)∧st2=st'∧l≤r∧r≤k∧r-l≤k-i∧(∀j,j<l→κ.kle (KK κ (arrOf st') (lo+j)) (KK κ (arrOf st') (lo+k)))∧(∀j,r≤j→j<k→κ.klt (KK κ (arrOf st') (lo+k)) (KK κ (arrOf st') (lo+j))))
   (Q:=fun c st2=>∃l,c=(none,l,l)∧st2=st'∧l≤k∧(∀j,j<l→κ.kle (KK κ (arrOf st') (lo+j)) (KK κ (arrOf st') (lo+k)))∧(∀j,l≤j→j<k→κ.klt (KK κ (arrOf st') (lo+k)) (KK κ (arrOf st') (lo+j)))) ?_ ?_ ⟨0,k,rfl,rfl,QA _,Ql _,by omega,fun j h=>by omega,fun j h1 h2=>by omega⟩) ?_)
  ·rintro i c st2 hi0 hik ⟨l,r,rfl,rfl,hlr,hrk,hm,hlo,hhi⟩
   dsimp only
   refine w_if (fun hge=>?_) fun hge=>?_
   ·obtain rfl:l=r:=by omega
    exact wpS_pure ⟨l,rfl,rfl,hrk,hlo,hhi⟩
   ·refine wpS_bind (w_ltA hL hk B' (by omega) (by omega) ?_)
    cases hb:κ.blt (KK κ (arrOf st2) (lo+k)) (KK κ (arrOf st2) (lo+(l+r) / 2)) with
    | true=>exact wpS_pure ⟨l,(l+r) / 2,rfl,rfl,by omega,by omega,by omega,hlo,fun j j1 j2=>KeyOrd.klt_of_klt_of_kle hb (S' _ (lo+j) (by omega) (by omega) (by omega))⟩
    | false=>exact wpS_pure ⟨(l+r) / 2+1,r,rfl,rfl,by omega,by omega,by omega,fun j h=>KeyOrd.kle_trans (S' (lo+j) (lo+(l+r) / 2) (by omega) (by omega) (by omega)) hb,hhi⟩
  ·rintro c st2 ⟨l,r,rfl,rfl,hlr,hrk,hm,hlo,hhi⟩
   obtain rfl:l=r:=by omega
   exact⟨l,rfl,rfl,hrk,hlo,hhi⟩
  ·rintro c st2 ⟨l,rfl,rfl,hlk,hlo,hhi⟩
   refine wpS_bind ?_
   rw[moveDown'_eq]
   refine wpS_modify (wpS_pure ⟨rfl,B'.dn (by omega) (by omega) (by omega),?_⟩)
   have eb:=KK_bubble (κ:=κ) (xs:=arrOf st2) (src:=lo+k) (d:=lo+k-(lo+l)) (by rw[B'.size];omega) (by omega)
   have lo':∀j,lo≤j→j<lo+l→κ.kle (KK κ (arrOf st2) j) (KK κ (arrOf st2) (lo+k)):=fun j j1 j2=>by
    have:=hlo (j-lo) (by omega)
    rwa [show lo+(j-lo)=j by omega]at this
   have hi':∀j,lo+l≤j→j<lo+k→κ.klt (KK κ (arrOf st2) (lo+k)) (KK κ (arrOf st2) j):=fun j j1 j2=>by
    have:=hhi (j-lo) (by omega) (by omega)
    rwa [show lo+(j-lo)=j by omega]at this
   intro x y hx hxy hy
   show κ.kle (KK κ (bubble (arrOf st2) (lo+k) (lo+k-(lo+l))) x) (KK κ (bubble (arrOf st2) (lo+k) (lo+k-(lo+l))) y)
   rw[eb x,eb y,show lo+k-(lo+k-(lo+l))=lo+l by omega]
   repeat' split
   all_goals first
    | (exfalso;omega)
    | exact KeyOrd.kle_refl _
    | exact lo' _ (by omega) (by omega)
    | exact KeyOrd.kle_of_klt (hi' _ (by omega) (by omega))
    | exact S' _ _ (by omega) (by omega) (by omega)
 ·rintro c st' ⟨rfl,B',S'⟩
  rw[show max (max ok 1) n=n by omega]at S'
  exact wpS_pure (q st' B' S')
end
section
variable {prog:Program} {w:World} {A:Around} {E:Value→Shared→Prop} {s:Shared} {κ:PyProof.Rows.KeyKind} {k0:SortKind} {st st0:SortSt} {a₀:Array Keyed} {lo:Nat} {rs:List (List Keyed)} {rest:List Keyed}
theorem Ph.runs(R:Rn κ k0 a₀ st0 rs rest)(B:Ph k0 a₀ lo st0 st)(hlo:lo=rs.flatten.length):Rn κ k0 a₀ st rs ((arrOf st).toList.drop lo):=by
 refine⟨B.kind,B.failed,?_,B.perm,R.srt,R.ne,by rw[B.pend];exact R.pend⟩
 have e:(arrOf st).toList.take lo=rs.flatten:=by
  have e0:(arrOf st0).toList.take lo=rs.flatten:=by rw[R.arr,hlo,List.take_left]
  rw[← e0]
  apply List.ext_getElem?
  intro k
  rw[List.getElem?_take,List.getElem?_take]
  split
  ·rename_i h
   rw[QH,QH,B.pre k h]
  ·rfl
 rw[← e,QN]
theorem SgK.list{xs:Array Keyed}{n:Nat}(S:SgK κ xs lo n):kS κ ((xs.toList.drop lo).take n):=by
 refine List.pairwise_iff_getElem.mpr fun i j hi hj hij=>?_
 rw[QB,QS,Qs]at hi hj
 have:=S (lo+i) (lo+j) (by omega) (by omega) (by omega)
 rw[Zx (show lo+i<xs.size by omega),Zx (show lo+j<xs.size by omega)]at this
 rw[Qaj,Qai,Qaj,Qai,QF,QF]
 exact this
theorem Rn.push(R:Rn κ k0 a₀ st rs rest){n:Nat}(h:kS κ (rest.take n))(h1:1≤n)(h2:n≤rest.length){st':SortSt}(hk:kindOf st'=kindOf st)(hf:failedOf st'=failedOf st)(ha:arrOf st'=arrOf st)(hp:(pendingOf st').toList.map Zax=(pendingOf st).toList.map Zax++[(rs.flatten.length,n)]):Rn κ k0 a₀ st' (rs++[rest.take n]) (rest.drop n):=by
 refine⟨hk.trans R.kind,hf.trans R.failed,by rw[ha,R.arr];simp,by rw[ha];exact R.perm,fun r hr=>?_,fun r hr=>?_,?_⟩
 ·rcases Qn.mp hr with hr|hr
  ·exact R.srt r hr
  ·rw[Qf.mp hr];exact h
 ·rcases Qn.mp hr with hr|hr
  ·exact R.ne r hr
  ·rw[Qf.mp hr]
   intro e
   have:=congrArg List.length e
   rw[QB,List.length_nil]at this
   omega
 ·rw[hp,R.pend,Zby]
  simp[ZbC,List.length_take,Nat.min_eq_left h2]
theorem Rn.len(R:Rn κ k0 a₀ st rs rest):(pendingOf st).size=rs.length:=by
 have:=congrArg List.length R.pend
 rw[Qb,Zb2,Qs]at this
 exact this
theorem ZfN:∀ (rs:List (List Keyed)) (i:Nat),i+1<rs.length→∃l x y m,rs=l++x::y::m∧l.length=i
 | x::y::m,0,_=>⟨[],x,y,m,rfl,rfl⟩
 | x::r,i+1,h=>by
  obtain⟨l,a,b,m,e,hl⟩:=ZfN r i (by simp at h;omega)
  exact⟨x::l,a,b,m,by rw[e];rfl,by rw[Q5,hl]⟩
theorem Zeo:∀ (rs:List (List Keyed)),(∀r∈rs,r≠[])→rs.length≤rs.flatten.length
 | [],_=>Ql _
 | r::rs,h=>by
  have:=Zeo rs fun x hx=>h x (Qg _ hx)
  have h0:r.length≠0:=fun e=>h r (Qq ..) (QC e)
  rw[Qaa,Qd,Q5]
  omega
theorem w_atJ(hL:Zbs prog w A s k0 κ)(hk:PyProof.Rows.KeysOf κ a₀)(R:Rn κ k0 a₀ st rs rest){j:Nat}{Q:Bool→SortSt→Prop}(q:∀st' rs',Rn κ k0 a₀ st' rs' rest→rs'.flatten.length=rs.flatten.length→rs'.length+1=rs.length→Q true st')(hj:j+1<rs.length):wpS (model prog w) A E s (mergeAt' j) Q st:=by
 obtain⟨l,a,b,m,rfl,rfl⟩:=ZfN rs j hj
 refine w_at hL hk R fun st3 z R3 hz=>q st3 _ R3 ?_ (by rw[Qd,Qd];rfl)
 rw[Qar,Qd,Qar,Qd,Qaa,Qd,Qaa,Qd,Qaa,Qd]
 omega
theorem Rn.total(R:Rn κ k0 a₀ st rs rest):rs.flatten.length+rest.length=a₀.size:=by
 rw[← R.perm.size_eq,← Qs,R.arr,Qd]
theorem ZfM(l:List (Nat×Nat×Nat))(i:Nat){f:Nat×Nat×Nat→Nat×Nat×Nat}(h:∀x,Zax (f x)=Zax x):(l.modify i f).map Zax=l.map Zax:=by
 apply List.ext_getElem?
 intro j
 rw[Qu,Qu,List.getElem?_modify]
 cases l[j]? with
 | none=>rfl
 | some x =>
  show some (Zax (if i=j then f x else x))=some (Zax x)
  split
  ·rw[h]
  ·rfl
theorem w_jpS{α β:Type}{c:β→Prop}[∀i,Decidable (c i)]{y:β}{X Y:β→StateT SortSt Sem α}{Q:α→SortSt→Prop}(P:β→SortSt→Prop)(H:∀i st',P i st'→wpS (model prog w) A E s (Y i) Q st')(hX:(∀i st',P i st'→wpS (model prog w) A E s (Y i) Q st')→c y→wpS (model prog w) A E s (X y) Q st)(hY:¬ c y→P y st):∀i,y=i→wpS (model prog w) A E s (if c i then X i else Y i) Q st:=by
 rintro _ rfl
 by_cases h:c y
 ·rw[if_pos h];exact hX H h
 ·rw[if_neg h];exact H y st (hY h)
theorem w_runsA(hL:Zbs prog w A s k0 κ)(hk:PyProof.Rows.KeysOf κ a₀)(B:SB k0 a₀ st){Q:Unit→SortSt→Prop}
  (q:∀ (st':SortSt),(arrOf st').Perm a₀→failedOf st'=none→SortedToK κ (arrOf st') a₀.size→Q () st'):wpS (model prog w) A E s sortRuns' Q st:=by
 show wpS _ _ _ _ (get >>= _) _ _
 refine wpS_bind (wpS_get ?_)
 have hsz:(arrOf st).size=a₀.size:=B.size
 have R0:Rn κ k0 a₀ st [] (arrOf st).toList:=⟨B.kind,B.failed,rfl,B.perm,(fun r hr=>by cases hr),(fun r hr=>by cases hr),by rw[B.pend];rfl⟩
 show wpS _ _ _ _ (forIn [:(arrOf st).size] (none,0) _ >>= _) _ _
 generalize minRun' (arrOf st).size (arrOf st).size 0=mr
 rw[hsz]
 refine wpS_bind (wpS_mono (wpS_forRange (fun x c st1=>∃rs rest,c=(none,rs.flatten.length)∧Rn κ k0 a₀ st1 rs rest∧x≤rs.flatten.length) (Q:=fun c st1=>∃rs n,c=(none,n)∧Rn κ k0 a₀ st1 rs []) ?_ ?_ ⟨[],_,rfl,R0,Ql _⟩) ?_)
 ·rintro x c st1 _ hx ⟨rs,rest,rfl,R1,x1⟩
  have T1:=R1.total
  dsimp only
  refine w_if (fun hge=>?_) fun hge=>?_
  ·have:rest=[]:=QC (by omega)
   subst this
   exact wpS_pure ⟨rs,_,rfl,R1⟩
  have B1:Ph k0 a₀ rs.flatten.length st1 st1:=⟨R1.kind,R1.failed,rfl,R1.perm,fun _ _=>rfl⟩
  refine wpS_bind (w_countA hL hk (by omega) (by omega) B1 fun n st2 B2 n1 n2 S2=>?_)
  dsimp only
  have key:∀ (n:Nat) (st3:SortSt),Ph k0 a₀ rs.flatten.length st1 st3→1≤n→n≤a₀.size-rs.flatten.length→SgK κ (arrOf st3) rs.flatten.length n→∃rest,Rn κ k0 a₀ st3 rs rest∧kS κ (rest.take n)∧1≤n∧n≤rest.length:=fun n st3 B3 m1 m2 S3=>by
   have R3:=Ph.runs R1 B3 rfl
   refine⟨_,R3,S3.list,m1,?_⟩
   have:=R3.total
   omega
  generalize hn:n=n'
  revert n' hn
  refine w_jpS (fun n st3=>∃rest,Rn κ k0 a₀ st3 rs rest∧kS κ (rest.take n)∧1≤n∧n≤rest.length) ?_ ?_ fun _=>key n st2 B2 n1 n2 S2
  ·rintro n st3 ⟨rest,R3,s3,l1,l2⟩
   have fin:∀ (rs':List (List Keyed)) (st5 st6:SortSt),Rn κ k0 a₀ st5 rs' rest→rs'.flatten.length=rs.flatten.length→kindOf st6=kindOf st5→failedOf st6=failedOf st5→arrOf st6=arrOf st5→(pendingOf st6).toList.map Zax=(pendingOf st5).toList.map Zax++[(rs.flatten.length,n)]→∃rs rest,Rn κ k0 a₀ st6 rs rest∧x+1≤rs.flatten.length∧(none,rs'.flatten.length+n)=((none:Option Unit),rs.flatten.length):=fun rs' st5 st6 R5 e5 a1 a2 a3 a4=>by
    refine⟨_,_,R5.push s3 l1 l2 a1 a2 a3 (by rw[a4,e5]),?_,?_⟩
    ·rw[Qar,Qd,Qaa,List.flatten_nil,List.append_nil,e5,QB]
     omega
    ·rw[Qar,Qd,Qaa,List.flatten_nil,List.append_nil,QB,Nat.min_eq_left l2]
   refine wpS_bind (wpS_get ?_)
   show wpS _ _ _ _ (match (pendingOf st3).back? with|some (s1,n1,snd)=>_|x=>_) _ _
   rcases hb:(pendingOf st3).back? with _|⟨s1,n1,p1⟩
   ·dsimp only
    refine wpS_bind (wpS_modify (wpS_pure ?_))
    obtain⟨rs2,rest2,R6,h6,e6⟩:=fin rs st3 (setPending st3 ((pendingOf st3).push (rs.flatten.length,n,0))) R3 rfl rfl rfl rfl (by show ((pendingOf st3).push _).toList.map Zax=_;rw[Q9,Qh];rfl)
    exact⟨rs2,rest2,e6,R6,h6⟩
   ·dsimp only
    refine wpS_bind (wpS_mono (wpS_forRange (fun _ c st4=>∃rs',c=(none,())∧Rn κ k0 a₀ st4 rs' rest∧rs'.flatten.length=rs.flatten.length) (Q:=fun c st4=>∃rs',c=(none,())∧Rn κ k0 a₀ st4 rs' rest∧rs'.flatten.length=rs.flatten.length) ?_ (fun c st4 h=>h) ⟨rs,rfl,R3,rfl⟩) ?_)
    ·rintro y c st4 _ hy ⟨rs',rfl,R4,e4⟩
     refine wpS_bind (wpS_get ?_)
     show wpS _ _ _ _ (match (if (pendingOf st4).size>1 then (pendingOf st4)[(pendingOf st4).size-2]? else none) with|some (fst,fst_1,older)=>_|x=>_) _ _
     by_cases hs:(pendingOf st4).size>1
     ·rw[if_pos hs]
      rcases hp:(pendingOf st4)[(pendingOf st4).size-2]? with _|⟨u,v,older⟩
      ·exact wpS_pure ⟨rs',rfl,R4,e4⟩
      ·refine w_if (fun _=>wpS_pure ⟨rs',rfl,R4,e4⟩) fun _=>?_
       exact wpS_bind (w_atJ hL hk R4 (fun st5 rs5 R5 e5 _=>wpS_pure ⟨_,rfl,R5,e5.trans e4⟩) (by rw[R4.len]at *;omega))
     ·rw[if_neg hs]
      exact wpS_pure ⟨rs',rfl,R4,e4⟩
    ·rintro c st4 ⟨rs',rfl,R4,e4⟩
     dsimp only
     refine wpS_bind (wpS_modify ?_)
     refine wpS_bind (wpS_modify (wpS_pure ?_))
     obtain⟨rs2,rest2,R6,h6,e6⟩:=fin rs' st4 (SortSt.mk' (kindOf st4) (arrOf st4) (((pendingOf st4).modify ((pendingOf st4).size-1) fun x=>(x.1,x.2.1,power' a₀.size (2*s1+n1) (2*s1+n1+n1+n) a₀.size)).push (rs.flatten.length,n,0)) (gallopOf st4) (failedOf st4)) R4 e4 rfl rfl rfl (by
      show (Array.push _ _).toList.map Zax=_
      rw[Q9,Qh,Array.toList_modify,ZfM]
      ·rfl
      ·exact fun _=>rfl)
     rw[e4]at e6
     exact⟨rs2,rest2,e6,R6,h6⟩
  ·intro H hlt
   refine wpS_bind (wpS_lift (wpAny_rule ⟨rfl,?_⟩))
   refine wpS_bind (w_binA hL hk (by omega) (by omega) n1 B2 S2 fun st3 B3 S3=>?_)
   exact H _ _ (key _ st3 B3 (by omega) (by omega) S3)
 ·rintro c st1 ⟨rs,rest,rfl,R1,x1⟩
  have T1:=R1.total
  have:rest=[]:=QC (by omega)
  subst this
  exact⟨rs,_,rfl,R1⟩
 rintro c st1 ⟨rs,n,rfl,R1⟩
 dsimp only
 have T1:rs.flatten.length=a₀.size:=by have:=R1.total;simpa using this
 have L1:=Zeo rs R1.ne
 refine wpS_bind (wpS_mono (wpS_forRange (fun x c st2=>∃rs,c=(none,())∧Rn κ k0 a₀ st2 rs []∧rs.length≤max 1 (a₀.size-x)) (Q:=fun c st2=>∃rs,c=(none,())∧Rn κ k0 a₀ st2 rs []∧rs.length≤1) ?_ ?_ ⟨rs,rfl,R1,by omega⟩) ?_)
 ·rintro x c st2 _ hx ⟨rs,rfl,R2,h2⟩
  refine wpS_bind (wpS_get ?_)
  have l2:=R2.len
  refine w_if (fun h=>wpS_pure ⟨rs,rfl,R2,by rw[← l2];exact h⟩) fun h=>?_
  have h':¬ (pendingOf st2).size≤1:=h
  refine wpS_bind (w_atJ hL hk R2 (fun st3 rs3 R3 _ e3=>wpS_pure ⟨_,rfl,R3,by omega⟩) ?_)
  have hj:∀ (c:Prop) [Decidable c],(if c then (pendingOf st2).size-2-1 else (pendingOf st2).size-2)+1<rs.length:=fun c _=>by split<;>omega
  exact hj _
 ·rintro c st2 ⟨rs,rfl,R2,h2⟩
  exact⟨rs,rfl,R2,by omega⟩
 ·rintro c st2 ⟨rs,rfl,R2,h2⟩
  refine wpS_pure (q _ R2.perm R2.failed ?_)
  rw[← R2.perm.size_eq]
  refine Zca ?_
  rw[R2.arr]
  cases rs with
  | nil=>exact List.Pairwise.nil
  | cons r t =>
   have:t=[]:=QC (by rw[Q5]at h2;omega)
   subst this
   simpa using R2.srt r (Qq ..)
end
section
variable {prog:Program} {w:World} {A:Around} {E:Value→Shared→Prop} {s:Shared} {κ:PyProof.Rows.KeyKind}
theorem w_sortA{a:Addr}{vs:List Value}{n:Nat}{P:PySem.Fin→Shared→Prop}(ha:s.heap.get? a=some (seqObj "list" vs.toArray n))(hk:PyProof.Rows.KeysOf κ (pairsOf vs))(h2:2≤vs.length)(hz:vs.length≤sizeLine)
  (hK:∀ (s':Shared),(∀b o,b≠a→s.heap.get? b=some o→s'.heap.get? b=some o)→∀ (E:Value→Shared→Prop) (Q:SortKind→Shared→Prop),(∀k0,Zbs prog w A s' k0 κ→Q k0 s')→wpAny (model prog w) A (keyKind' vs.toArray) Q E s')
  (q:∀ (st':SortSt),(arrOf st').Perm (pairsOf vs)→SortedToK κ (arrOf st') (pairsOf vs).size→P (Fin.done (Flow.ret Value.none)) { s with heap:=sortedHeap s.heap a vs ((arrOf st').map fun x=>x.snd) }) :
  wpAny (model prog w) A (Builtin.«list.sort» { pos:=[.ref a] }) P E s:=by
 rw[← Qk]at hz
 rw[list_sort_plain]
 refine wpAny_bind (Z3 ha rfl ?_)
 show wpAny _ _ (updateSeq a (fun x=>#[]) >>= _) _ _ _
 refine wpAny_bind (wpAny_updateSeq ha rfl ?_ hz (by show 0≤_;omega))
 have e1:=get?_update_seq ha (fun _=>#[])
 refine wpAny_bind (seqEpoch_at e1 rfl ?_)
 refine wpAny_bind (wpAny_newTuple ?_ (by simpa using hz))
 refine wpAny_bind (wpAny_newList ?_ (by show 0≤_;omega))
 refine wpAny_holding ?_
 have hn2:¬ vs.toArray.size<2:=by rw[Qk];omega
 have hps:(pairsOf vs).size=vs.length:=by unfold pairsOf;simp
 rw[if_neg hn2,if_neg hn2]
 have keep:∀b o,b≠a→s.heap.get? b=some o→(((s.heap.update a (Obj.mapSeq fun _=>#[])).push { cls:=.type "tuple",data:=.seq vs.toArray.toList.toArray }).push { cls:=.type "list",data:=.seq ([]:List Value).toArray }).get? b=some o:=fun b o hb h =>
  Qc _ (Qc _ (Heap.get?_update_of_ne _ (Ne.symm hb) h))
 have e2:(((s.heap.update a (Obj.mapSeq fun _=>#[])).push { cls:=.type "tuple",data:=.seq vs.toArray.toList.toArray }).push { cls:=.type "list",data:=.seq ([]:List Value).toArray }).get? a=some (seqObj "list" #[] _):=Qc _ (Qc _ e1)
 refine wpAny_bind (hK _ keep _ _ fun k0 hL=>?_)
 refine wpAny_bind ?_
 have B:SB k0 (pairsOf vs) (SortSt.mk' k0 (vs.toArray.zip vs.toArray) #[] 7 none):=⟨Array.Perm.refl _,rfl,rfl,rfl⟩
 refine thn (w_runsA (E:=E) hL hk B (Q:=fun _ st'=>(arrOf st').Perm (pairsOf vs)∧failedOf st'=none∧SortedToK κ (arrOf st') (pairsOf vs).size) (fun st' a b c=>⟨a,b,c⟩)) fun r s' hr=>?_
 obtain⟨⟨⟩,st'⟩:=r
 obtain⟨rfl,p1,p2,p3⟩:=hr
 refine wpAny_bind (seqEpoch_at e2 rfl ?_)
 have hsz:((arrOf st').map fun x=>x.snd).size=vs.length:=by rw[Array.size_map,p1.size_eq,hps]
 show wpAny _ _ (updateSeq a (fun x=>(arrOf st').map fun x=>x.snd) >>= _) _ _ _
 refine wpAny_bind (wpAny_updateSeq e2 rfl ?_ (by show 0≤_;omega) (by show ((arrOf st').map fun x=>x.snd).size≤_;rw[hsz];rw[Qk]at hz;omega))
 rw[p2]
 rw[if_neg (by simp)]
 exact wpAny_pure (q st' p1 p3)
theorem w_sortedA{l:Addr}{vs:List Value}{Q:Value→Shared→Prop}(hl:s.heap.IsList l vs.toArray)(hk:PyProof.Rows.KeysOf κ (pairsOf vs))(h2:2≤vs.length)(hz:vs.length≤sizeLine)
  (hK:∀ (A:Around) (s':Shared),(∀b o,s.heap.get? b=some o→s'.heap.get? b=some o)→∀ (E:Value→Shared→Prop) (Q:SortKind→Shared→Prop),(∀k0,Zbs prog w A s' k0 κ→Q k0 s')→wpAny (model prog w) A (keyKind' vs.toArray) Q E s')
  (q:∀ (st':SortSt),(arrOf st').Perm (pairsOf vs)→SortedToK κ (arrOf st') (pairsOf vs).size→Q (.ref (s.heap.objs.size+1)) { s with heap:=sortedAll s.heap vs ((arrOf st').map fun x=>x.snd) }) :
  wpAny (model prog w) A (call (.builtin "sorted") [.ref l]) Q E s:=by
 refine Calls.call_function_entry kind_sorted plain_sorted entry_sorted (args_sorted1 (.ref l)) ?_
 refine wpAny_bind (wpAny_pure (wpAny_bind (collect_list hl (wpAny_bind (wpAny_newList ?_ hz)) hz)))
 have hsz:((s.heap.push (seqObj "list" #[] 0)).update s.heap.objs.size (Obj.mapSeq fun x=>x++vs.toArray)).objs.size=s.heap.objs.size+1:=by rw[Heap.size_update,size_push']
 have hoL:((((s.heap.push (seqObj "list" #[] 0)).update s.heap.objs.size (Obj.mapSeq fun x=>x++vs.toArray)).push (seqObj "list" vs.toArray 0)).get? (s.heap.objs.size+1))=some (seqObj "list" vs.toArray 0):=by
  rw[← hsz];exact Qr _ rfl
 have keep:∀b o,s.heap.get? b=some o→(((s.heap.push (seqObj "list" #[] 0)).update s.heap.objs.size (Obj.mapSeq fun x=>x++vs.toArray)).push (seqObj "list" vs.toArray 0)).get? b=some o:=fun b o h =>
  Qc _ (Heap.get?_update_of_ne _ (QU (Qi h)) (Qc _ h))
 show wpAny _ _ (holding [.ref ((s.heap.push (seqObj "list" #[] 0)).update s.heap.objs.size (Obj.mapSeq fun x=>x++vs.toArray)).objs.size] (call (.builtin "list.sort") [.ref ((s.heap.push (seqObj "list" #[] 0)).update s.heap.objs.size (Obj.mapSeq fun x=>x++vs.toArray)).objs.size]) >>= fun _=>ret (.ref ((s.heap.push (seqObj "list" #[] 0)).update s.heap.objs.size (Obj.mapSeq fun x=>x++vs.toArray)).objs.size)) _ _ _
 rw[hsz]
 refine wpAny_bind (wpAny_holding (wpAny_call_entry slot_list_sort ⟨_,hoL,rfl⟩ entry_list_sort ?_ (args_list_sort _)))
 refine w_sortA hoL hk h2 hz (fun s' hk'=>hK _ s' fun b o h=>hk' b o (Qx (Qo (Qi h) (Q8 _))) (keep b o h)) fun st' p1 p3=>?_
 exact⟨_,rfl,wpAny_pure ⟨_,rfl,q st' p1 p3⟩⟩
end
def ZfZ(K:PySem.W.Frag):List V→Hp→VK→Prop:=fun xs H Q=>∃ (p:Addr) (ts:ZbG) (sh:List Bool),xs=[.ref p]∧SqL K H p (Za5 ts)∧AtT H ts∧sh≠[]∧(∀t∈ts,Z1 t.2=sh) ∧
 ∀ (l:Addr) (ts':ZbG),H l=none→ts'.Perm ts→ts'.Pairwise (fun a b=>ZH b.2 a.2=false)→Q (.ref l) (upd H l (.lst (Za5 ts')))
theorem Zci{X:Cx}:ZT X (.builtin "sorted") (ZfZ X.K):=by
 intro pins s σ H xs us Q I r h
 obtain⟨p,ts,sh,rfl,hq,hat,hsh,hts,q⟩:=h
 obtain⟨u,rfl,rx⟩:=Zbh r
 cases rx
 obtain⟨its,rv,pl,hz⟩:=I.list hq
 have ei:=Zcu rv
 subst ei
 have tupAt:∀t∈ts,∃its:List Value,Zm (t.2.map kV) its∧IsTup s.heap t.1 its.toArray:=fun t ht=>by
  obtain⟨i,v,q,_⟩:=I.tuple (SqT.of (K:=X.K) (hat t ht))
  exact⟨i,v,q⟩
 have eptl:(pairsOf (ts.map fun t=>Value.ref t.1)).toList=ts.map fun t=>(Value.ref t.1,Value.ref t.1):=by
  unfold pairsOf
  rw[Array.toList_zip,ZdF,Qaf]
  rfl
 have fin:∀ (out:Array Value) (ts':ZbG),ts'.Perm ts→ts'.Pairwise (fun a b=>ZH b.2 a.2=false)→out.toList=ts'.map (fun t=>Value.ref t.1)→EP X pins σ Q (.ref (s.heap.objs.size+1)) { s with heap:=sortedAll s.heap (ts.map fun t=>Value.ref t.1) out }:=fun out ts' pm pw eo=>by
  obtain⟨e,he⟩:=sortedAll_at s.heap (ts.map fun t=>Value.ref t.1) out
  refine⟨.ref (s.heap.objs.size+1),_,I.laid (t':=s.toks) (o:=.lst (Za5 ts')) (fun _ _=>sortedAll_old) (Q8 _) ⟨?_,out.toList,e,by rw[eo];exact Zcv ts',by simpa using he⟩,rfl,q _ ts' (I.hok.fresh (Q8 _)) pm pw⟩
  unfold Za5
  rw[Qb,pm.length_eq];unfold Za5 at hz;rw[Qb]at hz;exact hz
 by_cases h2:ts.length<2
 ·refine w_sorted0 pl.isList (by rw[Qb];exact h2) (fin _ ts (.refl _) ?_ ?_)
  ·cases ts with
   | nil=>exact .nil
   | cons t r =>
    have:r=[]:=QC (by rw[Q5]at h2;omega)
    subst this
    exact Qaw _ _
  ·rw[Array.toList_map,eptl,Qaf];rfl
 ·have hk:PyProof.Rows.KeysOf (Zdb H sh) (pairsOf (ts.map fun t=>Value.ref t.1)):=fun z hz'=>by
   rw[eptl]at hz'
   obtain⟨t,ht,rfl⟩:=Qan.mp hz'
   exact⟨t.2,by rw[← hts t ht];exact Zdk (hat t ht)⟩
  refine w_sortedA (κ:=Zdb H sh) pl.isList hk (by rw[Qb];omega) (by unfold Za5 at hz;rw[Qb]at hz ⊢;exact hz) (fun A' s' kp E' Q' q'=>?_) fun st' p1 p3=>?_
  ·have tup':∀ {a:Addr} {its:List Value},IsTup s.heap a its.toArray→IsTup s'.heap a its.toArray:=fun ⟨o,ho,hc⟩=>⟨o,kp _ _ ho,hc⟩
   refine Zgr (fun v hv=>?_) fun b=>q' _ fun E2 x y a c Q2 hx hy h2=>?_
   ·obtain⟨t,ht,rfl⟩:=Qan.mp hv
    obtain⟨i,v,qt⟩:=tupAt t ht
    have hs1:=hts t ht
    cases hk2:t.2 with
    | nil=>rw[hk2]at hs1;exact absurd hs1.symm hsh
    | cons k kr =>
     rw[hk2]at v
     cases v with
     | cons r1 rr=>exact⟨t.1,_,k,_,rfl,tup' qt,rfl,r1⟩
   ·obtain⟨a1,rfl,ha1,s1⟩:=ZdE hx
    obtain⟨a2,rfl,ha2,s2⟩:=ZdE hy
    obtain⟨i1,v1,t1,_⟩:=I.tuple (SqT.of (K:=X.K) ha1)
    obtain⟨i2,v2,t2,_⟩:=I.tuple (SqT.of (K:=X.K) ha2)
    exact ZhQ (tup' t1) (tup' t2) v1 v2 (s1.trans s2.symm) h2
  ·have p1':=p1.toList
   obtain⟨ts',pm,e⟩:=ZdJ (fun t:Addr×List Key=>(Value.ref t.1,Value.ref t.1)) p1' ts eptl
   refine fin _ ts' pm ?_ ?_
   ·rw[List.pairwise_iff_getElem]
    intro i j hi hj hij
    have hsz:(pairsOf (ts.map fun t=>Value.ref t.1)).size=ts'.length:=by rw[← Qs,eptl,Qb,pm.length_eq]
    have:=p3 i j (by omega) (by rw[hsz];exact hj)
    have key:∀k (hk':k<ts'.length),KK (Zdb H sh) (arrOf st') k=ts'[k].2:=fun k hk'=>by
     unfold KK
     have e1:(arrOf st')[k]? = some (Value.ref ts'[k].1,Value.ref ts'[k].1):=by
      rw[← QH,e,Qu,Qa hk'];rfl
     rw[e1]
     have hm:ts'[k]∈ts:=pm.mem_iff.mp (QX hk')
     show ((Zcw H sh (.ref ts'[k].1)).getD _)=_
     rw[← hts _ hm,Zdk (hat _ hm)];rfl
    rw[key i hi,key j hj]at this
    exact this
   ·rw[Array.toList_map,e,Qaf];rfl
theorem Zjk{X:Cx}(K:PySem.W.Frag)(h:X.K=K:=by rfl):ZT X (.builtin "sorted") (ZfZ K):=by subst h;exact Zci
def ZhJ(K:PySem.W.Frag):List V→Hp→VK→Prop:=fun xs H Q=>∃ (p:Addr) (ss:List Str),xs=[.ref p]∧SqL K H p (ss.map V.str)∧∀ (l:Addr) (ss':List Str),H l=none→ss'.Perm ss→sortedS ss'=true→Q (.ref l) (upd H l (.lst (ss'.map V.str)))
theorem ZiM{X:Cx}(K:PySem.W.Frag)(h:X.K=K:=by rfl):ZT X (.builtin "sorted") (ZhJ K):=by
 subst h
 intro pins s σ H xs us Q I r h
 obtain⟨p,ss,rfl,hq,q⟩:=h
 obtain⟨u,rfl,rx⟩:=Zbh r
 cases rx
 obtain⟨its,rv,pl,hz⟩:=I.list hq
 have hlen:=rv.length
 rw[Qb]at hlen hz
 by_cases h2:its.length<2
 ·refine sorted_strs pl.isList (Zac rv) (by omega) fun out ss' a1 a2 a3=>?_
  obtain⟨e,he⟩:=sortedAll_at s.heap its out
  exact⟨.ref (s.heap.objs.size+1),_,I.laid (t':=s.toks) (o:=.lst (ss'.map V.str)) (fun _ _=>sortedAll_old) (Q8 _) ⟨by rw[Qb,a2.length_eq];exact hz,out.toList,e,Zbc a1,by simpa using he⟩,rfl,q _ ss' (I.hok.fresh (Q8 _)) a2 a3⟩
 ·refine w_sortedA (κ:=strKind) pl.isList (Zac rv).keysOf (by omega) (by omega) (fun A' s' kp E' Q' q'=>?_) fun st' p1 p3=>?_
  ·obtain⟨v1,v2,vs,rfl⟩:∃v1 v2 vs,its=v1::v2::vs:=by
    cases its with
    | nil=>exact absurd (by simp) h2
    | cons a b=>cases b with
     | nil=>exact absurd (by simp) h2
     | cons c d=>exact⟨a,c,d,rfl⟩
   rw[keyKind_strs (Zac rv)]
   refine wpAny_pure (q' _ fun E2 x y a b Q2 hx hy hh=>?_)
   rw[keyLt'_oneType]
   exact strKind_oneLt _ _ _ _ _ x y a b hx hy hh
  ·obtain⟨ss',a1,a2,a3⟩:=sorted_out_str (Zac rv) p1 p3
   obtain⟨e,he⟩:=sortedAll_at s.heap its ((arrOf st').map fun x=>x.snd)
   exact⟨.ref (s.heap.objs.size+1),_,I.laid (t':=s.toks) (o:=.lst (ss'.map V.str)) (fun _ _=>sortedAll_old) (Q8 _) ⟨by rw[Qb,a2.length_eq];exact hz,_,e,Zbc a1,by rw[Array.toArray_toList];exact he⟩,rfl,q _ ss' (I.hok.fresh (Q8 _)) a2 a3⟩
end L2
set_option maxHeartbeats 1000000
namespace My
open PySem L2 PyProof.Rows
abbrev Ztl:=@List.tail Stmt
abbrev Zt2(x:List Stmt):=Ztl (Ztl x)
abbrev Zt4(x:List Stmt):=Zt2 (Zt2 x)
abbrev Zt8(x:List Stmt):=Zt4 (Zt4 x)
abbrev Zt16(x:List Stmt):=Zt8 (Zt8 x)
abbrev Zt32(x:List Stmt):=Zt16 (Zt16 x)
local macro_rules|`(‹$i:num›)=>`(@pv _ $i _ _ (by rfl) (Or.inl rfl) (by decide) (by decide))
local macro_rules|`(tactic|trivial)=>`(tactic|first|exact .inl rfl|exact .inr rfl|decide|exact Nat.le_refl _|omega)
local macro_rules
|`(#[Xns,$a,$b,$c])=>`(PySem.W.nsIn $a mainGlobals $b=some (some (.ref $c)))
|`(#[Xlk,$z,$a,$b,$c,$d,$e,$f,$g,$h,$i,$j,$k,$l,$m])=>`(($z).lookup $a=some ⟨$b,$c,.func (PySem.W.fnOf $d $e (Zw $f) (Zr $f) (Ze $f) .none $g $h $i $j $k $l),$m⟩)
|`(#[Xci,$a,$b,$c])=>`(PySem.W.codeIn $a $b $c=true)
|`(#[Xki,$a,$b])=>`(PySem.W.keepIn $a (.ref $b)=true)
|`(#[Zg,$a,$b])=>`(@Zg _ _ _ _ _ $a $b)
|`(#[ZA,$a,$b,$c,$d])=>`(@ZA _ _ $a _ _ _ _ $b rfl $c $d (by rfl) (by trivial))
|`(#[ZP,$a,$b,$c])=>`(@ZP _ _ _ _ _ _ _ _ $a $b $c)
|`(#[Zi])=>`(@Zi _ _ _ _)
|`(#[Zk,$a])=>`(@Zk _ _ _ $a)
|`(#[Zy,$a])=>`(@Zy _ _ _ _ $a)
|`(#[Zs,$a,$b,$c,$d])=>`(@Zs _ _ _ _ _ _ _ _ $a $b $c $d)
|`(#[Zj,$a,$b,$c,$d])=>`(@Zj _ _ _ _ _ _ _ _ _ $a (by rfl) $b $c $d (by decide) (by decide) (by rfl) (by rfl))
|`(#[Za,$a,$b])=>`(@Za _ _ _ _ _ $a $b (by rfl))
|`(#[Zb])=>`(@Zb _)
|`(#[ZW,$a,$b,$c])=>`(@ZW _ _ _ _ _ _ _ $a $b $c (fun _ _=>rfl))
|`(#[Zam,$a])=>`(@Zam _ _ _ _ $a)
|`(#[ZaI,$a,$b,$c,$d])=>`(@ZaI _ _ _ _ _ _ _ _ _ $a (by rfl) $b $c $d (by decide) (by decide) (by rfl) (by rfl))
|`(#[ZaM,$a,$b,$c,$d])=>`(@ZaM _ _ _ _ _ _ _ _ $a $b $c $d)
|`(#[Zeb,$a,$b])=>`(@Zeb _ _ _ _ _ _ $a $b (by rfl) (by rfl) (by rfl))
|`(#[Zan,$a,$b,$c])=>`(@Zan _ _ _ _ _ _ _ _ $a $b $c)
|`(#[ZG,$a,$b,$c,$d])=>`(@ZG _ _ _ _ _ _ _ _ _ _ _ $a $b $c (by trivial) $d (by decide) (by rfl) (by rfl))
|`(#[ZZ])=>`(@ZZ _ _ _ _)
|`(#[Zbd,$a,$b,$c,$d,$e])=>`(@Zbd _ _ _ _ _ _ _ _ _ _ _ _ _ _ $a rfl rfl rfl $b $c $d $e (by intro _;rfl))
|`(#[ZY,$a,$b])=>`(@ZY _ _ _ _ _ _ rfl $a $b (by rfl))
|`(#[pv,$a,$b])=>`(@pv _ $a _ _ (by rfl) $b (by decide) (by decide))
|`(#[cg,$a,$b])=>`(@cg _ _ _ _ _ _ _ _ _ _ _ $a $b rfl (by ac_rfl) (by rfl))
|`(#[cv,$a,$b])=>`(@cv _ _ _ _ _ _ _ _ _ _ _ $a $b rfl (by ac_rfl) (by rfl) (by decide) (by decide))
|`(#[ZbO,$a,$b,$c,$d,$e,$f])=>`(@ZbO _ _ _ _ _ _ _ _ _ _ _ _ $a $b $c $d $e $f (by rfl) (by rfl) (by rfl) (by rfl) (by rfl))
|`(#[Zeg,$a,$b,$c,$d])=>`(@Zeg _ _ $a _ _ _ _ _ _ $b rfl (Or.inl rfl) $c $d (by trivial))
|`(#[ZcO,$a])=>`(@ZcO _ _ _ $a (by intro _;rfl))
|`(#[Z9,$a])=>`(@Z9 _ _ _ _ _ $a)
|`(#[ZaF,$a,$b])=>`(@ZaF _ _ _ _ $a $b (by rfl) (by decide) (by decide))
|`(#[gT,$a,$b,$c])=>`(@gT _ $a _ _ _ $b _ $c (by rfl) (by rfl) (by rfl) (by rfl))
|`(#[ZI,$a,$b])=>`(@ZI _ _ _ _ _ $a $b (by rfl))
|`(#[cw,$a,$b])=>`(@cw _ _ _ _ _ _ _ _ _ _ _ $a $b rfl (by ac_rfl) (by rfl) (by decide) (by decide))
|`(#[Zbj,$a,$b,$c,$d])=>`(@Zbj _ _ _ _ _ _ _ _ $a rfl $b $c $d (by intro _;rfl))
|`(#[Z2,$a,$b,$c])=>`(@Z2 _ _ $a _ $b rfl $c (by trivial))
|`(#[Zau,$a])=>`(@Zau _ _ _ _ $a (by rfl))
|`(#[Zb7,$a,$b,$c,$d,$e,$f,$g])=>`(@Zb7 _ _ _ _ _ $a _ _ _ _ _ _ _ _ _ _ _ _ $b rfl (Or.inl rfl) $c rfl rfl rfl $d $e $f $g (by rfl) (by intro _;rfl) (by trivial))
theorem xw4{α0:Type _}{α1:Type _}{α2:Type _}{α3:Type _}{p:α0→α1→α2→α3→Prop}(a0:α0)(a1:α1)(a2:α2)(a3:α3)(h:p a0 a1 a2 a3):∃a0 a1 a2 a3,p a0 a1 a2 a3:=⟨a0,a1,a2,a3,h⟩
theorem Zjv{α0:Type _}{α1:Type _}{α2:Type _}{α3:Type _}{α4:Type _}{α5:Type _}{α6:Type _}{α7:Type _}{α8:Type _}{α9:Type _}{p:α0→α1→α2→α3→α4→α5→α6→α7→α8→α9→Prop}(a0:α0)(a1:α1)(a2:α2)(a3:α3)(a4:α4)(a5:α5)(a6:α6)(a7:α7)(a8:α8)(a9:α9)(h:p a0 a1 a2 a3 a4 a5 a6 a7 a8 a9):∃a0 a1 a2 a3 a4 a5 a6 a7 a8 a9,p a0 a1 a2 a3 a4 a5 a6 a7 a8 a9:=⟨a0,a1,a2,a3,a4,a5,a6,a7,a8,a9,h⟩
theorem ZiD{α0:Type _}{α1:Type _}{α2:Type _}{α3:Type _}{α4:Type _}{α5:Type _}{α6:Type _}{α7:Type _}{α8:Type _}{α9:Type _}{α10:Type _}{p:α0→α1→α2→α3→α4→α5→α6→α7→α8→α9→α10→Prop}(a0:α0)(a1:α1)(a2:α2)(a3:α3)(a4:α4)(a5:α5)(a6:α6)(a7:α7)(a8:α8)(a9:α9)(a10:α10)(h:p a0 a1 a2 a3 a4 a5 a6 a7 a8 a9 a10):∃a0 a1 a2 a3 a4 a5 a6 a7 a8 a9 a10,p a0 a1 a2 a3 a4 a5 a6 a7 a8 a9 a10:=⟨a0,a1,a2,a3,a4,a5,a6,a7,a8,a9,a10,h⟩
def hdS:List Stmt→Stmt
 | a::_=>a
 | []=>.Pass ⟨0,0,0,0⟩
abbrev Zal:List Stmt:=PySem.Challenge.pw_mergetree_k08_two_rows_merged.main.body
abbrev Za4:Stmt:=hdS (Ztl Zal)
abbrev Za2:Stmt:=hdS (Zt2 Zal)
abbrev ZU:Stmt:=hdS (Zt2 (Ztl Zal))
abbrev Zae:Stmt:=hdS (Zt4 Zal)
abbrev ZV:Stmt:=hdS (Zt4 (Zt2 Zal))
abbrev Za7:Stmt:=hdS (Zt8 Zal)
abbrev ZaB:Stmt:=hdS (Zt8 (Ztl Zal))
abbrev ZaK:Stmt:=hdS (Zt8 (Zt2 Zal))
abbrev Zab:Stmt:=hdS (Zt8 (Zt2 (Ztl Zal)))
abbrev ZaA:Stmt:=hdS (Zt8 (Zt4 Zal))
abbrev ZaL:Stmt:=hdS (Zt8 (Zt4 (Ztl Zal)))
abbrev Zai:Stmt:=hdS (Zt8 (Zt4 (Zt2 Zal)))
abbrev Zaa:Stmt:=hdS (Zt8 (Zt4 (Zt2 (Ztl Zal))))
abbrev ZX:Stmt:=hdS (Zt16 Zal)
abbrev Z6:Stmt:=hdS (Zt16 (Ztl Zal))
theorem Zdm:ZB ["_law_cell", "_law_k", "_law_m"] ["_law_cell", "_law_k"] (Ze Za7):=⟨rfl,rfl,rfl,by ac_rfl,rfl,by ac_rfl,by ac_rfl⟩
theorem Zcp:ZB ["_law_script", "_law_k", "_law_cell"] ["_law_script", "_law_k"] (Ze ZaB):=⟨rfl,rfl,rfl,by ac_rfl,rfl,by ac_rfl,by ac_rfl⟩
theorem ZcG:ZB ["_law_left_here", "_law_many", "_law_digit"] ["_law_left_here", "_law_many"] (Ze ZaK):=⟨rfl,rfl,rfl,by ac_rfl,rfl,by ac_rfl,by ac_rfl⟩
theorem Zcb:ZB ["_law_left_here", "_law_some"] ["_law_left_here"] (Ze Zab):=⟨rfl,rfl,rfl,by ac_rfl,rfl,by ac_rfl,by ac_rfl⟩
theorem Zds:ZB ["_law_left_here", "_law_stems_here", "_law_tail"] ["_law_left_here", "_law_stems_here"] (Ze ZaA):=⟨rfl,rfl,rfl,by ac_rfl,rfl,by ac_rfl,by ac_rfl⟩
theorem Zaw:ZB ["one", "other", "far", "at"] ["one", "other", "far"] (Ze ZU):=⟨rfl,rfl,rfl,by ac_rfl,rfl,by ac_rfl,by ac_rfl⟩
theorem Zgs:ZB ["one", "other"] ["one", "other"] (Ze Za4):=⟨rfl,rfl,rfl,by ac_rfl,rfl,by ac_rfl,by ac_rfl⟩
theorem Zcq:ZB ["_law_found", "_law_due"] ["_law_found", "_law_due"] (Ze Zai):=⟨rfl,rfl,rfl,by ac_rfl,rfl,by ac_rfl,by ac_rfl⟩
theorem ZaD:ZB ["_law_left_here", "_law_stems_here", "_law_most", "_law_found", "_law_k", "_law_key_here"] ["_law_left_here", "_law_stems_here", "_law_most"] (Ze ZaL):=⟨rfl,rfl,rfl,by ac_rfl,rfl,by ac_rfl,by ac_rfl⟩
theorem ZdI:ZB ["one", "other", "at"] ["one", "other", "at"] (Ze Zae):=⟨rfl,rfl,rfl,by ac_rfl,rfl,by ac_rfl,by ac_rfl⟩
theorem Zgi:ZB ["one", "other"] ["one", "other"] (Ze Za2):=⟨rfl,rfl,rfl,by ac_rfl,rfl,by ac_rfl,by ac_rfl⟩
theorem ZD:ZB ["one", "other", "told", "left", "right", "place"] ["one", "other"] (Ze ZV):=⟨rfl,rfl,rfl,by ac_rfl,rfl,by ac_rfl,by ac_rfl⟩
theorem ZaN:ZB ["_law_rows", "_law_found", "_law_n", "_law_row"] ["_law_rows"] (Ze Zaa):=⟨rfl,rfl,rfl,by ac_rfl,rfl,by ac_rfl,by ac_rfl⟩
theorem ZC:ZB ["_law_left_here", "_law_stems_here", "_law_most", "_law_one", "_law_other", "_law_way"] ["_law_left_here"] (Ze ZX):=⟨rfl,rfl,rfl,by ac_rfl,rfl,by ac_rfl,by ac_rfl⟩
theorem Zaf:ZB ["_law_script", "_law_k", "_law_left_here", "_law_turn", "_law_one", "_law_other", "_law_due", "_law_kept", "_law_again", "_law_found", "_law_about", "_law_keys_here"] ["_law_script"] (Ze Z6):=⟨rfl,rfl,rfl,by ac_rfl,rfl,by ac_rfl,by ac_rfl⟩
abbrev zsc(l:List (Str×NameKind)):Scope:={ kind:=.function,names:=l,isGenerator:=false,isCoroutine:=false,more:=[] }
def Zg8:Scope:=zsc [(".0",.«local»),("_law_k",.«local»),("_law_pick",.globalImplicit),("_law_left_here",.free),("_law_some",.free)]
theorem ZfY:ZE ["_law_left_here", "_law_some"] ["_law_left_here", "_law_some", "_law_k"] (Ze Zab) Zg8:=⟨rfl,rfl,by ac_rfl,by ac_rfl,by ac_rfl,by decide,by ac_rfl,by ac_rfl⟩
def ZgL:Scope:=zsc [(".0",.«local»),("_law_k",.«local»),("_law_pick",.globalImplicit),("_law_left_here",.free)]
theorem ZgK:ZE ["_law_left_here", "_law_stems_here", "_law_tail"] ["_law_left_here", "_law_stems_here", "_law_tail", "_law_k"] (Ze ZaA) ZgL:=⟨rfl,rfl,by ac_rfl,by ac_rfl,by ac_rfl,by decide,by ac_rfl,by ac_rfl⟩
def ZgQ:Scope:=zsc [(".0",.«local»),("_law_one",.«local»),("_law_other",.«local»),("_law_same",.globalImplicit)]
theorem Zfb:ZE ["_law_found", "_law_due"] ["_law_found", "_law_due", "_law_one", "_law_other"] (Ze Zai) ZgQ:=⟨rfl,rfl,by ac_rfl,by ac_rfl,by ac_rfl,by decide,by ac_rfl,by ac_rfl⟩
def ZgB:Scope:=zsc [(".0",.«local»),("_law_place",.«local»),("_law_key_here",.«local»),("_law_n",.free)]
theorem Zfs:ZE ["_law_rows", "_law_found", "_law_n", "_law_row"] ["_law_rows", "_law_found", "_law_n", "_law_row", "_law_place", "_law_key_here"] (Ze Zaa) ZgB:=⟨rfl,rfl,by ac_rfl,by ac_rfl,by ac_rfl,by decide,by ac_rfl,by ac_rfl⟩
def Zg0:Scope:=zsc [(".0",.«local»),("_law_key_here",.«local»),("_law_n",.«local»),("_law_place",.«local»)]
theorem Zfl:ZE ["_law_script", "_law_k", "_law_left_here", "_law_turn", "_law_one", "_law_other", "_law_due", "_law_kept", "_law_again", "_law_found", "_law_about", "_law_keys_here"] ["_law_script", "_law_k", "_law_left_here", "_law_turn", "_law_one", "_law_other", "_law_due", "_law_kept", "_law_again", "_law_found", "_law_about", "_law_keys_here", "_law_key_here", "_law_n", "_law_place"] (Ze Z6) Zg0:=⟨rfl,rfl,by ac_rfl,by ac_rfl,by ac_rfl,by decide,by ac_rfl,by ac_rfl⟩
def Zhk:Scope:=zsc [(".0",.«local»),("_law_n",.«local»),("_law_place",.«local»),("_law_one",.free),("_law_other",.free)]
theorem Zd9:ZE ["_law_script", "_law_k", "_law_left_here", "_law_turn", "_law_one", "_law_other", "_law_due", "_law_kept", "_law_again", "_law_found", "_law_about", "_law_keys_here"] ["_law_script", "_law_k", "_law_left_here", "_law_turn", "_law_one", "_law_other", "_law_due", "_law_kept", "_law_again", "_law_found", "_law_about", "_law_keys_here", "_law_n", "_law_place"] (Ze Z6) Zhk:=⟨rfl,rfl,by ac_rfl,by ac_rfl,by ac_rfl,by decide,by ac_rfl,by ac_rfl⟩
def ZgF:Scope:=zsc [(".0",.«local»),("_law_place",.«local»)]
theorem Zij:ZE ["_law_script", "_law_k", "_law_left_here", "_law_turn", "_law_one", "_law_other", "_law_due", "_law_kept", "_law_again", "_law_found", "_law_about", "_law_keys_here"] ["_law_script", "_law_k", "_law_left_here", "_law_turn", "_law_one", "_law_other", "_law_due", "_law_kept", "_law_again", "_law_found", "_law_about", "_law_keys_here", "_law_place"] (Ze Z6) ZgF:=⟨rfl,rfl,by ac_rfl,by ac_rfl,by ac_rfl,by decide,by ac_rfl,by ac_rfl⟩
def Zg3:Scope:=zsc [(".0",.«local»),("_law_place",.«local»)]
theorem ZhG:ZE ["_law_script", "_law_k", "_law_left_here", "_law_turn", "_law_one", "_law_other", "_law_due", "_law_kept", "_law_again", "_law_found", "_law_about", "_law_keys_here"] ["_law_script", "_law_k", "_law_left_here", "_law_turn", "_law_one", "_law_other", "_law_due", "_law_kept", "_law_again", "_law_found", "_law_about", "_law_keys_here", "_law_place"] (Ze Z6) Zg3:=⟨rfl,rfl,by ac_rfl,by ac_rfl,by ac_rfl,by decide,by ac_rfl,by ac_rfl⟩
structure Bt (mg:Str→Option Value):Prop where
 n_abs:mg "abs" = none
 n_all:mg "all" = none
 n_bool:mg "bool" = none
 n_enumerate:mg "enumerate" = none
 n_int:mg "int" = none
 n_isinstance:mg "isinstance" = none
 n_len:mg "len" = none
 n_list:mg "list" = none
 n_max:mg "max" = none
 n_min:mg "min" = none
 n_range:mg "range" = none
 n_sorted:mg "sorted" = none
 n_str:mg "str" = none
 n_tuple:mg "tuple" = none
 n_zip:mg "zip" = none
structure Zbg (K:PySem.W.Frag) (mg:Str→Option Value):Prop where
 b:Bt mg
 t_alike:Top K mg "alike" Za4 ["one", "other"]
 t_liken:Top K mg "liken" Za2 ["one", "other"]
 t_alike_from:Top K mg "alike_from" ZU ["one", "other", "far"]
 t_order_at:Top K mg "order_at" Zae ["one", "other", "at"]
 t_two_merged:Top K mg "two_merged" ZV ["one", "other"]
 t_l_mix:Top K mg "_law_mix" Za7 ["_law_cell", "_law_k"]
 t_l_left:Top K mg "_law_left" ZaB ["_law_script", "_law_k"]
 t_l_pick:Top K mg "_law_pick" ZaK ["_law_left_here", "_law_many"]
 t_l_stems:Top K mg "_law_stems" Zab ["_law_left_here"]
 t_l_key:Top K mg "_law_key" ZaA ["_law_left_here", "_law_stems_here"]
 t_l_keys:Top K mg "_law_keys" ZaL ["_law_left_here", "_law_stems_here", "_law_most"]
 t_l_same:Top K mg "_law_same" Zai ["_law_found", "_law_due"]
 t_l_order:Top K mg "_law_order" Zaa ["_law_rows"]
 t_l_two_rows:Top K mg "_law_two_rows" ZX ["_law_left_here"]
def ZL(H:Hp)(p:Addr)(c:Int):Prop:=∃a b:Int,H p=some (.lst [.int a,.int b,.int c])∧0≤c
def But(p:Addr)(H H':Hp):Prop:=∀b o,H b=some o→b≠p→H' b=some o
theorem But.trans{p:Addr}{H H1 H2:Hp}(a:But p H H1)(b:But p H1 H2):But p H H2:=fun c o h n=>b c o (a c o h n) n
theorem But.same{p:Addr}{H H1:Hp}(a:Zn H H1):But p H H1:=fun c o h _=>a c o h
theorem Zh{H:Hp}{p:Addr}(h:H p=none)(o:HO):Zn H (upd H p o):=fun b u q=>by rw[Zf (Zc q h)];exact q
theorem ZaU{n:Nat}(h:n≤1000):n≤sizeLine:=Nat.le_of_lt (Zaj h)
def ZfF:Sp:=fun vs H Q _=>∃a k:Int,vs=[.int a,.int k] ∧ -(2 ^ 62)<k∧k<2 ^ 62∧∀r:Int,0≤r→r<2000000000→Q (.int r) H
def Zgp(K:PySem.W.Frag):Sp:=fun vs H Q _=>∃ (a:Addr) (ns:List Int) (k:Int),vs=[.ref a,.int k]∧SqL K H a (ns.map V.int)∧ns.length≤63∧0≤k∧k<100 ∧
 ∀ (p:Addr) (H':Hp),H p=none→ZL H' p 0→Zn H H'→Q (.ref p) H'
def ZbL:Sp:=fun vs H Q _=>∃ (p:Addr) (c m:Int),vs=[.ref p,.int m]∧ZL H p c∧c<2 ^ 60∧0<m∧m<1000000 ∧
 ∀ (r:Int) (H':Hp),0≤r→r<m→ZL H' p (c+1)→But p H H'→Q (.int r) H'
theorem ZhP{ns:List Int}{k:Int}(h0:0≤k)(h:k<(ns.length:Int)):∃v:Int,atI (ns.map V.int) k=some (.int v):=by
 have hk:k.toNat<ns.length:=by omega
 have ek:k=((k.toNat:Nat):Int):=by omega
 have q:atI (ns.map V.int) ((k.toNat:Nat):Int)=some (.int ns[k.toNat]):=ZaQ (by rw[Qu,Qa hk]<;>rfl)
 rw[← ek]at q
 exact⟨_,q⟩
theorem Zef{ss:List Str}{k:Int}(h0:0≤k)(h:k<(ss.length:Int)):∃s∈ss,atI (ss.map V.str) k=some (.str s):=by
 have hk:k.toNat<ss.length:=by omega
 have ek:k=((k.toNat:Nat):Int):=by omega
 have q:atI (ss.map V.str) ((k.toNat:Nat):Int)=some (.str ss[k.toNat]):=ZaQ (by rw[Qu,Qa hk]<;>rfl)
 rw[← ek]at q
 exact⟨_,QX hk,q⟩
theorem Zhx(b:Bool):-(2 ^ 64)<(if b=true then (1:Int) else 0)∧(if b=true then (1:Int) else 0)<2 ^ 64:=by cases b<;>decide
theorem Zbv{z:Str}{k:Int}(h0:0≤k)(h:k<(z.length:Int)):∃c:Nat,z.cps.toList[k.toNat]? = some c∧atI z.cps.toList k=some c:=by
 have hl:z.cps.toList.length=z.length:=by simp[Str.length]
 have hk:k.toNat<z.cps.toList.length:=by omega
 have ek:k=((k.toNat:Nat):Int):=by omega
 have q:atI z.cps.toList ((k.toNat:Nat):Int)=some z.cps.toList[k.toNat]:=ZaQ (Qa hk)
 rw[← ek]at q
 exact⟨_,Qa hk,q⟩
theorem ZfK(sep:Str)(ys:List Str):(Txt.join sep ys).length≤(ys.map (·.length)).sum+ys.length*sep.length:=by
 have e:Txt.join sep ys=Str.join sep ys:=by simpa using join_plain_closes sep ys
 rw[e]
 exact StrLaws.join_length_le sep ys
theorem Zdw:∀ss:List Str,(∀s∈ss,s.length≤1)→(ss.map (·.length)).sum≤ss.length
 | [],_=>Ql _
 | s::r,h=>by
  have h1:=h s Qq
  have h2:=Zdw r fun x hx=>h x (Qg _ hx)
  rw[Qv,List.sum_cons,Q5]
  omega
def lcp:List Nat→List Nat→Nat
 | a::r,b::s=>if a=b then lcp r s+1 else 0
 | _,_=>0
theorem Zc7:∀ (x y:List Nat),lcp x y≤x.length∧lcp x y≤y.length
 | [],_=>⟨QA _,QA _⟩
 | _::_,[]=>⟨QA _,QA _⟩
 | a::r,b::s=>by
  have h:=Zc7 r s
  unfold lcp
  split
  ·exact⟨Nat.succ_le_succ h.1,Nat.succ_le_succ h.2⟩
  ·exact⟨QA _,QA _⟩
theorem Zgk:∀ (x y:List Nat) (k:Nat),k≤lcp x y→∀a,x[k]? = some a→y[k]? = some a→k+1≤lcp x y
 | [],_,k,_,a,h,_=>by simp at h
 | _::_,[],k,_,a,_,h=>by simp at h
 | a::r,b::s,0,_,c,h1,h2=>by
  simp at h1 h2
  unfold lcp
  rw[if_pos (by rw[h1,h2])]
  omega
 | a::r,b::s,k+1,h,c,h1,h2=>by
  unfold lcp at h ⊢
  by_cases e:a=b
  ·rw[if_pos e]at h ⊢
   have:=Zgk r s k (by omega) c (by simpa using h1) (by simpa using h2)
   omega
  ·rw[if_neg e]at h;omega
theorem Zgl:∀ (x y:List Nat) (k:Nat),k<lcp x y→x[k]? = y[k]?
 | [],_,k,h=>by unfold lcp at h;omega
 | _::_,[],k,h=>by unfold lcp at h;omega
 | a::r,b::s,0,h=>by
  unfold lcp at h
  by_cases e:a=b
  ·simp[e]
  ·rw[if_neg e]at h;omega
 | a::r,b::s,k+1,h=>by
  unfold lcp at h
  by_cases e:a=b
  ·rw[if_pos e]at h
   simpa using Zgl r s k (by omega)
  ·rw[if_neg e]at h;omega
theorem Zda(x y:List Nat)(k:Nat)(h:k≤lcp x y)(n:x.length≤k∨y.length≤k∨∃a b,x[k]? = some a∧y[k]? = some b∧a≠b):lcp x y=k:=by
 have l:=Zc7 x y
 rcases n with n|n|⟨a,b,h1,h2,ne⟩
 ·omega
 ·omega
 ·by_cases q:k<lcp x y
  ·have:=Zgl x y k q
   rw[h1,h2]at this
   exact absurd (Qp this) ne
  ·omega
abbrev cds(z:Str):List Nat:=z.cps.toList
def AZ(z:Str):Prop:=∀c∈cds z,97≤c∧c≤122
theorem Zhc(x y:Str):cds (x++y)=cds x++cds y:=by
 show (x++y).cps.toList=_
 rw[PySem.Str.cps_append]
 simp
theorem AZ.app{x y:Str}(a:AZ x)(b:AZ y):AZ (x++y):=fun c h=>by
 rw[Zhc]at h
 exact(Qn.mp h).elim (a c) (b c)
theorem AZ.nil:AZ "":=by unfold AZ cds;ac_rfl
theorem AZ.join:∀ys:List Str,(∀s∈ys,AZ s)→AZ (Str.join "" ys)
 | [],_=>fun c h=>by cases (show c∈([]:List Nat) from h)
 | [x],h=>h x (by simp)
 | x::y::r,h=>((h x (by simp)).app AZ.nil).app (AZ.join (y::r) fun s hs=>h s (Qg _ hs))
theorem AZ.joinT(ys:List Str)(h:∀s∈ys,AZ s):AZ (Txt.join "" ys):=by
 have e:Txt.join "" ys=Str.join "" ys:=by simpa using join_plain_closes "" ys
 rw[e]
 exact AZ.join ys h
theorem AZ.one{z:Str}(a:AZ z){k:Nat}{c:Nat}(h:z.cps.toList[k]? = some c):AZ ⟨#[c]⟩:=fun d hd=>by
 have e:d=c:=by simpa using hd
 rw[e]
 exact a c (QR h)
theorem AZ.ok{z:Str}(a:AZ z):PyData.strOk z=true:=by
 unfold PyData.strOk
 rw[Array.all_eq_true]
 intro i hi
 have:=a z.cps[i] (by simp)
 exact decide_eq_true (by omega)
theorem Ziv:AZ "ababcz":=by unfold AZ cds;ac_rfl
def ZcQ:Sp:=fun vs H Q _=>∃x y:Str,vs=[.str x,.str y]∧x.length≤1000∧y.length≤1000∧Q (.int (lcp (cds x) (cds y))) H
def Za0:Sp:=fun vs H Q _=>∃ (x y:Str) (far:Nat),vs=[.str x,.str y,.int far]∧x.length≤1000∧y.length≤1000∧far≤lcp (cds x) (cds y)∧Q (.int (lcp (cds x) (cds y))) H
def IsD(H:Hp):Nat→V→V→Prop
 | 0,_,_=>False
 | n+1,x,y=>(x=y∧(x=.non∨(∃b,x=.bl b)∨(∃i,x=.int i)∨∃s,x=.str s)) ∨
   (∃ (p q:Addr) (xs ys:List V),x=.ref p∧y=.ref q∧((H p=some (.lst xs)∧H q=some (.lst ys))∨(H p=some (.tup xs)∧H q=some (.tup ys)))∧xs.length=ys.length∧xs.length≤1000∧∀ (i:Nat) (x y:V),xs[i]? = some x→ys[i]? = some y→IsD H n x y)
theorem IsD.mono{H H':Hp}(s:Zn H H'):∀ {n:Nat} {x y:V},IsD H n x y→IsD H' n x y
 | 0,_,_,h=>h.elim
 | n+1,x,y,h=>by
  rcases h with h|⟨p,q,xs,ys,e1,e2,h,hl,hz,hi⟩
  ·exact .inl h
  ·refine .inr ⟨p,q,xs,ys,e1,e2,?_,hl,hz,fun i x y a b=>(hi i x y a b).mono s⟩
   rcases h with⟨a,b⟩|⟨a,b⟩
   ·exact .inl ⟨s _ _ a,s _ _ b⟩
   ·exact .inr ⟨s _ _ a,s _ _ b⟩
def ZfR(n:Nat):Sp:=fun vs H Q _=>∃x y:V,vs=[x,y]∧IsD H n x y∧∀H',Zn H H'→Q (.bl true) H'
section
variable (K:PySem.W.Frag)
open PySem.W
theorem Zff:kitAny K (.type "int") (["list", "tuple"].map Value.type)=some false:=by unfold kitAny kitOne kitCls;rfl
theorem ZfL:kitAny K (.type "bool") (["list", "tuple"].map Value.type)=some false:=by unfold kitAny kitOne kitCls;rfl
theorem ZeU:kitAny K (.type "str") (["list", "tuple"].map Value.type)=some false:=by unfold kitAny kitOne kitCls;rfl
theorem Ze5:kitAny K (.type "NoneType") (["list", "tuple"].map Value.type)=some false:=by unfold kitAny kitOne kitCls;rfl
theorem ZeR:kitAny K (.type "list") (["list", "tuple"].map Value.type)=some true:=by unfold kitAny kitOne kitCls;rfl
theorem Zfr:kitAny K (.type "tuple") (["list", "tuple"].map Value.type)=some true:=by unfold kitAny kitOne kitCls;rfl
theorem ZcL:kitOne K (.type "list") (.type "list")=some true:=by unfold kitOne kitCls;rfl
theorem Zcy:kitOne K (.type "list") (.type "tuple")=some false:=by unfold kitOne kitCls;rfl
theorem ZcC:kitOne K (.type "tuple") (.type "list")=some false:=by unfold kitOne kitCls;rfl
theorem ZcB:kitOne K (.type "tuple") (.type "tuple")=some true:=by unfold kitOne kitCls;rfl
theorem Ze1:kitOne K (.type "int") (.type "str")=some false:=by unfold kitOne kitCls;rfl
theorem ZdK:kitOne K (.type "int") (.type "bool")=some false:=by unfold kitOne kitCls;rfl
theorem Zfi:kitOne K (.type "int") (.type "int")=some true:=by unfold kitOne kitCls;rfl
theorem ZbM:kitOne K (.type "str") (.type "str")=some true:=by unfold kitOne kitCls;rfl
theorem Zcx:kitOne K (.type "NoneType") (.type "str")=some false:=by unfold kitOne kitCls;rfl
theorem Zgn:kitOne K (.type "bool") (.type "str")=some false:=by unfold kitOne kitCls;rfl
theorem Zel:kitOne K (.type "bool") (.type "bool")=some true:=by unfold kitOne kitCls;rfl
end
section
variable {P:Program} {w:World} {K:PySem.W.Frag} {mg:Str→Option Value} {base:Heap} {cRow cMerge:Addr}
theorem Zie(T:Zbg K mg):Df P w K mg base 1 "_law_mix" ["_law_cell", "_law_k"] ZfF:=by
 refine T.t_l_mix.df Zdm (fun vs H Q E h=>?_) (fun cdv f A outer s H vs Q E hr h=>?_)
 ·obtain⟨a,k,rfl,_⟩:=h
  rfl
 obtain⟨a,k,rfl,k1,k2,q⟩:=h
 refine⟨_,#[Zg,#[ZA,2,Zdm.nd,(Or.inl rfl),#[ZP,Zb5,#[ZP,ZbK,#[ZP,Zbm,#[ZP,Zbm,#[ZP,Zb5,‹0›,#[Zi]],#[ZP,ZbK,#[ZP,ZbK,‹1›,‹1›],#[Zi]]],#[Zi]],#[Zi]],#[Zi]]],#[Zk,#[Zy,#[ZP,Zb5,#[ZP,ZbK,‹2›,‹2›],#[Zi]]]]],?_⟩
 refine⟨_,rfl,_,_,rfl,rfl,(by show (0:Int)<_;decide),_,rfl,_,rfl,_,_,rfl,rfl,.inl ⟨by omega,by omega⟩,_,_,rfl,rfl,.inr ⟨by decide,by decide⟩,_,_,rfl,rfl,_,_,rfl,rfl,_,_,rfl,rfl,.inr ⟨by decide,by decide⟩,_,_,rfl,rfl,(by show (0:Int)<_;decide),?_⟩
 have m0:=Int.emod_nonneg ((a % 2147483629+k*k*7919+11)*48271) (show (2147483647:Int)≠0 by decide)
 have m1:=Qav ((a % 2147483629+k*k*7919+11)*48271) (show (0:Int)<2147483647 by decide)
 refine⟨_,rfl,_,rfl,_,_,rfl,rfl,.inl ⟨by omega,by omega⟩,_,_,rfl,rfl,(by show (0:Int)<_;decide),?_⟩
 exact q _ (Int.emod_nonneg _ (by decide)) (Int.lt_trans (Qav _ (by decide)) (by decide))
theorem Zg1(T:Zbg K mg):Df P w K mg base 1 "_law_left" ["_law_script", "_law_k"] (Zgp K):=by
 refine T.t_l_left.df Zcp (fun vs H Q E h=>?_) (fun cdv f A outer s H vs Q E hr h=>?_)
 ·obtain⟨a,ns,k,rfl,_⟩:=h
  rfl
 obtain⟨a,ns,k,rfl,hS,h63,k0,k1,q⟩:=h
 refine⟨_,#[Zg,#[ZA,2,Zcp.nd,(Or.inl rfl),(@ZdW _ _ _ _ _ _ _ _ #[Zs,ZdP,‹1›,#[Zj,(ZbT K),T.b.n_len,Qy,#[Za,‹0›,#[Zb]]],(Zq _)] #[ZW,(ixL K),‹0›,‹1›] #[Zi])],#[Zk,#[Zy,#[Zam,#[Za,#[ZP,ZbK,#[Zj,ZdC,T.b.n_abs,boot_abs,#[Za,‹2›,#[Zb]]],#[ZaI,Zcz,T.b.n_int,boot_int,#[Za,#[ZaM,Zjm,#[Zj,ZdC,T.b.n_abs,boot_abs,#[Za,‹2›,#[Zb]]],#[ZP,Zh9,#[Zi],#[Zi]],(Zq _)],#[Zb]]]],#[Za,#[ZP,Zbm,‹2›,#[ZP,ZbK,#[Zi],‹1›]],#[Za,#[Zi],#[Zb]]]]]]]],?_⟩
 have hl:(ns.map V.int).length=ns.length:=Qb _
 have pw:ZiN 10 18:=⟨by decide,by decide,by decide⟩
 refine⟨_,rfl,_,rfl,a,_,rfl,.inl hS,_,_,rfl,rfl,_,rfl,?_⟩
 refine Zbl (fun c=>?_) (fun c=>?_)
 ·have c':k<(((ns.map V.int).length:Nat):Int):=of_decide_eq_true c
  rw[hl]at c'
  obtain⟨v,hv⟩:=ZhP (ns:=ns) k0 c'
  refine⟨_,rfl,_,rfl,xw4 a _ _ _ ⟨rfl,rfl,hS,hv,?_⟩⟩
  refine⟨_,rfl,_,rfl,_,rfl,_,rfl,_,_,rfl,rfl,pw,_,_,rfl,rfl,.inr ⟨_,rfl,_,_,rfl,rfl,.inr (Zhx _),_,rfl,_,rfl,_,_,rfl,rfl,.inl ⟨by decide,by decide⟩,_,_,rfl,rfl,(by show 3≤sizeLine;decide),fun p hp=>?_⟩⟩
  exact q p _ hp ⟨_,_,Zd,Int.le_refl _⟩ (Zh hp _)
 ·refine⟨_,rfl,_,rfl,_,rfl,_,rfl,_,_,rfl,rfl,pw,_,_,rfl,rfl,.inr ⟨_,rfl,_,_,rfl,rfl,.inr (Zhx _),_,rfl,_,rfl,_,_,rfl,rfl,.inl ⟨by decide,by decide⟩,_,_,rfl,rfl,(by show 3≤sizeLine;decide),fun p hp=>?_⟩⟩
  exact q p _ hp ⟨_,_,Zd,Int.le_refl _⟩ (Zh hp _)
theorem Zgy(T:Zbg K mg)(f_l_mix:Df P w K mg base 1 "_law_mix" ["_law_cell", "_law_k"] ZfF):Df P w K mg base 2 "_law_pick" ["_law_left_here", "_law_many"] ZbL:=by
 refine T.t_l_pick.df ZcG (fun vs H Q E h=>?_) (fun cdv f A outer s H vs Q E hr h=>?_)
 ·obtain⟨p,c,m,rfl,_⟩:=h
  rfl
 obtain⟨p,c,m,rfl,⟨a,b,hp,c0⟩,c1,m0,m1,q⟩:=h
 refine⟨_,#[Zg,#[Zeb,#[ZP,Zbm,#[ZW,(ixL K),‹0›,#[Zi]],#[Zi]],(@Zgc _ _ _ _ _ _ _ ‹0› #[Zi] Zdv (by intro _;rfl))],#[Zg,#[Zan,#[Zs,Ziz,#[ZW,(ixL K),‹0›,#[Zi]],#[Zi],(Zq _)],#[Zg,#[ZA,2,ZcG.nd,(Or.inl rfl),#[ZP,Zb5,#[ZW,(ixL K),‹0›,#[Zi]],‹1›]],#[Zg,#[Zeb,#[ZP,Zer,#[ZW,(ixL K),‹0›,#[Zi]],‹1›],(@Zgc _ _ _ _ _ _ _ ‹0› #[Zi] Zdv (by intro _;rfl))],#[Zk,#[Zy,‹2›]]]],(@ZO _)],#[Zk,#[Zy,#[ZP,Zb5,#[ZP,Zer,#[ZG,f_l_mix,hr,#[Za,#[ZG,f_l_mix,hr,#[Za,#[ZW,(ixL K),‹0›,#[Zi]],#[Za,#[ZW,(ixL K),‹0›,#[Zi]],#[Zb]]],(by rfl)],#[Za,#[ZP,Zbm,#[ZW,(ixL K),‹0›,#[Zi]],#[Zi]],#[Zb]]],(by rfl)],#[Zi]],‹1›]]]]],?_⟩
 have u1:(upd H p (.lst [.int a,.int b,.int (c+1)])) p=some (.lst [.int a,.int b,.int (c+1)]):=Zd
 refine⟨_,rfl,xw4 p _ _ _ ⟨rfl,rfl,SqL.of hp,rfl,_,_,rfl,rfl,_,rfl,p,_,_,2,rfl,rfl,hp,rfl,?_⟩⟩
 refine⟨_,rfl,xw4 p _ _ _ ⟨rfl,rfl,SqL.of u1,rfl,_,_,rfl,rfl,_,rfl,?_⟩⟩
 refine Zbl (fun d=>?_) (fun d=>?_)
 ·refine⟨_,rfl,xw4 p _ _ _ ⟨rfl,rfl,SqL.of u1,rfl,_,rfl,_,_,rfl,rfl,m0,?_⟩⟩
  refine⟨_,rfl,xw4 p _ _ _ ⟨rfl,rfl,SqL.of u1,rfl,_,rfl,_,_,rfl,rfl,⟨m0,by omega⟩,_,rfl,p,_,_,0,rfl,rfl,u1,rfl,?_⟩⟩
  refine⟨_,rfl,?_⟩
  refine q _ _ (Int.emod_nonneg _ (by omega)) (Qav _ m0) ⟨a / m,b,Zd,by omega⟩ fun e o h n=>?_
  rw[Zf n,Zf n]
  exact h
 ·refine⟨_,rfl,xw4 p _ _ _ ⟨rfl,rfl,SqL.of u1,rfl,_,rfl,xw4 p _ _ _ ⟨rfl,rfl,SqL.of u1,rfl,_,_,rfl,by omega,by omega,fun r r0 r1=>?_⟩⟩⟩
  refine⟨_,rfl,xw4 p _ _ _ ⟨rfl,rfl,SqL.of u1,rfl,_,_,rfl,rfl,_,_,rfl,by omega,by omega,fun r' r0' r1'=>?_⟩⟩
  refine⟨_,_,rfl,rfl,⟨by decide,by decide⟩,_,rfl,_,_,rfl,rfl,m0,?_⟩
  refine q _ _ (Int.emod_nonneg _ (by omega)) (Qav _ m0) ⟨a,b,Zd,by omega⟩ fun e o h n=>?_
  rw[Zf n]
  exact h
def Zad:List Str:=["", "a", "ab", "aba", "abab", "b", "zebra", "aaaaaaaa", "knowswho", "z", "abababababab",Txt.mul "a" 24]
theorem Zdq:∀s∈Zad,s.length≤24:=by ac_rfl
theorem Zd0:∀s∈Zad,AZ s:=by unfold AZ cds;ac_rfl
def ZcY:Sp:=fun vs H Q _=>∃ (p:Addr) (c:Int),vs=[.ref p]∧ZL H p c∧c<2 ^ 50 ∧
 ∀ (l:Addr) (ss:List Str) (c':Int) (H':Hp),H l=none→H' l=some (.lst (ss.map V.str))→1≤ss.length→ss.length≤4→(∀s∈ss,s.length≤24∧AZ s)→ZL H' p c'→c≤c'→c'≤c+5→But p H H'→Q (.ref l) H'
def Zf3:Sp:=fun vs H Q _=>∃ (p l:Addr) (c:Int) (ss:List Str),vs=[.ref p,.ref l]∧ZL H p c∧c<2 ^ 50∧H l=some (.lst (ss.map V.str))∧1≤ss.length∧ss.length≤4∧(∀s∈ss,s.length≤24∧AZ s) ∧
 ∀ (z:Str) (c':Int) (H':Hp),z.length≤28→AZ z→ZL H' p c'→c≤c'→c'≤c+6→But p H H'→Q (.str z) H'
theorem ZfC(T:Zbg K mg)(f_l_pick:Df P w K mg base 2 "_law_pick" ["_law_left_here", "_law_many"] ZbL):Df P w K mg base 3 "_law_stems" ["_law_left_here"] ZcY:=by
 refine T.t_l_stems.df Zcb (fun vs H Q E h=>?_) (fun cdv f A outer s H vs Q E hr h=>?_)
 ·obtain⟨p,c,rfl,_⟩:=h
  rfl
 obtain⟨p,c,rfl,hL,c1,q⟩:=h
 refine⟨_,#[Zg,#[ZA,1,Zcb.nd,(Or.inr rfl),#[Zam,#[Za,#[ZZ],#[Za,#[ZZ],#[Za,#[ZZ],#[Za,#[ZZ],#[Za,#[ZZ],#[Za,#[ZZ],#[Za,#[ZZ],#[Za,#[ZZ],#[Za,#[ZZ],#[Za,#[ZZ],#[Za,#[ZZ],#[Za,#[ZP,Zg2,#[ZZ],#[Zi]],#[Zb]]]]]]]]]]]]]]],#[Zk,#[Zy,#[Zbd,ZfY,#[ZY,T.b.n_range,#[Za,#[ZP,Zbm,#[Zi],#[ZG,f_l_pick,hr,#[Za,#[pv,0,(Or.inr (Or.inl rfl))],#[Za,#[Zi],#[Zb]]],(by rfl)]],#[Zb]]],(fun _ _ _ _=>#[cg,2,ZfY]),(fun _ _ _ _=>(@Zar _)),(fun _ _ _ _=>#[ZW,(ixL K),#[cv,1,ZfY],#[ZG,f_l_pick,hr,#[Za,#[cv,0,ZfY],#[Za,#[Zi],#[Zb]]],(ZbD ZfY rfl (by ac_rfl))]])]]]],?_⟩
 refine⟨_,_,rfl,rfl,by decide,by decide,by decide,(by show 12≤sizeLine;decide),fun l hl=>?_⟩
 have npl:p≠l:=by obtain⟨a,b,hp,_⟩:=hL;exact Zc hp hl
 have hL1:ZL (upd H l (.lst (Zad.map V.str))) p c:=by obtain⟨a,b,hp,c0⟩:=hL;exact⟨a,b,by rw[Zf npl];exact hp,c0⟩
 refine⟨_,rfl,p,c,_,rfl,hL1,by omega,by decide,by decide,fun r H1 r0 r1 L1 B1=>?_⟩
 refine⟨_,_,rfl,rfl,_,rfl,by omega,by omega,fun D hD=>?_⟩
 have c0:0≤c:=by obtain⟨a,b,hp,c0⟩:=hL;exact c0
 have h1l:H1 l=some (.lst (Zad.map V.str)):=B1 l _ Zd npl.symm
 have npD:p≠D:=by obtain⟨a,b,hp,_⟩:=L1;exact Zc hp hD
 have nlD:l≠D:=Zc h1l hD
 refine ZaO (fun i ys σ H2=>∃ (ss:List Str) (v:Option V) (c2:Int),σ=[some (.ref p),some (.ref l),v]∧ys=ss.map V.str∧ss.length=i∧(∀s∈ss,s.length≤24∧AZ s)∧ZL H2 p c2∧c+1≤c2∧c2≤c+1+i ∧
   H2 l=some (.lst (Zad.map V.str))∧H2 D=some (.lst ys)∧But p H H2) ?_ ?_ ?_
 ·refine⟨[],none,c+1,rfl,rfl,rfl,(fun s hs=>by cases hs),?_,by omega,by omega,?_,Zd,?_⟩
  ·obtain⟨a,b,hp,q0⟩:=L1
   exact⟨a,b,by rw[Zf npD];exact hp,q0⟩
  ·rw[Zf nlD];exact h1l
  ·intro b o e n
   have e1:(upd H l (.lst (Zad.map V.str))) b=some o:=by rw[Zf (Zc e hl)];exact e
   have e2:=B1 b o e1 n
   rw[Zf (Zc e2 hD)]
   exact e2
 ·rintro i ys σ H2 hi ⟨ss,v,c2,rfl,rfl,hn,hs,L2',b1,b2,hl2,hD2,B2⟩
  refine⟨_,rfl,_,rfl,p,c2,_,rfl,L2',by omega,by decide,by decide,fun r' H3 r0' r1' L3 B3=>?_⟩
  obtain⟨s,hs1,hs2⟩:=Zef (ss:=Zad) r0' r1'
  have hD3:H3 D=some (.lst (ss.map V.str)):=B3 D _ hD2 npD.symm
  have hl3:H3 l=some (.lst (Zad.map V.str)):=B3 l _ hl2 npl.symm
  refine(xw4 l _ _ _ ⟨rfl,rfl,SqL.of hl3,hs2,hD3,(by rw[Qb,hn];exact Zaj (by omega)),ss++[s],_,c2+1,rfl,?_,?_,?_,?_,by omega,by omega,?_,Zd,?_⟩)
  ·rw[Qh];rfl
  ·rw[Qd,hn];rfl
  ·intro x hx
   rcases Qn.mp hx with hx|hx
   ·exact hs x hx
   ·rw[Qf.mp hx];exact⟨Zdq s hs1,Zd0 s hs1⟩
  ·obtain⟨a,b,hp,q0⟩:=L3
   exact⟨a,b,by rw[Zf npD];exact hp,q0⟩
  ·rw[Zf nlD];exact hl3
  ·intro b o e n
   have e2:=B3 b o (B2 b o e n) n
   have e3:H D=none:=by
    cases w':H D with
    | none=>rfl
    | some u =>
     have nDp:D≠p:=npD.symm
     have z1:(upd H l (.lst (Zad.map V.str))) D=some u:=by rw[Zf nlD.symm];exact w'
     rw[B1 D u z1 nDp]at hD
     cases hD
   rw[Zf (Zc e e3)]
   exact e2
 ·rintro ys σ H2 ⟨ss,v,c2,rfl,rfl,hn,hs,L2',b1,b2,hl2,hD2,B2⟩
  have e3:H D=none:=by
   cases w':H D with
   | none=>rfl
   | some u =>
    have z1:(upd H l (.lst (Zad.map V.str))) D=some u:=by rw[Zf nlD.symm];exact w'
    rw[B1 D u z1 npD.symm]at hD
    cases hD
  exact q D ss c2 H2 e3 hD2 (by omega) (by omega) hs L2' (by omega) (by omega) B2
theorem Zik(T:Zbg K mg)(f_l_pick:Df P w K mg base 2 "_law_pick" ["_law_left_here", "_law_many"] ZbL):Df P w K mg base 3 "_law_key" ["_law_left_here", "_law_stems_here"] Zf3:=by
 refine T.t_l_key.df Zds (fun vs H Q E h=>?_) (fun cdv f A outer s H vs Q E hr h=>?_)
 ·obtain⟨p,l,c,ss,rfl,_⟩:=h
  rfl
 obtain⟨p,l,c,ss,rfl,hL,c1,hl,n1,n4,h24,q⟩:=h
 refine⟨_,#[Zg,#[ZA,2,Zds.nd,(Or.inl rfl),#[ZbO,PySem.F.plainAttrs_str,PySem.F.slot_str_join,PySem.F.type_str_join,(Zjg K),#[ZZ],#[Za,#[Zbd,ZgK,#[ZY,T.b.n_range,#[Za,#[ZG,f_l_pick,hr,#[Za,#[pv,0,(Or.inr (Or.inl rfl))],#[Za,#[Zi],#[Zb]]],(by rfl)],#[Zb]]],(fun _ _ _ _=>#[cg,3,ZgK]),(fun _ _ _ _=>(@Zar _)),(fun _ _ _ _=>#[ZW,Zb1,#[ZZ],#[ZG,f_l_pick,hr,#[Za,#[cv,0,ZgK],#[Za,#[Zi],#[Zb]]],(ZbD ZgK rfl (by ac_rfl))]])],#[Zb]]]],#[Zk,#[Zy,#[ZP,Zei,#[ZW,(ixL K),‹1›,#[ZG,f_l_pick,hr,#[Za,#[pv,0,(Or.inr (Or.inl rfl))],#[Za,#[Zj,(ZbT K),T.b.n_len,Qy,#[Za,‹1›,#[Zb]]],#[Zb]]],(by rfl)]],‹2›]]]],?_⟩
 have c0:0≤c:=by obtain⟨a,b,hp,c0⟩:=hL;exact c0
 have npl:p≠l:=by
  obtain⟨a,b,hp,_⟩:=hL
  refine Zhs hp hl fun e=>?_
  have e1:=congrArg List.length (HO.lst.inj e)
  cases ss with
  | nil=>cases e1
  | cons x r=>exact absurd (HO.lst.inj e) (by intro z;cases z)
 refine⟨rfl,_,rfl,p,c,_,rfl,hL,by omega,by decide,by decide,fun r H1 r0 r1 L1 B1=>?_⟩
 refine⟨_,rfl,by omega,by omega,fun D hD=>?_⟩
 have npD:p≠D:=by obtain⟨a,b,hp,_⟩:=L1;exact Zc hp hD
 have h1l:=B1 l _ hl npl.symm
 have nlD:l≠D:=Zc h1l hD
 have hDn:H D=none:=by
  cases w':H D with
  | none=>rfl
  | some u=>rw[B1 D u w' npD.symm]at hD;cases hD
 refine ZaO (fun i ys σ H2=>∃ (ts:List Str) (v:Option V) (c2:Int),σ=[some (.ref p),some (.ref l),none,v]∧ys=ts.map V.str∧ts.length=i∧(∀s∈ts,s.length≤1∧AZ s)∧ZL H2 p c2∧c+1≤c2∧c2≤c+1+i ∧
   H2 D=some (.lst ys)∧But p H H2) ?_ ?_ ?_
 ·refine⟨[],none,c+1,rfl,rfl,rfl,(fun s hs=>by cases hs),?_,by omega,by omega,Zd,?_⟩
  ·obtain⟨a,b,hp,q0⟩:=L1
   exact⟨a,b,by rw[Zf npD];exact hp,q0⟩
  ·intro b o e n
   rw[Zf (Zc e hDn)]
   exact B1 b o e n
 ·rintro i ys σ H2 hi ⟨ts,v,c2,rfl,rfl,hn,hs,L2',b1,b2,hD2,B2⟩
  refine⟨_,rfl,p,c2,_,rfl,L2',by omega,by decide,by decide,fun r' H3 r0' r1' L3 B3=>?_⟩
  obtain⟨ch,hcm,hch⟩:=Zbv (z := "ababcz") r0' r1'
  have hD3:H3 D=some (.lst (ts.map V.str)):=B3 D _ hD2 npD.symm
  refine⟨_,_,_,rfl,rfl,(by ac_rfl),hch,hD3,(by rw[Qb,hn];exact Zaj (by omega)),ts++[⟨#[ch]⟩],_,c2+1,rfl,?_,?_,?_,?_,by omega,by omega,Zd,?_⟩
  ·rw[Qh];rfl
  ·rw[Qd,hn];rfl
  ·intro x hx
   rcases Qn.mp hx with hx|hx
   ·exact hs x hx
   ·rw[Qf.mp hx];exact⟨Ql 1,Ziv.one hcm⟩
  ·obtain⟨a,b,hp,q0⟩:=L3
   exact⟨a,b,by rw[Zf npD];exact hp,q0⟩
  ·intro b o e n
   rw[Zf (Zc e hDn)]
   exact B3 b o (B2 b o e n) n
 ·rintro ys σ H2 ⟨ts,v,c2,rfl,rfl,hn,hs,L2',b1,b2,hD2,B2⟩
  have hsum:=Zdw ts fun s h=>(hs s h).1
  have hjl:=ZfK "" ts
  have e0:("" : Str).length=0:=by ac_rfl
  rw[e0]at hjl
  have hl2:=B2 l _ hl npl.symm
  refine⟨_,D,ts,rfl,rfl,SqL.of hD2,(by rw[e0];omega),?_⟩
  have hlen:(((ss.map V.str).length:Nat):Int)=(ss.length:Int):=by rw[Qb]
  refine⟨_,rfl,_,rfl,_,rfl,l,_,rfl,.inl (SqL.of hl2),p,c2,_,rfl,L2',by omega,by omega,by omega,fun r' H3 r0' r1' L3 B3=>?_⟩
  obtain⟨st,hs1,hs2⟩:=Zef (ss:=ss) r0' (by omega)
  have hst:=(h24 st hs1).1
  refine(xw4 l _ _ _ ⟨rfl,rfl,SqL.of (B3 l _ hl2 npl.symm),hs2,_,rfl,_,_,rfl,rfl,ZaU (by omega),?_⟩)
  refine q _ (c2+1) H3 ?_ ((h24 st hs1).2.app (AZ.joinT ts fun s h=>(hs s h).2)) L3 (by omega) (by omega) (B2.trans B3)
  rw[PySem.Str.length_append]
  omega
theorem Zcj(T:Zbg K mg):Df P w K mg base 1 "alike_from" ["one", "other", "far"] Za0:=by
 refine T.t_alike_from.df Zaw (fun vs H Q E h=>?_) (fun cdv f A outer s H vs Q E hr h=>?_)
 ·obtain⟨x,y,far,rfl,_⟩:=h
  rfl
 obtain⟨x,y,far,rfl,hx,hy,hf,q⟩:=h
 refine⟨_,#[Zg,#[ZA,3,Zaw.nd,(Or.inl rfl),‹2›],#[Zg,(@Zdo _ _ _ _ _ _ PassesOwn.never (@PW.pt _ _ _ (@ZbY _ _ _ _ _ _ _ #[Zs,ZdP,‹3›,#[Zj,ZR,T.b.n_len,Qy,#[Za,‹0›,#[Zb]]],(Zq _)] (@ZbY _ _ _ _ _ _ _ #[Zs,ZdP,‹3›,#[Zj,ZR,T.b.n_len,Qy,#[Za,‹1›,#[Zb]]],(Zq _)] (@ZbW _ _ _ _ #[Zs,Zas,#[ZW,Zb1,‹0›,‹3›],#[ZW,Zb1,‹1›,‹3›],(Zq _)])))) #[Zk,#[Zeg,3,Zaw.nd,#[Zi],Zek]]),#[Zk,#[Zy,‹3›]]]],?_⟩
 refine⟨_,rfl,?_⟩
 have lx:(cds x).length=x.length:=by simp[Str.length]
 have ly:(cds y).length=y.length:=by simp[Str.length]
 have ll:=Zc7 (cds x) (cds y)
 refine⟨fun m σ H2=>∃k:Nat,σ=[some (.str x),some (.str y),some (.int far),some (.int k)]∧H2=H∧k≤lcp (cds x) (cds y)∧m=lcp (cds x) (cds y)-k,⟨_,far,rfl,rfl,hf,rfl⟩,?_⟩
 rintro m σ H2 ⟨k,rfl,rfl,hk,rfl⟩
 refine⟨_,rfl,_,rfl,x,rfl,ZaU hx,_,_,rfl,rfl,_,rfl,?_⟩
 refine Zbl (fun d1=>?_) (fun d1=>?_)
 ·have d1':(k:Int)<(x.length:Int):=of_decide_eq_true d1
  refine⟨_,rfl,_,rfl,y,rfl,ZaU hy,_,_,rfl,rfl,_,rfl,?_⟩
  refine Zbl (fun d2=>?_) (fun d2=>?_)
  ·have d2':(k:Int)<(y.length:Int):=of_decide_eq_true d2
   obtain⟨a,ha,ha'⟩:=Zbv (z:=x) (k:=k) (by omega) d1'
   obtain⟨b,hb,hb'⟩:=Zbv (z:=y) (k:=k) (by omega) d2'
   rw[QaB]at ha hb
   refine⟨_,rfl,_,rfl,x,_,a,rfl,rfl,ZaU hx,ha',_,rfl,_,rfl,y,_,b,rfl,rfl,ZaU hy,hb',rfl,_,rfl,?_⟩
   refine Zbl (fun d3=>?_) (fun d3=>?_)
   ·have d3':a=b:=by
     have:=of_decide_eq_true d3
     injection this with e
     injection e with e
     simpa using e
    subst d3'
    have:=Zgk _ _ k hk a ha hb
    refine⟨fun σ' H'=>σ'=[some (.str x),some (.str y),some (.int far),some (.int ((k+1:Nat):Int))]∧H'=H2,fun σ' H' ⟨e1,e2⟩=>⟨_,?_,k+1,e1,e2,this,rfl⟩,?_⟩
    ·omega
    ·exact⟨_,rfl,_,_,rfl,rfl,rfl,rfl⟩
   ·refine⟨_,rfl,?_⟩
    have e:=Zda _ _ k hk (.inr (.inr ⟨a,b,ha,hb,fun e=>d3 (by subst e;exact decide_eq_true rfl)⟩))
    rw[e]at q
    exact q
  ·refine ZaW ⟨_,rfl,?_⟩
   have d2':¬ (k:Int)<(y.length:Int):=of_decide_eq_false (Bool.eq_false_iff.mpr d2)
   have e:=Zda _ _ k hk (.inr (.inl (by omega)))
   rw[e]at q
   exact q
 ·refine ZaW ⟨_,rfl,?_⟩
  have d1':¬ (k:Int)<(x.length:Int):=of_decide_eq_false (Bool.eq_false_iff.mpr d1)
  have e:=Zda _ _ k hk (.inl (by omega))
  rw[e]at q
  exact q
theorem ZfW(T:Zbg K mg)(f_alike_from:Df P w K mg base 1 "alike_from" ["one", "other", "far"] Za0):Df P w K mg base 2 "alike" ["one", "other"] ZcQ:=by
 refine T.t_alike.df Zgs (fun vs H Q E h=>?_) (fun cdv f A outer s H vs Q E hr h=>?_)
 ·obtain⟨x,y,rfl,_⟩:=h
  rfl
 obtain⟨x,y,rfl,hx,hy,q⟩:=h
 refine⟨_,#[Zk,#[Zy,#[ZG,f_alike_from,hr,#[Za,‹0›,#[Za,‹1›,#[Za,#[Zi],#[Zb]]]],(by rfl)]]],?_⟩
 exact⟨_,rfl,_,rfl,x,y,0,rfl,hx,hy,QA _,q⟩
theorem ZeY{c A B:Prop}[Decidable c](hc:c)(h:A):if decide c=true then A else B:=by
 rw[if_pos (decide_eq_true hc)]
 exact h
theorem ZeP{c A B:Prop}[Decidable c](hc:¬ c)(h:B):if decide c=true then A else B:=by
 rw[if_neg (by rw[decide_eq_false hc];exact Qm)]
 exact h
theorem Zey(T:Zbg K mg):∀n:Nat,Df P w K mg base (n+1) "_law_same" ["_law_found", "_law_due"] (ZfR n)
 | 0=>by
  refine T.t_l_same.df Zcq (fun vs H Q E h=>?_) (fun cdv f A outer s H vs Q E hr h=>?_)
  ·obtain⟨x,y,rfl,_⟩:=h
   rfl
  obtain⟨x,y,rfl,h,_⟩:=h
  exact h.elim
 | n+1=>by
  have f_l_same:=Zey T n
  refine T.t_l_same.df Zcq (fun vs H Q E h=>?_) (fun cdv f A outer s H vs Q E hr h=>?_)
  ·obtain⟨x,y,rfl,_⟩:=h
   rfl
  obtain⟨x,y,rfl,hD,q⟩:=h
  refine⟨_,#[Zg,#[Zan,#[ZcO,#[Zj,(ZiE K),T.b.n_isinstance,boot_isinstance,#[Za,‹1›,#[Za,#[Z9,#[Za,#[ZaF,T.b.n_list,boot_list],#[Za,#[ZaF,T.b.n_tuple,boot_tuple],#[Zb]]]],#[Zb]]]]],#[Zg,#[Zan,(@PW.pt _ _ _ (@Zem _ _ _ _ _ _ _ #[Zs,ZhD,#[Zj,(Zcc K),T.b.n_isinstance,boot_isinstance,#[Za,‹0›,#[Za,#[ZaF,T.b.n_list,boot_list],#[Zb]]]],#[Zj,(Zcc K),T.b.n_isinstance,boot_isinstance,#[Za,‹1›,#[Za,#[ZaF,T.b.n_list,boot_list],#[Zb]]]],(Zq _)] (@ZcW _ _ _ _ #[Zs,ZhD,#[Zj,(Zcc K),T.b.n_isinstance,boot_isinstance,#[Za,‹0›,#[Za,#[ZaF,T.b.n_tuple,boot_tuple],#[Zb]]]],#[Zj,(Zcc K),T.b.n_isinstance,boot_isinstance,#[Za,‹1›,#[Za,#[ZaF,T.b.n_tuple,boot_tuple],#[Zb]]]],(Zq _)]))),#[Zk,#[Zy,(@ZdB _ _ _ _)]],(@ZO _)],#[Zk,#[Zy,(@Zce _ _ _ _ _ _ _ #[ZaM,Zas,#[Zj,(ZbT K),T.b.n_len,Qy,#[Za,‹0›,#[Zb]]],#[Zj,(ZbT K),T.b.n_len,Qy,#[Za,‹1›,#[Zb]]],(Zq _)] (@Zdi _ _ _ _ _ #[Zj,(Zjs K),T.b.n_all,boot_all,#[Za,#[Zbd,Zfb,(@iZ _ K _ _ _ _ _ _ _ _ T.b.n_zip #[Za,‹0›,#[Za,‹1›,#[Zb]]] (by rfl) (by rfl) (by rfl) (by rfl)),(fun _ _ _ _=>#[gT,K,2,#[ZI,#[cg,2,Zfb],#[ZI,#[cg,3,Zfb],(@Zba _)]]]),(fun _ _ _ _=>(@Zar _)),(fun _ _ _ _=>#[ZG,f_l_same,hr,#[Za,#[cw,2,Zfb],#[Za,#[cw,3,Zfb],#[Zb]]],(ZbD Zfb rfl (by ac_rfl))])],#[Zb]]]))]]],(@ZO _)],#[Zg,#[Zan,(@PW.pt _ _ _ (@Zem _ _ _ _ _ _ _ #[Zs,Zh7,‹1›,(@ZhK _ _ _),(Zq _)] (@ZcW _ _ _ _ #[ZcO,#[Zj,(Zcc K),T.b.n_isinstance,boot_isinstance,#[Za,‹1›,#[Za,#[ZaF,T.b.n_str,boot_str],#[Zb]]]]]))),#[Zk,#[Zy,(@Zce _ _ _ _ _ _ _ #[ZaM,Zas,‹0›,‹1›,(Zq _)] (@Zdi _ _ _ _ _ #[ZaM,Zas,#[Zj,(Zcc K),T.b.n_isinstance,boot_isinstance,#[Za,‹0›,#[Za,#[ZaF,T.b.n_str,boot_str],#[Zb]]]],#[Zj,(Zcc K),T.b.n_isinstance,boot_isinstance,#[Za,‹1›,#[Za,#[ZaF,T.b.n_str,boot_str],#[Zb]]]],(Zq _)]))]],(@ZO _)],#[Zg,#[Zan,#[ZcO,#[Zj,(Zcc K),T.b.n_isinstance,boot_isinstance,#[Za,‹1›,#[Za,#[ZaF,T.b.n_bool,boot_bool],#[Zb]]]]],#[Zk,#[Zy,(@Zce _ _ _ _ _ _ _ #[Zj,(Zcc K),T.b.n_isinstance,boot_isinstance,#[Za,‹0›,#[Za,#[ZaF,T.b.n_bool,boot_bool],#[Zb]]]] (@Zdi _ _ _ _ _ #[ZaM,Zas,‹0›,‹1›,(Zq _)]))]],(@ZO _)],#[Zk,#[Zy,(@Zce _ _ _ _ _ _ _ #[Zj,(Zcc K),T.b.n_isinstance,boot_isinstance,#[Za,‹0›,#[Za,#[ZaF,T.b.n_int,boot_int],#[Zb]]]] (@Zce _ _ _ _ _ _ _ (@ZhH _ _ _ _ #[Zj,(Zcc K),T.b.n_isinstance,boot_isinstance,#[Za,‹0›,#[Za,#[ZaF,T.b.n_bool,boot_bool],#[Zb]]]]) (@Zdi _ _ _ _ _ #[ZaM,Zas,‹0›,‹1›,(Zq _)])))]]]]],?_⟩
  refine⟨_,rfl,(by show 2≤sizeLine;decide),fun tp htp=>?_⟩
  have sT:Zn H (upd H tp (.tup (["list", "tuple"].map V.ty))):=Zh htp _
  rcases hD with⟨rfl,rfl|⟨b,rfl⟩|⟨i,rfl⟩|⟨z,rfl⟩⟩|⟨p,q2,xs,ys,rfl,rfl,⟨hp,hq⟩|⟨hp,hq⟩,hl,hz,hi⟩
  ·refine⟨_,tp,["list", "tuple"],_,_,rfl,Zd,.non,Ze5 K,_,rfl,ZaW ?_⟩
   refine⟨_,rfl,rfl,_,rfl,ZeY rfl (Zc3 ?_)⟩
   refine⟨_,rfl,_,rfl,rfl,_,rfl,ZeY rfl ?_⟩
   exact⟨_,rfl,_, "str",_,_,rfl,.non,Zcx K,_,rfl,_, "str",_,_,rfl,.non,Zcx K,rfl,q _ sT⟩
  ·refine⟨_,tp,["list", "tuple"],_,_,rfl,Zd,.bl b,ZfL K,_,rfl,ZaW ?_⟩
   refine⟨_,rfl,rfl,_,rfl,ZeP (by intro z;cases z) ?_⟩
   refine⟨_,rfl,_, "str",_,_,rfl,.bl b,Zgn K,_,rfl,ZaW ?_⟩
   refine⟨_,rfl,_, "bool",_,_,rfl,.bl b,Zel K,_,rfl,Zc3 ?_⟩
   refine⟨_,rfl,_, "bool",_,_,rfl,.bl b,Zel K,_,rfl,Zc3 ?_⟩
   refine⟨_,rfl,_,rfl,rfl,?_⟩
   have e:decide (V.bl b=V.bl b)=true:=decide_eq_true rfl
   rw[e]
   exact q _ sT
  ·refine⟨_,tp,["list", "tuple"],_,_,rfl,Zd,.int i,Zff K,_,rfl,ZaW ?_⟩
   refine⟨_,rfl,rfl,_,rfl,ZeP (by intro z;cases z) ?_⟩
   refine⟨_,rfl,_, "str",_,_,rfl,.int i,Ze1 K,_,rfl,ZaW ?_⟩
   refine⟨_,rfl,_, "bool",_,_,rfl,.int i,ZdK K,_,rfl,ZaW ?_⟩
   refine⟨_,rfl,_, "int",_,_,rfl,.int i,Zfi K,_,rfl,Zc3 ?_⟩
   refine⟨_,rfl,_, "bool",_,_,rfl,.int i,ZdK K,_,rfl,_,rfl,Zc3 ?_⟩
   refine⟨_,rfl,_,rfl,rfl,?_⟩
   have e:decide (V.int i=V.int i)=true:=decide_eq_true rfl
   rw[e]
   exact q _ sT
  ·refine⟨_,tp,["list", "tuple"],_,_,rfl,Zd,.str z,ZeU K,_,rfl,ZaW ?_⟩
   refine⟨_,rfl,rfl,_,rfl,ZeP (by intro z;cases z) ?_⟩
   refine⟨_,rfl,_, "str",_,_,rfl,.str z,ZbM K,_,rfl,Zc3 ?_⟩
   refine⟨_,rfl,_,rfl,rfl,_,rfl,ZeY rfl ?_⟩
   exact⟨_,rfl,_, "str",_,_,rfl,.str z,ZbM K,_,rfl,_, "str",_,_,rfl,.str z,ZbM K,rfl,q _ sT⟩
  ·have hxT:(upd H tp (.tup (["list", "tuple"].map V.ty))) p=some (.lst xs):=by rw[Zf (Zc hp htp)];exact hp
   have hyT:(upd H tp (.tup (["list", "tuple"].map V.ty))) q2=some (.lst ys):=by rw[Zf (Zc hq htp)];exact hq
   refine⟨_,tp,["list", "tuple"],_,_,rfl,Zd,.lst hyT,ZeR K,_,rfl,Zc3 ?_⟩
   refine⟨_,rfl,_, "list",_,_,rfl,.lst hxT,ZcL K,_,rfl,_, "list",_,_,rfl,.lst hyT,ZcL K,rfl,_,rfl,Zet rfl ?_⟩
   refine⟨_,rfl,_, "tuple",_,_,rfl,.lst hxT,Zcy K,_,rfl,_, "tuple",_,_,rfl,.lst hyT,Zcy K,rfl,_,rfl,Zet rfl ?_⟩
   refine⟨_,rfl,p,xs,rfl,.inl (SqL.of hxT),_,rfl,q2,ys,rfl,.inl (SqL.of hyT),rfl,_,rfl,ZeY (by rw[hl]) ?_⟩
   refine⟨_,rfl,_,rfl,.l p,.l q2,xs,ys,rfl,SqL.of hxT,SqL.of hyT,fun D hD=>?_⟩
   have sD:Zn H (upd H tp (.tup (["list", "tuple"].map V.ty))):=Zh htp _
   refine ZdD (K:=K) (xs:=xs) (ys:=ys) (fun i zs σ H2=>(∃v1 v2,σ=[some (.ref p),some (.ref q2),v1,v2])∧zs=List.replicate i (.bl true)∧Zn H H2∧H2 D=some (.lst zs)∧i≤xs.length) ?_ ?_ ?_ ?_
   ·exact⟨⟨none,none,rfl⟩,rfl,sD.trans (Zh hD _),Zd,QA _⟩
   ·rintro i zs σ H2 ⟨_,_,s2,_⟩
    exact⟨SqL.of (s2 _ _ hp),SqL.of (s2 _ _ hq)⟩
   ·rintro i zs σ H2 x' y' r hx' hy' ⟨⟨v1,v2,rfl⟩,rfl,s2,hD2,hiz⟩ hr
    have hil:i<xs.length:=(Qj.mp hx').1
    have nDr:D≠r:=Zc hD2 hr
    have s3:Zn H (upd H2 r (.tup [x',y'])):=s2.trans (Zh hr _)
    refine⟨r,_,rfl,SqT.of Zd,rfl,_,_,rfl,_,_,rfl,rfl,?_⟩
    refine⟨_,rfl,_,rfl,x',y',rfl,(hi i x' y' hx' hy').mono s3,fun H' s'=>?_⟩
    have hD':H' D=some (.lst (List.replicate i (.bl true))):=s' _ _ (by rw[Zf nDr];exact hD2)
    refine⟨hD',(by rw[Qah];exact Zaj (by omega)),⟨_,_,rfl⟩,?_,?_,Zd,hil⟩
    ·rw[List.replicate_succ']
    ·intro b o e
     have e1:=s' b o (s3 b o e)
     rw[Zf (fun z=>by subst z;exact nomatch (sD b o e).symm.trans hD)]
     exact e1
   ·rintro zs σ H2 ⟨_,rfl,s2,hD2,_⟩
    refine⟨D,List.replicate (min xs.length ys.length) true,rfl,SqL.of (by rw[List.map_replicate];exact hD2),?_⟩
    have e:(List.replicate (min xs.length ys.length) true).all id=true:=by rw[QaF];intro b hb;exact(List.eq_of_mem_replicate hb)
    rw[e]
    exact q H2 s2
  ·have hxT:(upd H tp (.tup (["list", "tuple"].map V.ty))) p=some (.tup xs):=by rw[Zf (Zc hp htp)];exact hp
   have hyT:(upd H tp (.tup (["list", "tuple"].map V.ty))) q2=some (.tup ys):=by rw[Zf (Zc hq htp)];exact hq
   refine⟨_,tp,["list", "tuple"],_,_,rfl,Zd,.tup hyT,Zfr K,_,rfl,Zc3 ?_⟩
   refine⟨_,rfl,_, "list",_,_,rfl,.tup hxT,ZcC K,_,rfl,_, "list",_,_,rfl,.tup hyT,ZcC K,rfl,_,rfl,Zet rfl ?_⟩
   refine⟨_,rfl,_, "tuple",_,_,rfl,.tup hxT,ZcB K,_,rfl,_, "tuple",_,_,rfl,.tup hyT,ZcB K,rfl,_,rfl,Zet rfl ?_⟩
   refine⟨_,rfl,p,xs,rfl,.inr (SqT.of hxT),_,rfl,q2,ys,rfl,.inr (SqT.of hyT),rfl,_,rfl,ZeY (by rw[hl]) ?_⟩
   refine⟨_,rfl,_,rfl,.t p,.t q2,xs,ys,rfl,SqT.of hxT,SqT.of hyT,fun D hD=>?_⟩
   have sD:Zn H (upd H tp (.tup (["list", "tuple"].map V.ty))):=Zh htp _
   refine ZdD (K:=K) (xs:=xs) (ys:=ys) (fun i zs σ H2=>(∃v1 v2,σ=[some (.ref p),some (.ref q2),v1,v2])∧zs=List.replicate i (.bl true)∧Zn H H2∧H2 D=some (.lst zs)∧i≤xs.length) ?_ ?_ ?_ ?_
   ·exact⟨⟨none,none,rfl⟩,rfl,sD.trans (Zh hD _),Zd,QA _⟩
   ·rintro i zs σ H2 ⟨_,_,s2,_⟩
    exact⟨SqT.of (s2 _ _ hp),SqT.of (s2 _ _ hq)⟩
   ·rintro i zs σ H2 x' y' r hx' hy' ⟨⟨v1,v2,rfl⟩,rfl,s2,hD2,hiz⟩ hr
    have hil:i<xs.length:=(Qj.mp hx').1
    have nDr:D≠r:=Zc hD2 hr
    have s3:Zn H (upd H2 r (.tup [x',y'])):=s2.trans (Zh hr _)
    refine⟨r,_,rfl,SqT.of Zd,rfl,_,_,rfl,_,_,rfl,rfl,?_⟩
    refine⟨_,rfl,_,rfl,x',y',rfl,(hi i x' y' hx' hy').mono s3,fun H' s'=>?_⟩
    have hD':H' D=some (.lst (List.replicate i (.bl true))):=s' _ _ (by rw[Zf nDr];exact hD2)
    refine⟨hD',(by rw[Qah];exact Zaj (by omega)),⟨_,_,rfl⟩,?_,?_,Zd,hil⟩
    ·rw[List.replicate_succ']
    ·intro b o e
     have e1:=s' b o (s3 b o e)
     rw[Zf (fun z=>by subst z;exact nomatch (sD b o e).symm.trans hD)]
     exact e1
   ·rintro zs σ H2 ⟨_,rfl,s2,hD2,_⟩
    refine⟨D,List.replicate (min xs.length ys.length) true,rfl,SqL.of (by rw[List.map_replicate];exact hD2),?_⟩
    have e:(List.replicate (min xs.length ys.length) true).all id=true:=by rw[QaF];intro b hb;exact(List.eq_of_mem_replicate hb)
    rw[e]
    exact q H2 s2
theorem ZL.new{H:Hp}{p l:Addr}{c:Int}{o:HO}(h:ZL H p c)(n:H l=none):ZL (upd H l o) p c:=by
 obtain⟨a,b,hp,c0⟩:=h
 exact⟨a,b,by rw[Zf (Zc hp n)];exact hp,c0⟩
theorem ZL.ge{H:Hp}{p:Addr}{c:Int}(h:ZL H p c):0≤c:=by obtain⟨a,b,hp,c0⟩:=h;exact c0
theorem ZL.here{H:Hp}{p:Addr}{c:Int}(h:ZL H p c):∃o,H p=some o:=by obtain⟨a,b,hp,c0⟩:=h;exact⟨_,hp⟩
theorem ZL.at{H:Hp}{p l:Addr}{c:Int}{o:HO}(h:ZL H p c)(n:p≠l):ZL (upd H l o) p c:=by
 obtain⟨a,b,hp,c0⟩:=h
 exact⟨a,b,by rw[Zf n];exact hp,c0⟩
theorem Zbz:∀ss:List Str,(∀s∈ss,AZ s)→PyData.canLayAll0 (ss.map PyData.str)=true
 | [],_=>rfl
 | x::r,h=>by simp[PyData.canLayAll0,PyData.canLay0,(h x (by simp)).ok,Zbz r fun s hs=>h s (List.mem_cons_of_mem _ hs)]
theorem Zbq:∀ss:List Str,PyData.depthAll (ss.map PyData.str)=0
 | []=>rfl
 | _::r=>by simp[PyData.depthAll,PyData.depth,Zbq r]
theorem Za8(ss:List Str)(h:∀s∈ss,AZ s):SeqAt.shaped (.list (ss.map PyData.str))=true:=by simp[SeqAt.shaped,PyData.canLay0,PyData.depth,Zbz ss h,Zbq]
theorem Zav{K:PySem.W.Frag}{H:Hp}:∀ss:List Str,DVs K H (ss.map V.str) (ss.map PyData.str)
 | []=>.nil
 | s::r=>.cons (.str s) (Zav r)
def ZdZ:Sp:=fun vs H Q _=>∃ (p l:Addr) (c most:Int) (ss:List Str),vs=[.ref p,.ref l,.int most]∧ZL H p c∧c<2 ^ 40∧0≤most∧most≤60∧H l=some (.lst (ss.map V.str))∧1≤ss.length∧ss.length≤4∧(∀s∈ss,s.length≤24∧AZ s) ∧
 ∀ (r:Addr) (ts:List Str) (c':Int) (H':Hp),H r=none→H' r=some (.lst (ts.map V.str))→(ts.length:Int)≤most→(∀s∈ts,s.length≤28∧AZ s)→ZL H' p c'→c≤c'→c'≤c+600→But p H H'→Q (.ref r) H'
theorem ZgU(T:Zbg K mg)(f_l_pick:Df P w K mg base 2 "_law_pick" ["_law_left_here", "_law_many"] ZbL)(f_l_key:Df P w K mg base 3 "_law_key" ["_law_left_here", "_law_stems_here"] Zf3):Df P w K mg base 4 "_law_keys" ["_law_left_here", "_law_stems_here", "_law_most"] ZdZ:=by
 refine T.t_l_keys.df ZaD (fun vs H Q E h=>?_) (fun cdv f A outer s H vs Q E hr h=>?_)
 ·obtain⟨p,l,c,most,ss,rfl,_⟩:=h
  rfl
 obtain⟨p,l,c,most,ss,rfl,hL,c1,m0,m1,hl,n1,n4,h24,q⟩:=h
 refine⟨_,#[Zg,#[ZA,3,ZaD.nd,(Or.inl rfl),#[Zam,#[Zb]]],#[Zg,#[Zbj,PassesOwn.never,#[ZY,T.b.n_range,#[Za,#[ZG,f_l_pick,hr,#[Za,‹0›,#[Za,#[ZP,Zbm,‹2›,#[Zi]],#[Zb]]],(by rfl)],#[Zb]]],#[Z2,4,ZaD.nd,(Or.inl rfl)],#[Zg,#[ZA,5,ZaD.nd,(Or.inl rfl),#[ZG,f_l_key,hr,#[Za,‹0›,#[Za,‹1›,#[Zb]]],(by rfl)]],#[Zg,#[Zan,(@PW.pt _ _ _ (@ZbY _ _ _ _ _ _ _ #[Zs,(@neD _ K _ hr (by rfl)),‹3›,#[Zam,#[Zb]],(Zq _)] (@ZbW _ _ _ _ #[Zs,Zas,#[ZG,f_l_pick,hr,#[Za,‹0›,#[Za,#[Zi],#[Zb]]],(by rfl)],#[Zi],(Zq _)]))),#[Zk,#[ZA,5,ZaD.nd,(Or.inl rfl),#[ZW,(ixL K),‹3›,#[ZG,f_l_pick,hr,#[Za,‹0›,#[Za,#[Zj,(ZbT K),T.b.n_len,Qy,#[Za,‹3›,#[Zb]]],#[Zb]]],(by rfl)]]]],(@ZO _)],#[Zk,#[Zau,#[ZbO,QE,QO,QP,Z8,‹3›,#[Za,‹5›,#[Zb]]]]]]]],#[Zk,#[Zy,‹3›]]]],?_⟩
 have c0:=hL.ge
 refine⟨(by show 0≤sizeLine;decide),fun r hr0=>?_⟩
 have npr:p≠r:=by obtain⟨o,ho⟩:=hL.here;exact Zc ho hr0
 have nlr:l≠r:=Zc hl hr0
 have npl:p≠l:=by
  obtain⟨a,b,hp,_⟩:=hL
  refine Zhs hp hl fun e=>?_
  cases ss with
  | nil=>exact absurd (congrArg List.length (HO.lst.inj e)) (by simp)
  | cons x r=>exact absurd (HO.lst.inj e) (by intro z;cases z)
 refine⟨_,rfl,_,rfl,_,_,rfl,rfl,p,c,_,rfl,hL.new hr0,by omega,by omega,by omega,fun n H1 w0 w1 L1 B1=>?_⟩
 refine⟨_,rfl,by omega,by omega,?_⟩
 have hr1:H1 r=some (.lst []):=B1 r _ Zd npr.symm
 have B01:But p H H1:=(But.same (Zh hr0 _)).trans B1
 refine Zah (fun i σ H2=>∃ (ts:List Str) (v1 v2:Option V) (c2:Int),σ=[some (.ref p),some (.ref l),some (.int most),some (.ref r),v1,v2]∧H2 r=some (.lst (ts.map V.str))∧ts.length=i∧(∀s∈ts,s.length≤28∧AZ s)∧ZL H2 p c2∧c+1≤c2∧c2≤c+1+8*i∧(∀b o,H b=some o→b≠p→H2 b=some o)) ⟨[],none,none,c+1,rfl,hr1,rfl,(fun s hs=>by cases hs),L1,by omega,by omega,B01⟩ ?_ ?_
 ·rintro i σ H2 hi ⟨ts,v1,v2,c2,rfl,hr2,hn,h28,L2,a1,a2,B2⟩
  have hi60:(i:Int)<61:=by omega
  have hl2:=B2 l _ hl npl.symm
  refine⟨_,rfl,_,rfl,p,l,c2,ss,rfl,L2,by omega,hl2,n1,n4,h24,fun key c3 H3 hkey hkaz L3 a3 a4 B3=>?_⟩
  have hr3:=B3 r _ hr2 npr.symm
  have fin:∀ (k2:Str) (c4:Int) (H4:Hp),k2.length≤28∧AZ k2→ZL H4 p c4→c2≤c4→c4≤c2+8→H4 r=some (.lst (ts.map V.str))→(∀b o,H b=some o→b≠p→H4 b=some o) →
    ∃ (ts':List Str) (v1 v2:Option V) (c5:Int),[some (V.ref p),some (V.ref l),some (V.int most),some (V.ref r),some (V.int (0+(i:Int))),some (V.str k2)]=[some (.ref p),some (.ref l),some (.int most),some (.ref r),v1,v2] ∧
     (upd H4 r (.lst (ts.map V.str++[.str k2]))) r=some (.lst (ts'.map V.str))∧ts'.length=i+1∧(∀s∈ts',s.length≤28∧AZ s)∧ZL (upd H4 r (.lst (ts.map V.str++[.str k2]))) p c5∧c+1≤c5∧c5≤c+1+8*((i+1:Nat):Int) ∧
     (∀b o,H b=some o→b≠p→(upd H4 r (.lst (ts.map V.str++[.str k2]))) b=some o):=fun k2 c4 H4 hk L4 b1 b2 hr4 B4=>by
   refine⟨ts++[k2],_,_,c4,rfl,?_,by rw[Qd,hn];rfl,?_,L4.at npr,by omega,by omega,fun b o e n=>?_⟩
   ·rw[Zd,Qh];rfl
   ·intro x hx
    rcases Qn.mp hx with hx|hx
    ·exact h28 x hx
    ·rw[Qf.mp hx];exact hk
   ·rw[Zf (Zc e hr0)]
    exact B4 b o e n
  have hlt:(ts.map V.str).length<sizeLine:=by rw[Qb,hn];exact Zaj (by omega)
  refine⟨_,rfl,(by show 0≤sizeLine;decide),fun e he=>?_⟩
  have hr3':(upd H3 e (.lst [])) r=some (.lst (ts.map V.str)):=by rw[Zf (Zc hr3 he)];exact hr3
  refine⟨.list (ts.map PyData.str),.list [],.lst (SqL.of hr3') (Zav ts),.lst (SqL.of Zd) .nil,Za8 ts (fun s h=>(h28 s h).2),(by ac_rfl),_,rfl,?_⟩
  have B3':∀b o,H b=some o→b≠p→(upd H3 e (.lst [])) b=some o:=fun b o z n=>Zh he _ b o (B3 b o (B2 b o z n) n)
  cases ts with
  | nil =>
   have ev:(if true=true then !PyData.eqv (.list (([]:List Str).map PyData.str)) (.list []) else PyData.eqv (.list (([]:List Str).map PyData.str)) (.list []))=false:=by ac_rfl
   rw[ev]
   refine ZaW (ZaW ?_)
   refine⟨_,rfl,.inl ⟨rfl,_,SqL.of hr3'⟩,_,rfl,r,_,_,rfl,rfl,hr3',hlt,?_⟩
   exact fin key c3 _ ⟨hkey,hkaz⟩ (L3.new he) (by omega) (by omega) hr3' B3'
  | cons t0 tr =>
   have ev:(if true=true then !PyData.eqv (.list ((t0::tr).map PyData.str)) (.list []) else PyData.eqv (.list ((t0::tr).map PyData.str)) (.list []))=true:=by simp[PyData.eqv,PyData.eqvAll]
   rw[ev]
   refine Zc3 ⟨_,rfl,p,c3,_,rfl,L3.new he,by omega,by decide,by decide,fun d H5 d0 d1 L5 B5=>?_⟩
   have hr5:=B5 r _ hr3' npr.symm
   refine⟨rfl,_,rfl,Zbl (fun _=>?_) (fun _=>?_)⟩
   ·have hlen:((((t0::tr).map V.str).length:Nat):Int)=((t0::tr).length:Int):=by rw[Qb]
    have hpos:(0:Int)<((t0::tr).length:Int):=by simp
    refine⟨_,rfl,_,rfl,_,rfl,r,_,rfl,.inl (SqL.of hr5),p,c3+1,_,rfl,L5,by omega,by omega,by omega,fun d' H6 d0' d1' L6 B6=>?_⟩
    obtain⟨st,hs1,hs2⟩:=Zef (ss:=t0::tr) d0' (by omega)
    have hr6:=B6 r _ hr5 npr.symm
    refine(xw4 r _ _ _ ⟨rfl,rfl,SqL.of hr6,hs2,?_⟩)
    refine⟨_,rfl,.inl ⟨rfl,_,SqL.of hr6⟩,_,rfl,r,_,_,rfl,rfl,hr6,hlt,?_⟩
    exact fin st _ _ (h28 st hs1) L6 (by omega) (by omega) hr6 fun b o z n=>B6 b o (B5 b o (B3' b o z n) n) n
   ·refine⟨_,rfl,.inl ⟨rfl,_,SqL.of hr5⟩,_,rfl,r,_,_,rfl,rfl,hr5,hlt,?_⟩
    exact fin key _ _ ⟨hkey,hkaz⟩ L5 (by omega) (by omega) hr5 fun b o z n=>B5 b o (B3' b o z n) n
 ·rintro σ H2 ⟨ts,v1,v2,c2,rfl,hr2,hn,h28,L2,a1,a2,B2⟩
  exact⟨_,rfl,q r ts c2 H2 hr0 hr2 (by omega) h28 L2 (by omega) (by omega) B2⟩
def Zhq(ss:List Str)(i:Nat):Int:=if i=0 then 0 else (lcp (cds (ss.getD (i-1) "")) (cds (ss.getD i "")):Nat)
def spAlikes(K:PySem.W.Frag):Sp:=fun vs H Q _=>∃ (a:Addr) (ss:List Str),vs=[.ref a]∧SqL K H a (ss.map V.str)∧ss.length≤100∧(∀s∈ss,s.length≤1000) ∧
 ∀ (r:Addr) (H':Hp),H r=none→H' r=some (.lst ((List.range ss.length).map fun j=>.int (Zhq ss j)))→Zn H H'→Q (.ref r) H'
def Zv:List Nat→List Nat→Int
 | [],[]=>0
 | [],_::_ =>-1
 | _::_,[]=>1
 | a::r,b::s=>if a=b then Zv r s else if a<b then -1 else 1
theorem Zb0:∀ (x y z:List Nat),Zv x y≤0→Zv y z≤0→Zv x z≤0
 | [],_,[],_,_=>by unfold Zv;omega
 | [],_,_::_,_,_=>by unfold Zv;omega
 | _::_,[],_,h,_=>by unfold Zv at h;omega
 | _::_,_::_,[],_,h=>by unfold Zv at h;omega
 | a::r,b::s,c::t,h1,h2=>by
  unfold Zv at h1 h2 ⊢
  have ih:=Zb0 r s t
  by_cases e1:a=b
  ·rw[if_pos e1]at h1
   by_cases e2:b=c
   ·rw[if_pos e2]at h2
    rw[if_pos (e1.trans e2)]
    exact ih h1 h2
   ·rw[if_neg e2]at h2
    rw[if_neg (fun e=>e2 (e1.symm.trans e))]
    split at h2
    ·rw[if_pos (by omega)];omega
    ·omega
  ·rw[if_neg e1]at h1
   split at h1
   ·by_cases e2:b=c
    ·rw[if_neg (fun e=>e1 (e.trans e2.symm)),if_pos (by omega)];omega
    ·rw[if_neg e2]at h2
     split at h2
     ·rw[if_neg (by omega),if_pos (by omega)];omega
     ·omega
   ·omega
theorem Zb4:∀ss:List Str,PyData.eqvAll (ss.map PyData.str) (ss.map PyData.str)=true
 | []=>by simp[PyData.eqvAll]
 | x::r=>by simp[PyData.eqvAll,PyData.eqv,Zb4 r]
theorem Zfp(ss:List Str):PyData.eqv (.list (ss.map PyData.str)) (.list (ss.map PyData.str))=true:=by simp[PyData.eqv,Zb4 ss]
theorem Zg6(b:Bool):∃m:Int,atI [V.int 12,V.int 50] (if b=true then (1:Int) else 0)=some (.int m)∧0≤m∧m≤50:=by
 cases b
 ·exact⟨12,rfl,by decide,by decide⟩
 ·exact⟨50,rfl,by decide,by decide⟩
def lawInv(H:Hp)(a p:Addr)(j:Nat)(σ:L2.St)(H4:Hp):Prop:=∃ (u1 u3 u4 u5 u6 u7 u8 u9:Option V) (c:Int),σ=[some (.ref a),u1,some (.ref p),u3,u4,u5,u6,u7,u8,u9]∧Zn H H4∧ZL H4 p c∧c≤700*j
theorem ZL.same{H H':Hp}{p:Addr}{c:Int}(h:ZL H p c)(s:Zn H H'):ZL H' p c:=by obtain⟨b1,b2,hb,c0⟩:=h;exact⟨b1,b2,s _ _ hb,c0⟩
def mid(ns:List Int):Nat:=(ns.length+1) / 2
def Zc2(ns:List Int):List Int:=ns.take (mid ns)
def Zfk(ns:List Int):List Int:=ns.drop (mid ns)
theorem ZeE(z:Str):(cds z).length=z.length:=by simp[Str.length]
theorem ZeC:∀ (x y:List Nat),(lcp x y=x.length→lcp x y=y.length→Zv x y=0)∧(lcp x y=x.length→lcp x y≠y.length→Zv x y = -1)∧(lcp x y≠x.length→lcp x y=y.length→Zv x y=1) ∧
  ∀a b,x[lcp x y]? = some a→y[lcp x y]? = some b→Zv x y=if a<b then -1 else 1
 | [],[]=>⟨fun _ _=>rfl,fun _ h=>absurd rfl h,fun h _=>absurd rfl h,fun a b h _=>by simp at h⟩
 | [],_::_=>⟨fun _ h=>by unfold lcp at h;simp at h,fun _ _=>rfl,fun h _=>absurd rfl h,fun a b h _=>by simp at h⟩
 | _::_,[]=>⟨fun h _=>by unfold lcp at h;simp at h,fun h _=>by unfold lcp at h;simp at h,fun _ _=>rfl,fun a b _ h=>by simp at h⟩
 | a::r,b::s=>by
  obtain⟨h1,h2,h3,h4⟩:=ZeC r s
  unfold lcp Zv
  by_cases e:a=b
  ·rw[if_pos e,if_pos e]
   simp only[List.length_cons,List.getElem?_cons_succ]
   exact⟨fun p q=>h1 (by omega) (by omega),fun p q=>h2 (by omega) (by omega),fun p q=>h3 (by omega) (by omega),h4⟩
  ·rw[if_neg e,if_neg e]
   simp only[List.length_cons,List.getElem?_cons_zero]
   refine⟨fun p=>by omega,fun p=>by omega,fun _ p=>by omega,fun c d p q=>?_⟩
   cases p;cases q
   rfl
theorem ZaY:∀ (x y:List Nat),Zv y x =-Zv x y
 | [],[]=>rfl
 | [],_::_=>rfl
 | _::_,[]=>rfl
 | a::r,b::s=>by
  have ih:=ZaY r s
  unfold Zv
  by_cases e:a=b
  ·rw[if_pos e,if_pos e.symm,ih]
  ·rw[if_neg e,if_neg fun z=>e z.symm]
   by_cases l:a<b
   ·rw[if_pos l,if_neg (by omega)];rfl
   ·rw[if_neg l,if_pos (by omega)]
theorem ZhM(a b:Nat):decide ((⟨#[a]⟩:Str).cps.toList<(⟨#[b]⟩:Str).cps.toList)=decide (a<b):=by
 have e:([a]:List Nat)<[b]↔a<b:=by
  constructor
  ·intro h
   cases h with
   | rel h=>exact h
   | cons h=>cases h
  ·exact fun h=>List.Lex.rel h
 exact decide_eq_decide.mpr e
theorem ZbE:∀x:List Nat,Zv x x=0
 | []=>rfl
 | a::r=>by unfold Zv;rw[if_pos rfl];exact ZbE r
theorem Za9:∀ (x y:List Nat),Zv x y=0→x=y
 | [],[],_=>rfl
 | [],_::_,h=>by unfold Zv at h;omega
 | _::_,[],h=>by unfold Zv at h;omega
 | a::r,b::s,h=>by
  unfold Zv at h
  by_cases e:a=b
  ·rw[if_pos e]at h
   rw[e,Za9 r s h]
  ·rw[if_neg e]at h
   split at h<;>omega
def Zc6:Sp:=fun vs H Q _=>∃x y:Str,vs=[.str x,.str y]∧x.length≤1000∧y.length≤1000∧Q (.int (Zv (cds x) (cds y))) H
def Zc5:Sp:=fun vs H Q _=>∃x y:Str,vs=[.str x,.str y,.int (lcp (cds x) (cds y):Nat)]∧x.length≤1000∧y.length≤1000∧Q (.int (Zv (cds x) (cds y))) H
theorem Zgm(T:Zbg K mg):Df P w K mg base 1 "order_at" ["one", "other", "at"] Zc5:=by
 refine T.t_order_at.df ZdI (fun vs H Q E h=>?_) (fun cdv f A outer s H vs Q E hr h=>?_)
 ·obtain⟨x,y,rfl,_⟩:=h
  rfl
 obtain⟨x,y,rfl,hx,hy,q⟩:=h
 refine⟨_,#[Zg,#[Zan,(@PW.pt _ _ _ (@ZbY _ _ _ _ _ _ _ #[Zs,Zas,‹2›,#[Zj,ZR,T.b.n_len,Qy,#[Za,‹0›,#[Zb]]],(Zq _)] (@ZbW _ _ _ _ #[Zs,Zas,‹2›,#[Zj,ZR,T.b.n_len,Qy,#[Za,‹1›,#[Zb]]],(Zq _)]))),#[Zk,#[Zy,#[Zi]]],(@ZO _)],#[Zg,#[Zan,#[Zs,Zas,‹2›,#[Zj,ZR,T.b.n_len,Qy,#[Za,‹0›,#[Zb]]],(Zq _)],#[Zk,#[Zy,(@Zhm _ _ _ _ _ _ Zgb #[Zi])]],(@ZO _)],#[Zg,#[Zan,#[Zs,Zas,‹2›,#[Zj,ZR,T.b.n_len,Qy,#[Za,‹1›,#[Zb]]],(Zq _)],#[Zk,#[Zy,#[Zi]]],(@ZO _)],#[Zk,#[Zy,(@ZdW _ _ _ _ _ _ _ _ #[Zs,Ze7,#[ZW,Zb1,‹0›,‹2›],#[ZW,Zb1,‹1›,‹2›],(Zq _)] (@Zhm _ _ _ _ _ _ Zgb #[Zi]) #[Zi])]]]]],?_⟩
 obtain⟨o1,o2,o3,o4⟩:=ZeC (cds x) (cds y)
 have ll:=Zc7 (cds x) (cds y)
 have lx:=ZeE x
 have ly:=ZeE y
 have inj:∀ {m n:Nat},V.int (m:Int)=V.int (n:Int)→m=n:=fun {m n} e=>by injection e with e;omega
 refine⟨_,rfl,_,rfl,x,rfl,ZaU hx,rfl,_,rfl,Zbl (fun d=>?_) (fun d=>?_)⟩
 ·have d1:=inj (of_decide_eq_true d)
  refine⟨_,rfl,_,rfl,y,rfl,ZaU hy,rfl,_,rfl,Zbl (fun d2=>?_) (fun d2=>?_)⟩
  ·have d2':=inj (of_decide_eq_true d2)
   rw[o1 (by omega) (by omega)]at q
   exact q
  ·have d2':¬ lcp (cds x) (cds y)=y.length:=fun e=>d2 (by rw[e];exact decide_eq_true rfl)
   refine⟨_,rfl,_,rfl,x,rfl,ZaU hx,rfl,_,rfl,ZeY (by rw[d1]) ?_⟩
   rw[o2 (by omega) (by omega)]at q
   exact⟨_,rfl,q⟩
 ·have d1:¬ lcp (cds x) (cds y)=x.length:=fun e=>d (by rw[e];exact decide_eq_true rfl)
  refine ZaW ⟨_,rfl,_,rfl,x,rfl,ZaU hx,rfl,_,rfl,ZeP (fun e=>d1 (inj e)) ?_⟩
  refine⟨_,rfl,_,rfl,y,rfl,ZaU hy,rfl,_,rfl,Zbl (fun d2=>?_) (fun d2=>?_)⟩
  ·have d2':=inj (of_decide_eq_true d2)
   rw[o3 (by omega) (by omega)]at q
   exact q
  ·have d2':¬ lcp (cds x) (cds y)=y.length:=fun e=>d2 (by rw[e];exact decide_eq_true rfl)
   obtain⟨a,ha,ha'⟩:=Zbv (z:=x) (k:=(lcp (cds x) (cds y):Nat)) (by omega) (by omega)
   obtain⟨b,hb,hb'⟩:=Zbv (z:=y) (k:=(lcp (cds x) (cds y):Nat)) (by omega) (by omega)
   rw[QaB]at ha hb
   refine⟨_,rfl,_,rfl,x,_,a,rfl,rfl,ZaU hx,ha',_,rfl,_,rfl,y,_,b,rfl,rfl,ZaU hy,hb',_,_,rfl,rfl,_,rfl,?_⟩
   rw[ZhM]
   rw[o4 a b ha hb]at q
   refine Zbl (fun e=>?_) (fun e=>?_)
   ·rw[if_pos (of_decide_eq_true e)]at q
    exact⟨_,rfl,q⟩
   ·rw[if_neg (fun z=>e (decide_eq_true z))]at q
    exact q
theorem ZfU(T:Zbg K mg)(f_alike:Df P w K mg base 2 "alike" ["one", "other"] ZcQ)(f_order_at:Df P w K mg base 1 "order_at" ["one", "other", "at"] Zc5):Df P w K mg base 3 "liken" ["one", "other"] Zc6:=by
 refine T.t_liken.df Zgi (fun vs H Q E h=>?_) (fun cdv f A outer s H vs Q E hr h=>?_)
 ·obtain⟨x,y,rfl,_⟩:=h
  rfl
 obtain⟨x,y,rfl,hx,hy,q⟩:=h
 refine⟨_,#[Zk,#[Zy,#[ZG,f_order_at,hr,#[Za,‹0›,#[Za,‹1›,#[Za,#[ZG,f_alike,hr,#[Za,‹0›,#[Za,‹1›,#[Zb]]],(by rfl)],#[Zb]]]],(by rfl)]]],?_⟩
 exact⟨_,rfl,_,rfl,_,rfl,_,rfl,x,y,rfl,hx,hy,x,y,rfl,hx,hy,q⟩
def spLikenFrom:Sp:=fun vs H Q _=>∃ (x y:Str) (far:Nat),vs=[.str x,.str y,.int far]∧x.length≤1000∧y.length≤1000∧far≤lcp (cds x) (cds y) ∧
 ∀t,H t=none→Q (.ref t) (upd H t (.tup [.int (Zv (cds x) (cds y)),.int (lcp (cds x) (cds y):Nat),.int ((lcp (cds x) (cds y):Nat)-(far:Int)+1)]))
def Zho(ss:List Str)(v:V):Prop :=
 (v=.non∧∀i x y,ss[i+1]? = some x→ss[i]? = some y→0≤Zv (cds x) (cds y)) ∨
 ∃k:Nat,v=.int ((k+1:Nat):Int)∧k+1<ss.length∧(∀x y,ss[k+1]? = some x→ss[k]? = some y→Zv (cds x) (cds y)<0)∧∀i,i<k→∀x y,ss[i+1]? = some x→ss[i]? = some y→0≤Zv (cds x) (cds y)
def spBrk(K:PySem.W.Frag):Sp:=fun vs H Q _=>∃ (a:Addr) (ss:List Str),vs=[.ref a]∧SqL K H a (ss.map V.str)∧ss.length≤200∧(∀s∈ss,s.length≤1000)∧∀ (v:V) (H':Hp),Zho ss v→Zn H H'→Q v H'
def spHalves(K:PySem.W.Frag)(tup:Bool):Sp:=fun vs H Q _=>∃ (a:Addr) (ns:List Int),vs=[.ref a]∧SqL K H a (ns.map V.int)∧ns.length≤100 ∧
 ∀ (t f r:Addr) (H':Hp),H t=none→H f=none→H r=none→f≠r→H' t=some (if tup=true then .tup [.ref f,.ref r] else .lst [.ref f,.ref r])→H' f=some (.lst ((Zc2 ns).map V.int))→H' r=some (.lst ((Zfk ns).map V.int))→Zn H H'→t≠f→t≠r→Q (.ref t) H'
def spMany:Sp:=fun vs H Q _=>∃ (p:Addr) (c:Int),vs=[.ref p]∧ZL H p c∧c<2 ^ 50∧∀ (v c':Int) (H':Hp),0≤v→v≤12→ZL H' p c'→c≤c'→c'≤c+3→But p H H'→Q (.int v) H'
def Zjt(k f:Addr)(g:Int):List (Str×V):=Zd2 "gone" (.int g) (Zd2 "fars" (.ref f) (Zd2 "all_keys" (.ref k) []))
structure Zev (C:Addr) (H:Hp) (p k f:Addr) (ss:List Str) (g:Nat):Prop where
 ob:∃dx,H p=some (.ins C dx (Zjt k f g))
 ks:H k=some (.lst (ss.map V.str))
 fs:H f=some (.lst ((List.range ss.length).map fun j=>.int (Zhq ss j)))
def spToGo(C:Addr):Sp:=fun vs H Q _=>∃ (p k f:Addr) (ss:List Str) (g:Nat),vs=[.ref p]∧Zev C H p k f ss g∧Q (.int ((ss.length:Int)-(g:Int))) H
def Zi9(ss:List Str)(g:Nat):V:=match ss[g]? with
 | some z=>.str z
 | none=>.non
def spHead(C:Addr):Sp:=fun vs H Q _=>∃ (p k f:Addr) (ss:List Str) (g:Nat),vs=[.ref p]∧Zev C H p k f ss g∧Q (Zi9 ss g) H
def spRowInit(C:Addr):Sp:=fun vs H Q _=>∃ (p dx a:Addr) (ss:List Str),vs=[.ref p,.ref a]∧H p=some (.ins C dx [])∧H a=some (.lst (ss.map V.str))∧ss.length≤100∧(∀s∈ss,s.length≤1000) ∧
 ∀ (k f:Addr) (H':Hp),H k=none→H f=none→k≠f→Zev C H' p k f ss 0→(∀b o,H b=some o→b≠p→H' b=some o)→Q .non H'
theorem ZcN{K:PySem.W.Frag}{a:Addr}{xs:List V}{k:Nat}{D:Addr}{σ:L2.St}{H1:Hp}{g:TG}{te:TE}{Q:VK}(Pv:Nat→List V→L2.St→Hp→Prop)(h0:Pv 0 [] (σ++List.replicate k none) (upd H1 D (.lst [])))
  (hl:∀i ys σ H,Pv i ys σ H→SqL K H a xs)
  (hs:∀i x ys σ H,xs[i]? = some x→Pv i ys σ H→g x σ H fun σ4 H4=>te σ4 H4 fun y H6=>H6 D=some (.lst ys)∧ys.length<sizeLine∧Pv (i+1) (ys++[y]) σ4 (upd H6 D (.lst (ys++[y]))))
  (hd:∀ys σ H,Pv xs.length ys σ H→Q (.ref D) H):Zch (Itl K a) D k σ H1 g Zea te Q:=by
 refine⟨fun i m ys σ H=>m=xs.length-i∧i≤xs.length∧Pv i ys σ H,⟨xs.length,by simp,QA _,h0⟩,?_⟩
 rintro i m ys σ H ⟨rfl,hi,p⟩
 have q1:=hl i ys σ H p
 by_cases hlt:i<xs.length
 ·refine .inr ⟨⟨xs,xs[i],q1,Qa hlt⟩,Pv (i+1),fun ys' σ' H' p'=>⟨xs.length-(i+1),by omega,rfl,hlt,p'⟩,fun x H' y=>?_⟩
  obtain⟨rfl,e⟩:=y
  simp only[Zea,↓reduceIte]
  exact hs i x ys σ _ (e xs q1) p
 ·have e:i=xs.length:=by omega
  exact .inl ⟨⟨xs,q1,by omega⟩,hd ys σ H (e ▸ p)⟩
theorem Zbo:∀x y:List Nat,x<y↔Zv x y<0
 | [],[]=>by unfold Zv;exact⟨fun h=>absurd h (by simp),fun h=>absurd h (by omega)⟩
 | [],_::_=>by unfold Zv;exact⟨fun _=>by omega,fun _=>List.nil_lt_cons _ _⟩
 | _::_,[]=>by unfold Zv;exact⟨fun h=>absurd h (List.not_lt_nil _),fun h=>absurd h (by omega)⟩
 | a::r,b::s=>by
  have ih:=Zbo r s
  unfold Zv
  rw[List.cons_lt_cons_iff]
  by_cases e:a=b
  ·rw[if_pos e,← ih]
   exact⟨fun h=>h.elim (fun z=>by omega) (fun z=>z.2),fun h=>.inr ⟨e,h⟩⟩
  ·rw[if_neg e]
   by_cases l:a<b
   ·rw[if_pos l];exact⟨fun _=>by omega,fun _=>.inl l⟩
   ·rw[if_neg l];exact⟨fun h=>h.elim (fun z=>absurd z l) (fun z=>absurd z.1 e),fun h=>absurd h (by omega)⟩
abbrev Hd:=Int→Option (List Nat)
def Btr(x:List Nat)(a:Int)(y:List Nat)(b:Int):Prop:=Zv x y<0∨(Zv x y=0∧a<b)
def Win(hd:Hd)(N:List Int):Option Int→Prop
 | none=>∀n∈N,hd n=none
 | some a=>a∈N∧∃x,hd a=some x∧∀b∈N,∀y,hd b=some y→b=a∨Btr x a y b
def lo(N:List Int):List Int:=N.take (mid N)
def up(N:List Int):List Int:=N.drop (mid N)
def Zbp(N:List Int):Int×Int:=(N.headD 0,N.getLastD 0)
abbrev StL:=List ((Int×Int)×Option (Addr×Int×Int))
def stV:Option (Addr×Int×Int)→V
 | none=>.non
 | some t=>.ref t.1
def kvS(s:StL):List (List Key×V):=s.map fun e=>([.inl e.1.1,.inl e.1.2],stV e.2)
def AtS(H:Hp)(s:StL):Prop:=∀e∈s,∀t,e.2=some t→H t.1=some (.tup [.int t.2.1,.int t.2.2])
def Zak(s:StL)(k:Int×Int):Option (Option (Addr×Int×Int)):=(s.find? fun e=>decide (e.1=k)).map (·.2)
def putS(s:StL)(k:Int×Int)(v:Option (Addr×Int×Int)):StL:=if s.any (fun e=>decide (e.1=k)) then s.map (fun e=>if e.1=k then (e.1,v) else e) else s++[(k,v)]
def Zj3(hd:Hd)(s:StL)(N:List Int):Prop :=
 (∀a b x y,Win hd (lo N) (some a)→Win hd (up N) (some b)→hd a=some x→hd b=some y→∃t,Zak s (Zbp N)=some (some (t,if Zv x y<0∨(Zv x y=0∧a<b) then b else a,((lcp x y:Nat):Int)))) ∧
 ((Win hd (lo N) none∨Win hd (up N) none)→Zak s (Zbp N)=none∨Zak s (Zbp N)=some none)
def ZfP(hd:Hd)(s:StL):Nat→List Int→Prop
 | 0,_=>True
 | n+1,N=>2≤N.length→ZfP hd s n (lo N)∧ZfP hd s n (up N)∧Zj3 hd s N
def Zge:Nat→List Int→Int×Int→Prop
 | 0,_,_=>False
 | n+1,N,k=>2≤N.length∧(Zge n (lo N) k∨Zge n (up N) k∨k=Zbp N)
abbrev ZbJ(N:List Int):Prop:=N.Pairwise (·<·)
inductive ZbF (hd:Hd):Nat→List Int→Int→Int→Prop
 | few {n:Nat} {N:List Int}:N.length<2→ZbF hd n N 0 0
 | none {n:Nat} {N:List Int} {k l k' l':Int}:2≤N.length→ZbF hd n (lo N) k l→ZbF hd n (up N) k' l'→(Win hd (lo N) none∨Win hd (up N) none)→ZbF hd (n+1) N (k+k') (l+l')
 | both {n:Nat} {N:List Int} {k l k' l':Int} {a b:Int} {x y:List Nat}:2≤N.length→ZbF hd n (lo N) k l→ZbF hd n (up N) k' l'→Win hd (lo N) (some a)→Win hd (up N) (some b)→hd a=some x→hd b=some y→ZbF hd (n+1) N (k+k'+1) (l+l'+(lcp x y:Nat)+1)
def kk(e:Str×Int):List Key:=[.inr e.1,.inl e.2]
def oV:Option Str→V
 | none=>.non
 | some s=>.str s
def ZbR:Option Int→V
 | none=>.non
 | some a=>.int a
def kvH(E:List (Int×Option Str)):List (Key×V):=E.map fun e=>(.inl e.1,oV e.2)
def lk(E:List (Int×Option Str))(n:Int):Option Str:=(E.find? fun e=>decide (e.1=n)).bind (·.2)
def hdE(E:List (Int×Option Str)):Hd:=fun n=>(lk E n).map cds
def prs(E:List (Int×Option Str))(N:List Int):List (Str×Int):=N.filterMap fun n=>(lk E n).map fun s=>(s,n)
def ZjN:Key→PyData
 | .inl i=>.int i
 | .inr s=>.str s
def tD(k:List Key):PyData:=.tuple (k.map ZjN)
structure Hds (H:Hp) (D:Addr) (E:List (Int×Option Str)):Prop where
 at':H D=some (.dK (kvH E))
 nd:(E.map (·.1)).Nodup
 ok:∀e∈E,∀s,e.2=some s→s.length≤1000∧AZ s
def spLeast(K:PySem.W.Frag):Sp:=fun vs H Q _=>∃ (D l:Addr) (E:List (Int×Option Str)) (N:List Int),vs=[.ref D,.ref l]∧Hds H D E∧SqL K H l (N.map V.int)∧N.length≤60∧(∀n∈N,n∈E.map (·.1)) ∧
 ∀ (v:Option Int) (H':Hp),Win (hdE E) N v→Zn H H'→Q (ZbR v) H'
theorem ZjZ(N:List Int):Zc2 N=lo N:=rfl
theorem ZjA(N:List Int):Zfk N=up N:=rfl
def spFP(K:PySem.W.Frag)(n:Nat):Sp:=fun vs H Q _=>∃ (D l:Addr) (E:List (Int×Option Str)) (N:List Int),vs=[.ref D,.ref l]∧Hds H D E∧SqL K H l (N.map V.int)∧N.length≤60∧0<n∧N.length≤2 ^ (n-1)∧(∀m∈N,m∈E.map (·.1)) ∧
 ∀ (t:Addr) (k q:Int) (H':Hp),ZbF (hdE E) n N k q→H t=none→H' t=some (.tup [.int k,.int q])→Zn H H'→Q (.ref t) H'
abbrev ZQ:=Int×Addr×List Str×Nat
def kvR(L:List ZQ):List (Key×V):=L.map fun e=>(.inl e.1,.ref e.2.1)
def kvG(L:List ZQ):List (Key×V):=L.map fun e=>(.inl e.1,.int (e.2.2.2:Int))
def ZjM(ra ga:Addr)(nb li lo:Int):List (Key×V):=[(.inr "rows",.ref ra),(.inr "gone",.ref ga),(.inr "number",.int nb),(.inr "likenings",.int li),(.inr "looks",.int lo)]
structure Own (H:Hp) (o ra ga:Addr) (L:List ZQ) (nb li lo:Int):Prop where
 at':H o=some (.dK (ZjM ra ga nb li lo))
 rows:H ra=some (.dK (kvR L))
 gone:H ga=some (.dK (kvG L))
 nd:(L.map (·.1)).Nodup
 few:L.length≤60
 lst:∀e∈L,H e.2.1=some (.lst (e.2.2.1.map V.str))∧e.2.2.1.length≤100∧e.2.2.2≤e.2.2.1.length∧∀s∈e.2.2.1,s.length≤1000∧AZ s
structure ZjH (L:List ZQ) (E:List (Int×Option Str)):Prop where
 per:(E.map (·.1)).Perm (L.map (·.1))
 up:(E.map (·.1)).Pairwise (·<·)
 hd:∀e∈L,(e.1,e.2.2.1[e.2.2.2]?)∈E
def spHeads:Sp:=fun vs H Q _=>∃ (o ra ga:Addr) (L:List ZQ) (nb li lo:Int),vs=[.ref o]∧Own H o ra ga L nb li lo ∧
 ∀ (D:Addr) (E:List (Int×Option Str)) (H':Hp),H D=none→Hds H' D E→ZjH L E→Zn H H'→Q (.ref D) H'
def hdL(L:List ZQ):Hd:=fun n=>((L.find? fun e=>decide (e.1=n)).bind fun e=>e.2.2.1[e.2.2.2]?).map cds
theorem ZfT:∀ {L:List ZQ},(L.map (·.1)).Nodup→∀ {e:ZQ},e∈L→hdL L e.1=(e.2.2.1[e.2.2.2]?).map cds
 | [],_,_,h=>by cases h
 | x::r,nd,e,h=>by
  rw[Qv,Q0]at nd
  unfold hdL
  rw[List.find?_cons]
  rcases Qt.mp h with rfl|h
  ·rw[decide_eq_true rfl];rfl
  ·rw[decide_eq_false (fun z:x.1=e.1=>nd.1 (by rw[z];exact QD (f:=fun x:ZQ=>x.1) h))]
   exact ZfT nd.2 h
def Zhy(L:List ZQ)(H:Hp)(x:V):Prop:=(x=.non∧Win (hdL L) (L.map (·.1)) none)∨∃ (t:Addr) (e:ZQ) (z:Str),x=.ref t∧e∈L∧e.2.2.1[e.2.2.2]? = some z∧H t=some (.tup [.int e.1,.int (e.2.2.2:Int),.str z])∧Win (hdL L) (L.map (·.1)) (some e.1)
def spLCom:Sp:=fun vs H Q _=>∃ (o ra ga:Addr) (L:List ZQ) (nb li lo:Int),vs=[.ref o]∧Own H o ra ga L nb li lo∧∀ (x:V) (H':Hp),Zhy L H' x→Zn H H'→Q x H'
def spLPlay:Sp:=fun vs H Q _=>∃ (o ra ga:Addr) (L:List ZQ) (nb li lo:Int),vs=[.ref o]∧Own H o ra ga L nb li lo∧(L.map (·.1)).Pairwise (·<·)∧(∀e∈L,e.2.1≠o) ∧
 ∀ (k q':Int) (H':Hp),ZbF (hdL L) 8 (L.map (·.1)) k q'→Own H' o ra ga L nb (li+k) (lo+q')→But o H H'→Q .non H'
def Zhn(L:List ZQ):List Int:=L.map fun e=>(e.2.2.1.length:Int)-(e.2.2.2:Int)
def spLLeft:Sp:=fun vs H Q _=>∃ (o ra ga:Addr) (L:List ZQ) (nb li lo:Int),vs=[.ref o]∧Own H o ra ga L nb li lo∧∀H':Hp,Zn H H'→Q (.int (Zhn L).sum) H'
structure Zb6 (H:Hp) (r:Addr) (rs:List (Addr×List Str)):Prop where
 at':H r=some (.lst (rs.map fun x=>V.ref x.1))
 few:rs.length≤60
 lst:∀x∈rs,H x.1=some (.lst (x.2.map V.str))∧x.2.length≤100∧∀s∈x.2,s.length≤1000∧AZ s
def ZjI(L:List ZQ)(rs:List (Addr×List Str)):Prop:=L.map (·.1)=Zck 0 rs.length∧L.map (fun e=>e.2.2)=rs.map fun x=>(x.2,0)
def spLWorld:Sp:=fun vs H Q _=>∃ (r:Addr) (rs:List (Addr×List Str)),vs=[.ref r]∧Zb6 H r rs ∧
 ∀ (o ra ga:Addr) (L:List ZQ) (k q':Int) (H':Hp),H o=none→H ra=none→H ga=none→ga≠ra→(∀e∈L,H e.2.1=none∧e.2.1≠o)→ZjI L rs→Own H' o ra ga L (rs.length:Int) k q'→ZbF (hdL L) 8 (L.map (·.1)) k q'→Zn H H'→Q (.ref o) H'
def spLRow:Sp:=fun vs H Q _=>∃ (p l:Addr) (c most:Int) (ss:List Str),vs=[.ref p,.ref l,.int most]∧ZL H p c∧c<2 ^ 40∧0≤most∧most≤60∧H l=some (.lst (ss.map V.str))∧1≤ss.length∧ss.length≤4∧(∀s∈ss,s.length≤24∧AZ s) ∧
 ∀ (r:Addr) (ts:List Str) (c':Int) (H':Hp),H r=none→H' r=some (.lst (ts.map V.str))→(ts.length:Int)≤most→sortedS ts=true→(∀s∈ts,s.length≤28∧AZ s)→ZL H' p c'→c≤c'→c'≤c+600→But p H H'→Q (.ref r) H'
def spLRows:Sp:=fun vs H Q _=>∃ (p:Addr) (c:Int),vs=[.ref p]∧ZL H p c∧c<2 ^ 30 ∧
 ∀ (r:Addr) (rs:List (Addr×List Str)) (c':Int) (H':Hp),H r=none→Zb6 H' r rs→(∀x∈rs,H x.1=none∧x.1≠r∧x.1≠p∧sortedS x.2=true∧x.2.length≤60)→rs.length≤12→ZL H' p c'→c≤c'→c'≤c+10000→But p H H'→Q (.ref r) H'
def spRefuse(K:PySem.W.Frag):Sp:=fun vs H Q _=>∃ (n:Int) (a:Addr) (ss:List Str),vs=[.int n,.ref a]∧SqL K H a (ss.map V.str)∧ss.length≤200∧(∀s∈ss,s.length≤1000)∧Zho ss .non∧∀H',Zn H H'→Q .non H'
structure ZM where
 n:Int
 p:Addr
 k:Addr
 f:Addr
 ss:List Str
 g:Nat
def toL(e:ZM):ZQ:=(e.n,e.p,e.ss,e.g)
def hdM(L:List ZM):Hd:=hdL (L.map toL)
def Z4(L:List ZM):List Int:=L.map (·.n)
def kvM(L:List ZM):List (Key×V):=L.map fun e=>(.inl e.n,.ref e.p)
def mgF(rd:Addr)(nb li lo:Int)(sd:Addr)(best:V):List (Str×V):=[("rows",.ref rd),("next_number",.int nb),("likened",.int li),("looked",.int lo),("stays",.ref sd),("best",best)]
theorem ZiX(f:Str)(v:V):Zd2 f v []=[(f,v)]:=rfl
section
variable (rd:Addr) (nb li lo:Int) (sd:Addr) (best:V)
end
structure ZiS (C:Addr) (H:Hp) (e:ZM):Prop where
 at':Zev C H e.p e.k e.f e.ss e.g
 le:e.g≤e.ss.length
 len:e.ss.length≤100
 srt:sortedS e.ss=true
 str:∀s∈e.ss,s.length≤1000∧AZ s
structure Zaq (cR cM:Addr) (H:Hp) (m rd sd:Addr) (L:List ZM) (s:StL) (nb li lo:Int) (best:V):Prop where
 ob:∃dx,H m=some (.ins cM dx (mgF rd nb li lo sd best))
 rows:H rd=some (.dK (kvM L))
 stays:H sd=some (.dT (kvS s))
 ats:AtS H s
 each:∀e∈L,ZiS cR H e
 up:ZbJ (Z4 L)
 pd:(L.map (·.p)).Nodup
 few:L.length≤60
 sfew:s.length≤100
def Fp(m rd sd:Addr)(L:List ZM)(b:Addr):Prop:=b=m∨b=rd∨b=sd∨∃e∈L,b=e.p∨b=e.k∨b=e.f
section
variable {cR cM:Addr} {H H':Hp} {m rd sd:Addr} {L:List ZM} {s:StL} {nb li lo:Int} {best:V}
end
def spMeet(cR cM:Addr):Sp:=fun vs H Q _=>∃ (m rd sd:Addr) (L:List ZM) (s:StL) (nb li lo:Int) (best:V) (a b:ZM) (x y:Str) (far:Nat),vs=[.ref m,.int a.n,.int b.n,.int (far:Int)]∧Zaq cR cM H m rd sd L s nb li lo best∧a∈L∧b∈L∧a.ss[a.g]? = some x∧b.ss[b.g]? = some y∧far≤lcp (cds x) (cds y) ∧
 ∀ (t:Addr) (wi lz:Int) (H':Hp),(Btr (cds x) a.n (cds y) b.n∧wi=a.n∧lz=b.n∨¬ Btr (cds x) a.n (cds y) b.n∧wi=b.n∧lz=a.n)→H t=none→H' t=some (.tup [.int wi,.int lz,.int ((lcp (cds x) (cds y):Nat):Int)]) →
  Zaq cR cM H' m rd sd L s nb (li+1) (lo+((lcp (cds x) (cds y):Nat)-(far:Int)+1)) best→(∀b o,H b=some o→b≠m→H' b=some o)→Q (.ref t) H'
def spPlay(K:PySem.W.Frag)(cR cM:Addr)(n:Nat):Sp:=fun vs H Q _=>∃ (m rd sd:Addr) (L:List ZM) (s:StL) (nb li lo:Int) (best:V) (l:Addr) (N:List Int),vs=[.ref m,.ref l]∧Zaq cR cM H m rd sd L s nb li lo best∧H l=some (.lst (N.map V.int))∧1≤N.length∧N.length≤60∧0<n∧N.length≤2 ^ (n-1)∧(∀x∈N,x∈Z4 L)∧ZbJ N∧(∀k,Zge n N k→Zak s k=none)∧s.length+N.length≤100 ∧
 ∀ (w:Option Int) (s':StL) (k q:Int) (H':Hp),Win (hdM L) N w→ZfP (hdM L) s' n N→ZbF (hdM L) n N k q→(∀j,¬ Zge n N j→Zak s' j=Zak s j)→s'.length+1≤s.length+N.length→Zaq cR cM H' m rd sd L s' nb (li+k) (lo+q) best→(∀b o,H b=some o→b≠m→b≠sd→H' b=some o)→Q (ZbR w) H'
theorem Ziy{n:Nat}{N:List Int}{k:Int×Int}(_:Zge n N k):Zak [] k=none:=rfl
def spPlayAll(cR cM:Addr):Sp:=fun vs H Q _=>∃ (m rd sd:Addr) (L:List ZM) (s:StL) (nb li lo:Int) (best:V),vs=[.ref m]∧Zaq cR cM H m rd sd L s nb li lo best ∧
 ∀ (sd':Addr) (s':StL) (w:Option Int) (k q:Int) (H':Hp),H sd'=none→Win (hdM L) (Z4 L) w→ZfP (hdM L) s' 8 (Z4 L)→ZbF (hdM L) 8 (Z4 L) k q→Zaq cR cM H' m rd sd' L s' nb (li+k) (lo+q) (ZbR w)→(∀b o,H b=some o→b≠m→H' b=some o)→Q .non H'
def ZjV(L:List ZM)(rs:List (Addr×List Str)):Prop:=Z4 L=Zck 0 rs.length∧L.map (fun e=>(e.ss,e.g))=rs.map fun x=>(x.2,0)
def spMergeInit(cR cM:Addr):Sp:=fun vs H Q _=>∃ (m dx r:Addr) (rs:List (Addr×List Str)),vs=[.ref m,.ref r]∧H m=some (.ins cM dx [])∧Zb6 H r rs∧(∀x∈rs,sortedS x.2=true) ∧
 ∀ (rd sd:Addr) (L:List ZM) (s:StL) (w:Option Int) (k q:Int) (H':Hp),Zaq cR cM H' m rd sd L s (rs.length:Int) k q (ZbR w)→ZjV L rs→Win (hdM L) (Z4 L) w→ZfP (hdM L) s 8 (Z4 L)→ZbF (hdM L) 8 (Z4 L) k q→(∀b,Fp m rd sd L b→b=m∨H b=none)→(∀b o,H b=some o→b≠m→H' b=some o)→Q .non H'
def spLik(cR cM:Addr):Sp:=fun vs H Q _=>∃ (m rd sd:Addr) (L:List ZM) (s:StL) (nb li lo:Int) (best:V),vs=[.ref m]∧Zaq cR cM H m rd sd L s nb li lo best∧Q (.int li) H
def spLks(cR cM:Addr):Sp:=fun vs H Q _=>∃ (m rd sd:Addr) (L:List ZM) (s:StL) (nb li lo:Int) (best:V),vs=[.ref m]∧Zaq cR cM H m rd sd L s nb li lo best∧Q (.int lo) H
def spComing(cR cM:Addr):Sp:=fun vs H Q _=>∃ (m rd sd:Addr) (L:List ZM) (s:StL) (nb li lo:Int) (w:Option Int),vs=[.ref m]∧Zaq cR cM H m rd sd L s nb li lo (ZbR w)∧Win (hdM L) (Z4 L) w∧∀ (x:V) (H':Hp),Zhy (L.map toL) H' x→Zn H H'→Q x H'
def spLeftM(cR cM:Addr):Sp:=fun vs H Q _=>∃ (m rd sd:Addr) (L:List ZM) (s:StL) (nb li lo:Int) (best:V),vs=[.ref m]∧Zaq cR cM H m rd sd L s nb li lo best∧∀H':Hp,Zn H H'→Q (.int (Zhn (L.map toL)).sum) H'
def ZjY(L:List ZQ):List (Int×Option Str):=L.map fun e=>(e.1,e.2.2.1[e.2.2.2]?)
def Zi1(H:Hp)(l:Addr)(E:List (Int×Option Str)):Prop:=∃ts:List (Addr×Int×Option Str),ts.map (·.2)=E∧H l=some (.lst (ts.map fun t=>V.ref t.1))∧∀t∈ts,H t.1=some (.tup [.int t.2.1,oV t.2.2])
def spHeadsM(cR cM:Addr):Sp:=fun vs H Q _=>∃ (m rd sd:Addr) (L:List ZM) (s:StL) (nb li lo:Int) (best:V),vs=[.ref m]∧Zaq cR cM H m rd sd L s nb li lo best∧∀ (l:Addr) (H':Hp),H l=none→Zi1 H' l (ZjY (L.map toL))→Zn H H'→Q (.ref l) H'
def Agr(Lo:List ZQ)(L:List ZM):Prop:=Lo.map (fun e=>(e.1,e.2.2))=L.map (fun e=>(e.n,(e.ss,e.g)))
theorem ZcT{α β:Type}:∀ {P:List (α×β)},(P.map (·.1)).Nodup→∀ {p q:α×β},p∈P→q∈P→p.1=q.1→p=q
 | [],_,_,_,h,_,_=>by cases h
 | x::r,nd,p,q,hp,hq,e=>by
  rw[Qv,Q0]at nd
  rcases Qt.mp hp with h1|h1
  ·rcases Qt.mp hq with h2|h2
   ·rw[h1,h2]
   ·exact absurd (show x.1∈r.map (·.1) by rw[← h1,e];exact QD (f:=fun x:α×β=>x.1) h2) nd.1
  ·rcases Qt.mp hq with h2|h2
   ·exact absurd (show x.1∈r.map (·.1) by rw[← h2,← e];exact QD (f:=fun x:α×β=>x.1) h1) nd.1
   ·exact ZcT nd.2 h1 h2 e
def Zjn(x:V):Prop:=x=.non∨(∃b,x=.bl b)∨(∃i,x=.int i)∨∃s,x=.str s
structure F2 (R:V→V→Prop) (xs ys:List V):Prop where
 len:xs.length=ys.length
 at':∀ (i:Nat) (x y:V),xs[i]? = some x→ys[i]? = some y→R x y
theorem F2.nil{R:V→V→Prop}:F2 R [] []:=⟨rfl,fun i x y h=>by simp at h⟩
theorem F2.cons{R:V→V→Prop}{x y:V}{xs ys:List V}(h:R x y)(t:F2 R xs ys):F2 R (x::xs) (y::ys):=by
 refine⟨by rw[Q5,Q5,t.len],fun i a b ha hb=>?_⟩
 cases i with
 | zero=>simp at ha hb;rw[← ha,← hb];exact h
 | succ i=>exact t.at' i a b (by simpa using ha) (by simpa using hb)
theorem Zgt{H:Hp}{n:Nat}{x:V}(h:Zjn x):IsD H (n+1) x x:=.inl ⟨rfl,h⟩
theorem ZeJ{H:Hp}{n:Nat}(i:Int):IsD H (n+1) (.int i) (.int i):=Zgt (.inr (.inr (.inl ⟨i,rfl⟩)))
theorem ZgW{H:Hp}{n:Nat}{p q:Addr}{xs ys:List V}(hp:H p=some (.lst xs))(hq:H q=some (.lst ys))(h:xs.length≤1000)(f:F2 (IsD H n) xs ys):IsD H (n+1) (.ref p) (.ref q):=.inr ⟨p,q,xs,ys,rfl,rfl,.inl ⟨hp,hq⟩,f.len,h,f.at'⟩
theorem Zhd{H:Hp}{n:Nat}{p q:Addr}{xs ys:List V}(hp:H p=some (.tup xs))(hq:H q=some (.tup ys))(h:xs.length≤1000)(f:F2 (IsD H n) xs ys):IsD H (n+1) (.ref p) (.ref q):=.inr ⟨p,q,xs,ys,rfl,rfl,.inr ⟨hp,hq⟩,f.len,h,f.at'⟩
def spStands(cR cM:Addr):Sp:=fun vs H Q _=>∃ (m rd sd:Addr) (L:List ZM) (s:StL) (nb li lo:Int) (w:Option Int) (o ra ga:Addr) (Lo:List ZQ) (nb':Int),vs=[.ref m,.ref o]∧Zaq cR cM H m rd sd L s nb li lo (ZbR w)∧Win (hdM L) (Z4 L) w∧Own H o ra ga Lo nb' li lo∧Agr Lo L∧∀H',Zn H H'→Q (.bl true) H'
def rowsD(rs:List (Addr×List Str)):PyData:=.list (rs.map fun x=>.list (x.2.map PyData.str))
def Zfj(M:List Int)(n:Int):List Int:=if n∈lo M then lo M else up M
def Zfq(M:List Int)(n:Int):List Int:=if n∈lo M then up M else lo M
def Zbr:Nat→List Int→Int→List (List Int)
 | 0,_,_=>[]
 | k+1,M,n=>if 2≤M.length then Zbr k (Zfj M n) n++[M] else []
inductive Sub (N:List Int):List Int→Prop
 | top:Sub N N
 | lo {M:List Int}:Sub N M→2≤M.length→Sub N (lo M)
 | up {M:List Int}:Sub N M→2≤M.length→Sub N (up M)
def Kys(M:List Int)(k:Int×Int):Prop:=∃M',Sub M M'∧2≤M'.length∧k=Zbp M'
def Zhz(hd:Hd)(s:StL)(A B:List Int)(k:Int×Int):Prop :=
 (∀a b x y,Win hd A (some a)→Win hd B (some b)→hd a=some x→hd b=some y→∃t lz,Zak s k=some (some (t,lz,((lcp x y:Nat):Int)))∧((Btr x a y b∧lz=b)∨(Btr y b x a∧lz=a))) ∧
 ((Win hd A none∨Win hd B none)→Zak s k=none∨Zak s k=some none)
def ZaT(hd:Hd)(s:StL)(N:List Int):Prop:=∀M,Sub N M→2≤M.length→Zhz hd s (lo M) (up M) (Zbp M)
def low(n:Int)(C:List (List Int)):Nat→List Int
 | 0=>[n]
 | i+1=>C.getD i []
structure Tk (hd hd':Hd) (N:List Int) (n:Int) (z:List Nat):Prop where
 win:Win hd N (some n)
 key:hd n=some z
 oth:∀b,b≠n→hd' b=hd b
 nxt:∀x,hd' n=some x→Zv z x≤0
 up:ZbJ N
inductive Ag (hd:Hd) (z:List Nat):List (List Int×List Int)→Int→Int→Prop
 | nil:Ag hd z [] 0 0
 | no {C:List (List Int×List Int)} {A B:List Int} {k q:Int}:Ag hd z C k q→(Win hd A none∨Win hd B none)→Ag hd z (C++[(A,B)]) k q
 | eq {C:List (List Int×List Int)} {A B:List Int} {k q:Int} {a b:Int} {x y:List Nat}:Ag hd z C k q→Win hd A (some a)→Win hd B (some b)→hd a=some x→hd b=some y→lcp x z=lcp y z→Ag hd z (C++[(A,B)]) (k+1) (q+((lcp x y:Nat)-(lcp x z:Nat)+1))
 | ne {C:List (List Int×List Int)} {A B:List Int} {k q:Int} {a b:Int} {x y:List Nat}:Ag hd z C k q→Win hd A (some a)→Win hd B (some b)→hd a=some x→hd b=some y→lcp x z≠lcp y z→Ag hd z (C++[(A,B)]) (k+1) q
abbrev Com:=Option (Int×Int)
def Zhv(hd:Hd)(z:List Nat)(M:List Int)(c:Com):Prop:=Win hd M (c.map (·.1))∧∀p,c=some p→∃x,hd p.1=some x∧p.2=((lcp x z:Nat):Int)
def ZhO:Nat→List Int→Int→List (List Int)
 | 0,_,_=>[]
 | f+1,ns,n=>if ns.length≤1 then [] else if n∈Zc2 ns then Zfk ns::ZhO f (Zc2 ns) n else Zc2 ns::ZhO f (Zfk ns) n
def sideN(ns:List Int)(n:Int):List Int:=if n∈Zc2 ns then Zc2 ns else Zfk ns
def otherN(ns:List Int)(n:Int):List Int:=if n∈Zc2 ns then Zfk ns else Zc2 ns
def way(ns:List Int)(n:Int):List (List Int):=ZhO ns.length ns n
def Rd(H:Hp):List Addr→List (List Int)→Prop
 | [],[]=>True
 | l::ls,d::ds=>H l=some (.lst (d.map V.int))∧Rd H ls ds
 | _,_=>False
def spWay:Sp:=fun vs H Q _=>∃ (a:Addr) (ns:List Int) (n:Int),vs=[.ref a,.int n]∧H a=some (.lst (ns.map V.int))∧1≤ns.length∧ns.length≤100 ∧
 ∀ (r:Addr) (ls:List Addr) (H':Hp),H r=none→H' r=some (.lst (ls.map V.ref))→r ∉ ls→(∀l∈ls,H l=none)→Rd H' ls (way ns n).reverse→Zn H H'→Q (.ref r) H'
def Dn(H:Hp)(a o:Addr)(ns:List Int)(n:Int)(b:Addr)(cur:List Int)(ls:List Addr)(H2:Hp):Prop :=
 ∃done:List (List Int),H2 b=some (.lst (cur.map V.int))∧b≠o∧1≤cur.length∧cur.length≤100∧way ns n=done++way cur n∧Rd H2 ls done∧H2 o=some (.lst (ls.map V.ref))∧Zn H H2∧(∀l∈ls,H l=none)∧o ∉ ls∧ls.length+cur.length≤100
def spMatches:Sp:=fun vs H Q _=>∃ (a:Addr) (N:List Int) (n:Int),vs=[.ref a,.int n]∧H a=some (.lst (N.map V.int))∧n∈N∧N.length≤60∧ZbJ N ∧
 ∀ (r:Addr) (ts:List Addr) (H':Hp),H r=none→H' r=some (.lst (ts.map V.ref))→ts.length=(Zbr 8 N n).length→(∀ (i:Nat) (t:Addr) (X:List Int),ts[i]? = some t→(Zbr 8 N n)[i]? = some X→H' t=some (.tup [.int (Zbp X).1,.int (Zbp X).2]))→Zn H H'→Q (.ref r) H'
def CV(H:Hp)(v:V)(c:Com):Prop:=(c=none∧v=.non)∨∃ (t:Addr) (p:Int×Int),c=some p∧v=.ref t∧H t=some (.tup [.int p.1,.int p.2])
def AgS(hd:Hd)(z:List Nat)(A B:List Int)(k q:Int):Prop:=∀C k0 q0,Ag hd z C k0 q0→Ag hd z (C++[(A,B)]) (k0+k) (q0+q)
def spAgain(cR cM:Addr):Sp:=fun vs H Q _=>∃ (m rd sd:Addr) (L:List ZM) (s:StL) (nb li lo:Int) (best:V) (tm:Addr) (v:V) (c:Com) (z:List Nat) (M:List Int) (n:Int),vs=[.ref m,.ref tm,v]∧Zaq cR cM H m rd sd L s nb li lo best∧H tm=some (.tup [.int (Zbp M).1,.int (Zbp M).2])∧CV H v c∧Zhv (hdM L) z (Zfj M n) c ∧
 ((Win (hdM L) (Zfq M n) none∧(Zak s (Zbp M)=none∨Zak s (Zbp M)=some none))∨∃t b y,Win (hdM L) (Zfq M n) (some b)∧hdM L b=some y∧Zak s (Zbp M)=some (some (t,b,((lcp y z:Nat):Int)))) ∧
 (∀b∈M,∀y,hdM L b=some y→Zv z y≤0)∧ZbJ M∧(∀b∈M,b∈Z4 L)∧2≤M.length∧n∈M ∧
 ∀ (v':V) (c':Com) (s':StL) (k q:Int) (H':Hp),CV H' v' c'→Zhv (hdM L) z M c'→Zhz (hdM L) s' (Zfj M n) (Zfq M n) (Zbp M)→(∀j,j≠Zbp M→Zak s' j=Zak s j)→AgS (hdM L) z (Zfj M n) (Zfq M n) k q →
  Zaq cR cM H' m rd sd L s' nb (li+k) (lo+q) best→(∀b o,H b=some o→b≠m→b≠sd→H' b=some o)→Q v' H'
def ZiZ(n:Int)(e:ZM):ZM:=if e.n=n then ⟨e.n,e.p,e.k,e.f,e.ss,e.g+1⟩ else e
def bump(L:List ZM)(n:Int):List ZM:=L.map (ZiZ n)
def ZbU(n:Int)(C:List (List Int)):List (List Int×List Int):=C.map fun X=>(Zfj X n,Zfq X n)
def spSend(cR cM:Addr):Sp:=fun vs H Q _=>∃ (m rd sd:Addr) (L:List ZM) (s:StL) (nb li lo:Int) (best:V) (e:ZM) (x:Str),vs=[.ref m,.int e.n]∧Zaq cR cM H m rd sd L s nb li lo best∧e∈L∧e.ss[e.g]? = some x∧Win (hdM L) (Z4 L) (some e.n)∧ZaT (hdM L) s (Z4 L) ∧
 ∀ (s':StL) (w':Option Int) (k q:Int) (H':Hp),Zaq cR cM H' m rd sd (bump L e.n) s' nb (li+k) (lo+q) (ZbR w')→Win (hdM (bump L e.n)) (Z4 L) w'→ZaT (hdM (bump L e.n)) s' (Z4 L)→Ag (hdM (bump L e.n)) (cds x) (ZbU e.n (Zbr 8 (Z4 L) e.n)) k q→(∀b o,H b=some o→¬ Fp m rd sd L b→H' b=some o)→Q .non H'
def Zi5(L:List ZM)(w:Option Int)(x:V)(L':List ZM)(k q:Int)(H':Hp):Prop :=
 (w=none∧x=.non∧L'=L∧k=0∧q=0)∨∃ (e:ZM) (t:Addr) (z:Str),e∈L∧w=some e.n∧x=.ref t∧e.ss[e.g]? = some z∧H' t=some (.tup [.int e.n,.int (e.g:Int),.str z])∧L'=bump L e.n∧Ag (hdM L') (cds z) (ZbU e.n (Zbr 8 (Z4 L) e.n)) k q
def spTake(cR cM:Addr):Sp:=fun vs H Q _=>∃ (m rd sd:Addr) (L:List ZM) (s:StL) (nb li lo:Int) (w:Option Int),vs=[.ref m]∧Zaq cR cM H m rd sd L s nb li lo (ZbR w)∧Win (hdM L) (Z4 L) w∧ZaT (hdM L) s (Z4 L) ∧
 ∀ (x:V) (L':List ZM) (s':StL) (w':Option Int) (k q:Int) (H':Hp),Zi5 L w x L' k q H'→Zaq cR cM H' m rd sd L' s' nb (li+k) (lo+q) (ZbR w')→Win (hdM L') (Z4 L') w'→ZaT (hdM L') s' (Z4 L')→(∀b o,H b=some o→¬ Fp m rd sd L b→H' b=some o)→Q x H'
abbrev Zu:=Int×List Str×Nat
def pur(Lo:List ZQ):List Zu:=Lo.map fun e=>(e.1,e.2.2)
def ZhZ(L:List ZM):List Zu:=L.map fun e=>(e.n,(e.ss,e.g))
def hdP(P:List Zu):Hd:=hdL (P.map fun x=>(x.1,0,x.2))
def Zap(P:List Zu):List Int:=P.map (·.1)
def ZS(n:Int)(x:Zu):Zu:=if x.1=n then (x.1,x.2.1,x.2.2+1) else x
def Z5(P:List Zu)(n:Int):List Zu:=P.map (ZS n)
def Zja(n:Int)(e:ZQ):ZQ:=if e.1=n then (e.1,e.2.1,e.2.2.1,e.2.2.2+1) else e
def ZiW(Lo:List ZQ)(n:Int):List ZQ:=Lo.map (Zja n)
theorem Zfh(P:List Zu)(n:Int):Zap (Z5 P n)=Zap P:=by
 unfold Zap Z5
 rw[Qaf]
 refine Qas fun x _=>?_
 simp only[Function.comp]
 unfold ZS
 split<;>rfl
theorem ZbB{P:List Zu}(nd:(Zap P).Nodup){x:Zu}(h:x∈P):hdP P x.1=(x.2.1[x.2.2]?).map cds :=
 ZfT (L:=P.map fun x:Zu=>((x.1,0,x.2):ZQ)) (e:=(x.1,0,x.2)) (by rw[Qaf];exact nd) (QD (f:=fun x:Zu=>((x.1,0,x.2):ZQ)) h)
def ZhA(P:List Zu)(x:Zu)(z:Str)(k q:Int):Prop:=x∈P∧x.2.1[x.2.2]? = some z∧Win (hdP P) (Zap P) (some x.1)∧Ag (hdP (Z5 P x.1)) (cds z) (ZbU x.1 (Zbr 8 (Zap P) x.1)) k q
abbrev Zl:=Int×Nat×Str
inductive Zex (P:List Zu):List Zl→List Zu→Int→Int→Prop
 | nil:Zex P [] P 0 0
 | snoc {ts:List Zl} {P1:List Zu} {x:Zu} {z:Str} {k q k1 q1:Int}:Zex P ts P1 k q→ZhA P1 x z k1 q1→Zex P (ts++[(x.1,x.2.2,z)]) (Z5 P1 x.1) (k+k1) (q+q1)
inductive Zb3:List Zu→Int→Int→Prop
 | stop {P:List Zu}:Win (hdP P) (Zap P) none→Zb3 P 0 0
 | go {P:List Zu} {x:Zu} {z:Str} {k q k1 q1:Int}:ZhA P x z k1 q1→Zb3 (Z5 P x.1) k q→Zb3 P (k1+k) (q1+q)
def Zbi(P:List Zu):Nat:=(P.map fun x=>x.2.1.length-x.2.2).sum
def spFew(K:PySem.W.Frag)(cR cM:Addr):Sp:=fun vs H Q _=>∃ (m rd sd:Addr) (L:List ZM) (s:StL) (nb li lo:Int) (w:Option Int) (many:Int),vs=[.ref m,.int many]∧Zaq cR cM H m rd sd L s nb li lo (ZbR w)∧Win (hdM L) (Z4 L) w∧ZaT (hdM L) s (Z4 L)∧Zbi (ZhZ L)≤100000 ∧
 ∀ (r:Addr) (us:List (Addr×Zl)) (L':List ZM) (s':StL) (w':Option Int) (k q:Int) (H':Hp),H r=none→H' r=some (.lst (us.map fun u=>V.ref u.1))→(∀u∈us,H' u.1=some (.tup [.int u.2.1,.int (u.2.2.1:Int),.str u.2.2.2]))→Zex (ZhZ L) (us.map (·.2)) (ZhZ L') k q→((us.length:Int)<many→w'=none)→(us≠[]→(us.length:Int)≤many)→Zaq cR cM H' m rd sd L' s' nb (li+k) (lo+q) (ZbR w')→Win (hdM L') (Z4 L') w'→ZaT (hdM L') s' (Z4 L')→(∀b,Fp m rd sd L' b↔Fp m rd sd L b)→(∀b o,H b=some o→¬ Fp m rd sd L b→H' b=some o)→Q (.ref r) H'
def spLWay:Sp:=fun vs H Q _=>∃ (a:Addr) (N:List Int) (n:Int),vs=[.ref a,.int n]∧H a=some (.lst (N.map V.int))∧n∈N∧N.length≤60∧ZbJ N ∧
 ∀ (r:Addr) (ts:List (Addr×Addr×Addr)) (H':Hp),H r=none→H' r=some (.lst (ts.map fun t=>V.ref t.1))→ts.length=(Zbr 8 N n).length→(∀ (i:Nat) (t:Addr×Addr×Addr) (X:List Int),ts[i]? = some t→(Zbr 8 N n)[i]? = some X→H' t.1=some (.tup [.ref t.2.1,.ref t.2.2])∧H' t.2.1=some (.lst ((Zfj X n).map V.int))∧H' t.2.2=some (.lst ((Zfq X n).map V.int)))→Zn H H'→Q (.ref r) H'
def ZhT(Lo:List ZQ)(x:V)(Lo':List ZQ)(k q:Int)(H':Hp):Prop :=
 (x=.non∧Win (hdL Lo) (Lo.map (·.1)) none∧Lo'=Lo∧k=0∧q=0)∨∃ (e:ZQ) (t:Addr) (z:Str),e∈Lo∧Win (hdL Lo) (Lo.map (·.1)) (some e.1)∧x=.ref t∧e.2.2.1[e.2.2.2]? = some z∧H' t=some (.tup [.int e.1,.int (e.2.2.2:Int),.str z])∧Lo'=ZiW Lo e.1∧Ag (hdL Lo') (cds z) (ZbU e.1 (Zbr 8 (Lo.map (·.1)) e.1)) k q
def spLTaken:Sp:=fun vs H Q _=>∃ (o ra ga:Addr) (Lo:List ZQ) (nb li lo:Int),vs=[.ref o]∧Own H o ra ga Lo nb li lo∧(Lo.map (·.1)).Pairwise (·<·) ∧
 ∀ (x:V) (Lo':List ZQ) (k q:Int) (H':Hp),ZhT Lo x Lo' k q H'→Own H' o ra ga Lo' nb (li+k) (lo+q)→(∀b u,H b=some u→b≠o→b≠ga→H' b=some u)→Q x H'
structure MS where
 m:Addr
 rd:Addr
 sd:Addr
 L:List ZM
 s:StL
 nb:Int
 li:Int
 lo:Int
 w:Option Int
structure OS where
 o:Addr
 ra:Addr
 ga:Addr
 Lo:List ZQ
 nb:Int
def ZjC(Y:OS)(b:Addr):Prop:=b=Y.o∨b=Y.ra∨b=Y.ga∨∃e∈Y.Lo,b=e.2.1
def MFp(X:MS)(b:Addr):Prop:=Fp X.m X.rd X.sd X.L b
structure MOk (cR cM:Addr) (H:Hp) (X:MS):Prop where
 M:Zaq cR cM H X.m X.rd X.sd X.L X.s X.nb X.li X.lo (ZbR X.w)
 W:Win (hdM X.L) (Z4 X.L) X.w
 ok:ZaT (hdM X.L) X.s (Z4 X.L)
structure Pair (cR cM:Addr) (H:Hp) (X:MS) (Y:OS):Prop where
 mg:MOk cR cM H X
 ow:Own H Y.o Y.ra Y.ga Y.Lo Y.nb X.li X.lo
 ag:Agr Y.Lo X.L
 sep:∀b,MFp X b→¬ ZjC Y b
def Zcn(rs:List (Addr×List Str)):List Zu:=(Zck 0 rs.length).zip (rs.map fun x=>(x.2,0))
theorem ZbH:∀a b:List Nat,Spec.ltCps a b=true↔a<b
 | [],[]=>by simp[Spec.ltCps]
 | [],y::s=>by simp[Spec.ltCps]
 | x::r,[]=>by simp[Spec.ltCps]
 | x::r,y::s=>by
  have ih:=ZbH r s
  rw[List.cons_lt_cons_iff]
  simp[Spec.ltCps,ih]
def LeS(a b:Str):Prop:=¬ b.cps.toList<a.cps.toList
theorem LeS.trans{a b c:Str}(h:LeS a b)(k:LeS b c):LeS a c:=List.not_lt.mpr (List.le_trans (List.not_lt.mp h) (List.not_lt.mp k))
theorem ZcF:∀ (r:List Str) (x:Str),risingS x r=true↔(x::r).Pairwise LeS
 | [],x=>by simp[risingS]
 | y::r,x=>by
  have ih:=ZcF r y
  rw[List.pairwise_cons]
  unfold risingS
  rw[Bool.and_eq_true,Bool.not_eq_true']
  constructor
  ·rintro⟨h1,h2⟩
   have p:=ih.mp h2
   have hxy:LeS x y:=fun z=>by rw[(ZbH _ _).mpr z]at h1;cases h1
   refine⟨fun b hb=>?_,p⟩
   rcases Qt.mp hb with rfl|hb
   ·exact hxy
   ·exact hxy.trans ((Qae.mp p).1 b hb)
  ·rintro⟨h1,h2⟩
   exact⟨Bool.eq_false_iff.mpr fun z=>h1 y (by simp) ((ZbH _ _).mp z),ih.mpr h2⟩
theorem Zaz(ss:List Str):sortedS ss=true↔ss.Pairwise LeS:=by
 cases ss with
 | nil=>simp[sortedS]
 | cons x r=>exact ZcF r x
theorem Zg9{c:Bool}(b2:Bool){e:(Bool→Hp→Prop)→Prop}{T:Bool→Hp→Prop}{H:Hp}(h1:c=true→∀T':Bool→Hp→Prop,(∀H',Zn H H'→T' b2 H')→e T')(q:∀H',Zn H H'→T (c&&b2) H'):if c=true then e T else T false H:=by
 cases c with
 | true=>rw[if_pos rfl];exact h1 rfl T q
 | false=>rw[if_neg Qm];exact q H (Zn.refl H)
def Zdt(P:List Zu):List Str:=P.flatMap fun x=>x.2.1.drop x.2.2
theorem ZcV{ss:List Str}{g:Nat}{z:Str}(h:ss[g]? = some z):ss.drop g=z::ss.drop (g+1):=by
 obtain⟨hlt,e⟩:=Qj.mp h
 rw[List.drop_eq_getElem_cons hlt,e]
theorem ZdV:∀ (P:List Zu),(Zap P).Nodup→∀ {x:Zu} {z:Str},x∈P→x.2.1[x.2.2]? = some z→(z::Zdt (Z5 P x.1)).Perm (Zdt P)
 | [],_,_,_,h,_=>by cases h
 | y::P,nd,x,z,h,hz=>by
  unfold Zap at nd
  rw[Qv,Q0]at nd
  unfold Zdt Z5
  rw[Qv,QaC,QaC]
  rcases Qt.mp h with rfl|h
  ·have e:P.map (ZS x.1)=P:=by
    conv=>rhs;rw[← List.map_id P]
    refine Qas fun u hu=>?_
    unfold ZS
    rw[if_neg (fun z:u.1=x.1=>nd.1 (z ▸ QD (f:=fun x:Zu=>x.1) hu))]
    rfl
   rw[e,ZcV hz]
   unfold ZS
   rw[if_pos rfl]
   exact QaA _
  ·have ih:=ZdV P nd.2 h hz
   unfold Zdt Z5 at ih
   have e:ZS x.1 y=y:=if_neg (fun z:y.1=x.1=>nd.1 (z ▸ QD (f:=fun x:Zu=>x.1) h))
   rw[e]
   exact List.perm_middle.symm.trans (ih.append_left _)
theorem ZfB{a b:Str}(h:Zv (cds a) (cds b)≤0):LeS a b:=fun z=>by
 have z':cds b<cds a:=z
 have:=(Zbo _ _).mp z'
 have:=ZaY (cds a) (cds b)
 omega
theorem LeS.refl(a:Str):LeS a a:=ZfB (by rw[ZbE];exact Int.le_refl _)
theorem LeS.anti{a b:Str}(h:LeS a b)(k:LeS b a):a=b:=by
 have h1:¬ Zv (cds b) (cds a)<0:=fun z=>h ((Zbo _ _).mpr z)
 have h2:¬ Zv (cds a) (cds b)<0:=fun z=>k ((Zbo _ _).mpr z)
 have:=ZaY (cds a) (cds b)
 have e:cds a=cds b:=Za9 _ _ (by omega)
 obtain⟨⟨a⟩⟩:=a
 obtain⟨⟨b⟩⟩:=b
 have e':a=b:=e
 rw[e']
def Zdj(P:List Zu):Prop:=∀x∈P,sortedS x.2.1=true
theorem Zdj.bump{P:List Zu}(h:Zdj P)(n:Int):Zdj (Z5 P n):=fun x hx=>by
 obtain⟨y,hy,rfl⟩:=Qan.mp hx
 unfold ZS
 split
 ·exact h y hy
 ·exact h y hy
theorem ZgN{a b:List Str}(ha:sortedS a=true)(hb:sortedS b=true)(p:a.Perm b):a=b:=List.Perm.eq_of_pairwise (fun x y _ _ h1 h2=>h1.anti h2) ((Zaz _).mp ha) ((Zaz _).mp hb) p
theorem Zin{x y:Str}(h:cds x=cds y):x=y:=by
 obtain⟨x⟩:=x
 obtain⟨y⟩:=y
 have:x=y:=Array.ext' h
 rw[this]
theorem Zd4{K:PySem.W.Frag}{a:Addr}{xs:List V}{k:Nat}{D:Addr}{σ:L2.St}{H1:Hp}{g:TG}{tc:TT}{te:TE}{Q:VK}(Pv:Nat→List V→L2.St→Hp→Prop)(h0:Pv 0 [] (σ++List.replicate k none) (upd H1 D (.lst [])))
  (hl:∀i zs σ H,Pv i zs σ H→SqL K H a xs)
  (hs:∀i zs σ H x p,xs[i]? = some x→Pv i zs σ H→H p=none→g (.ref p) σ (upd H p (.tup [.int i,x])) fun σ4 H4=>tc σ4 H4 fun b H5=>if b=true then te σ4 H5 fun z H6=>H6 D=some (.lst zs)∧zs.length<sizeLine∧Pv (i+1) (zs++[z]) σ4 (upd H6 D (.lst (zs++[z]))) else Pv (i+1) zs σ4 H5)
  (hd:∀zs σ H,Pv xs.length zs σ H→Q (.ref D) H):Zch (Ite K a) D k σ H1 g tc te Q:=by
 refine⟨fun i m zs σ H=>m=xs.length-i∧i≤xs.length∧Pv i zs σ H,⟨xs.length,by simp,QA _,h0⟩,?_⟩
 rintro i m zs σ H ⟨rfl,hi,p⟩
 have q1:=hl i zs σ H p
 by_cases hlt:i<xs.length
 ·refine .inr ⟨⟨xs,q1,hlt⟩,Pv (i+1),fun ys' σ' H' p'=>⟨xs.length-(i+1),by omega,rfl,hlt,p'⟩,fun x H' y=>?_⟩
  obtain⟨r,hr,rfl,e⟩:=y
  have e':=e xs q1 _ (Qa hlt)
  subst e'
  exact hs i zs σ H _ r (Qa hlt) p hr
 ·have e:i=xs.length:=by omega
  exact .inl ⟨⟨xs,q1,by omega⟩,hd zs σ H (e ▸ p)⟩
def ZcH(P:List Zu)(x:Zu)(z:Str):Prop:=x∈P∧x.2.1[x.2.2]? = some z∧Win (hdP P) (Zap P) (some x.1)
inductive TkW (P:List Zu):List Zl→List Zu→Prop
 | nil:TkW P [] P
 | snoc {ts:List Zl} {P1:List Zu} {x:Zu} {z:Str}:TkW P ts P1→ZcH P1 x z→TkW P (ts++[(x.1,x.2.2,z)]) (Z5 P1 x.1)
theorem TkW.num{P P':List Zu}{ts:List Zl}(h:TkW P ts P'):Zap P'=Zap P:=by
 induction h with
 | nil=>rfl
 | snoc _ _ ih=>rw[Zfh,ih]
theorem ZcH.le{P:List Zu}(nd:(Zap P).Nodup)(srt:Zdj P){x:Zu}{z:Str}(h:ZcH P x z):∀y∈Zdt P,LeS z y:=fun y hy=>by
 obtain⟨hx,hz,W⟩:=h
 obtain⟨_,zc,hzc,hall⟩:=W
 rw[ZbB nd hx,hz]at hzc
 have hzc':cds z=zc:=Qp hzc
 subst hzc'
 obtain⟨u,hu,hyu⟩:=List.mem_flatMap.mp hy
 cases hh:u.2.1[u.2.2]? with
 | none=>rw[List.drop_eq_nil_of_le (List.getElem?_eq_none_iff.mp hh)]at hyu;cases hyu
 | some hd =>
  have hle:LeS hd y:=by
   have p:(u.2.1.drop u.2.2).Pairwise LeS:=((Zaz _).mp (srt u hu)).sublist (List.drop_sublist _ _)
   rw[ZcV hh]at p hyu
   rcases Qt.mp hyu with rfl|hyu
   ·exact LeS.refl _
   ·exact(Qae.mp p).1 y hyu
  have hd':=ZbB nd hu
  rw[hh]at hd'
  rcases hall u.1 (QD (f:=fun x:Zu=>x.1) hu) _ hd' with e|b
  ·have e2:=ZcT nd hu hx e
   subst e2
   have:=Qp (hz.symm.trans hh)
   rw[this];exact hle
  ·refine(ZfB ?_).trans hle
   rcases b with b|⟨b,_⟩<;>omega
theorem TkW.srt{P P':List Zu}{ts:List Zl}(h:TkW P ts P')(nd:(Zap P).Nodup)(srt:Zdj P):Zdj P'∧(ts.map (·.2.2)++Zdt P').Perm (Zdt P)∧(ts.map (·.2.2)).Pairwise LeS∧∀a∈ts.map (·.2.2),∀b∈Zdt P',LeS a b:=by
 induction h with
 | nil=>exact⟨srt,QaA _,List.Pairwise.nil,fun a ha=>by cases ha⟩
 | snoc h s ih =>
  obtain⟨i1,i2,i3,i4⟩:=ih
  have nd1:=nd
  rw[← h.num]at nd1
  have pm:=ZdV _ nd1 s.1 s.2.1
  have le:=s.le nd1 i1
  refine⟨i1.bump _,?_,?_,fun a ha b hb=>?_⟩
  ·rw[Qh,QI]
   exact(pm.append_left _).trans i2
  ·rw[Qh]
   refine QZ.mpr ⟨i3,Qaw _ _,fun a ha b hb=>?_⟩
   have eb:=Qf.mp hb
   rw[eb]
   exact i4 a ha _ (pm.mem_iff.mp (Qq ..))
  ·have hb':=pm.mem_iff.mp (Qg _ hb)
   rw[Qh]at ha
   rcases Qn.mp ha with ha|ha
   ·exact i4 a ha b hb'
   ·rw[Qf.mp ha]
    exact le b hb'
def LtT(u v:Zl):Prop:=Zv (cds u.2.2) (cds v.2.2)<0∨(u.2.2=v.2.2∧(u.1<v.1∨(u.1=v.1∧u.2.1<v.2.1)))
theorem Zbb{a b:Str}(h:LeS a b):Zv (cds a) (cds b)<0∨a=b:=by
 by_cases e:Zv (cds a) (cds b)<0
 ·exact .inl e
 ·refine .inr (h.anti fun z=>e ((Zbo _ _).mp z))
theorem ZcX{ss:List Str}(h:sortedS ss=true){i j:Nat}(hij:i≤j){x y:Str}(hx:ss[i]? = some x)(hy:ss[j]? = some y):LeS x y:=by
 rcases Nat.lt_or_eq_of_le hij with hlt|rfl
 ·have p:=(Zaz _).mp h
  obtain⟨h1,e1⟩:=Qj.mp hx
  obtain⟨h2,e2⟩:=Qj.mp hy
  rw[← e1,← e2]
  exact Qap.mp p i j h1 h2 hlt
 ·rw[Qp (hx.symm.trans hy)];exact LeS.refl _
theorem Zc0{a b c:Str}(h:Zv (cds a) (cds b)<0)(g:LeS b c):Zv (cds a) (cds c)<0:=by
 rcases Zbb g with g|rfl
 ·have h1:=Zb0 _ _ _ (Int.le_of_lt h) (Int.le_of_lt g)
  by_cases e:Zv (cds a) (cds c)=0
  ·have e2:=Za9 _ _ e
   rw[← e2]at g
   have:=ZaY (cds a) (cds b)
   omega
  ·omega
 ·exact h
theorem TkW.lt{P P':List Zu}{ts:List Zl}(h:TkW P ts P')(nd:(Zap P).Nodup)(srt:Zdj P):ts.Pairwise LtT∧∀u∈ts,∀x∈P',∀ (k:Nat) (y:Str),x.2.2≤k→x.2.1[k]? = some y→LtT u (x.1,k,y):=by
 induction h with
 | nil=>exact⟨List.Pairwise.nil,fun u hu=>by cases hu⟩
 | snoc h s ih =>
  rename_i ts P1 x z
  obtain⟨i1,i2⟩:=ih
  have nd1:(Zap P1).Nodup:=by rw[h.num];exact nd
  have srt1:=(h.srt nd srt).1
  obtain⟨hx,hz,W⟩:=s
  obtain⟨_,zc,hzc,hall⟩:=W
  rw[ZbB nd1 hx,hz]at hzc
  have hzc':cds z=zc:=Qp hzc
  subst hzc'
  refine⟨QZ.mpr ⟨i1,Qaw _ _,fun u hu v hv=>?_⟩,fun u hu w hw k y hk hy=>?_⟩
  ·rw[Qf.mp hv]
   exact i2 u hu x hx x.2.2 z (Ql _) hz
  ·obtain⟨w0,hw0,rfl⟩:=Qan.mp hw
   have e1:(ZS x.1 w0).1=w0.1:=by unfold ZS;split<;>rfl
   have e2:(ZS x.1 w0).2.1=w0.2.1:=by unfold ZS;split<;>rfl
   have e3:w0.2.2≤(ZS x.1 w0).2.2:=by unfold ZS;split<;>simp
   rw[e2]at hy
   rw[e1]
   rcases Qn.mp hu with hu|hu
   ·exact i2 u hu w0 hw0 k y (QM e3 hk) hy
   ·rw[Qf.mp hu]
    by_cases hn:w0.1=x.1
    ·have:=ZcT nd1 hw0 hx hn
     subst this
     have hk':w0.2.2+1≤k:=by
      have:(ZS w0.1 w0).2.2=w0.2.2+1:=by unfold ZS;rw[if_pos rfl]
      omega
     rcases Zbb (ZcX (srt1 w0 hw0) (by omega) hz hy) with g|g
     ·exact .inl g
     ·exact .inr ⟨g,.inr ⟨rfl,hk'⟩⟩
    ·have hk':w0.2.2≤k:=QM e3 hk
     obtain⟨hkl,_⟩:=Qj.mp hy
     obtain⟨hd,hhd⟩:∃hd,w0.2.1[w0.2.2]? = some hd:=⟨_,Qa (by omega)⟩
     have hle:=ZcX (srt1 w0 hw0) hk' hhd hy
     have hd':=ZbB nd1 hw0
     rw[hhd]at hd'
     rcases hall w0.1 (QD (f:=fun x:Zu=>x.1) hw0) _ hd' with e|b
     ·exact absurd e hn
     ·rcases b with b|⟨b,bl⟩
      ·exact .inl (Zc0 b hle)
      ·have ez:z=hd:=Zin (Za9 _ _ b)
       rw[ez]
       rcases Zbb hle with g|g
       ·exact .inl g
       ·exact .inr ⟨g,.inl bl⟩
def TupAt(H:Hp)(u:Addr×Zl):Prop:=H u.1=some (.tup [.int u.2.1,.int (u.2.2.1:Int),.str u.2.2.2])
def kT(u:Zl):List Key:=[.inr u.2.2,.inl u.1,.inl (u.2.1:Int)]
def ZdM(x:Zu):List Zl:=((x.2.1.drop x.2.2).zipIdx x.2.2).map fun e=>(x.1,e.2,e.1)
def ZaV(P:List Zu):List Zl:=P.flatMap ZdM
theorem ZfD{x:Zu}{u:Zl}(h:u∈ZdM x):u.1=x.1∧x.2.2≤u.2.1∧x.2.1[u.2.1]? = some u.2.2:=by
 unfold ZdM at h
 obtain⟨e,he,rfl⟩:=Qan.mp h
 have h1:=List.mem_zipIdx_iff_le_and_getElem?_sub.mp he
 refine⟨rfl,h1.1,?_⟩
 have h2:=h1.2
 rw[List.getElem?_drop]at h2
 show x.2.1[e.2]? = some e.1
 rw[← h2]
 congr 1
 omega
theorem ZdO{P:List Zu}{u:Zl}(h:u∈ZaV P):∃x∈P,u.1=x.1∧x.2.2≤u.2.1∧x.2.1[u.2.1]? = some u.2.2:=by
 obtain⟨x,hx,hu⟩:=List.mem_flatMap.mp h
 exact⟨x,hx,ZfD hu⟩
theorem ZcJ:∀ (P:List Zu),(Zap P).Nodup→∀ {x:Zu} {z:Str},x∈P→x.2.1[x.2.2]? = some z→((x.1,x.2.2,z)::ZaV (Z5 P x.1)).Perm (ZaV P)
 | [],_,_,_,h,_=>by cases h
 | y::P,nd,x,z,h,hz=>by
  unfold Zap at nd
  rw[Qv,Q0]at nd
  unfold ZaV Z5
  rw[Qv,QaC,QaC]
  rcases Qt.mp h with rfl|h
  ·have e:P.map (ZS x.1)=P:=by
    conv=>rhs;rw[← List.map_id P]
    refine Qas fun u hu=>?_
    unfold ZS
    rw[if_neg (fun z:u.1=x.1=>nd.1 (z ▸ QD (f:=fun x:Zu=>x.1) hu))]
    rfl
   have e2:ZdM x=(x.1,x.2.2,z)::ZdM (ZS x.1 x):=by
    unfold ZdM ZS
    rw[if_pos rfl,ZcV hz]
    rfl
   rw[e,e2]
   exact QaA _
  ·have ih:=ZcJ P nd.2 h hz
   unfold ZaV Z5 at ih
   have e:ZS x.1 y=y:=if_neg (fun z:y.1=x.1=>nd.1 (z ▸ QD (f:=fun x:Zu=>x.1) h))
   rw[e]
   exact List.perm_middle.symm.trans (ih.append_left _)
theorem Zf7(P:List Zu):(ZaV P).length=Zbi P:=by
 unfold ZaV Zbi
 rw[List.length_flatMap]
 congr 1
 refine Qas fun x _=>?_
 unfold ZdM
 rw[Qb,Qag,QS]
def ZaX(P:List Zu)(D:List Zl):Prop:=D.Perm (ZaV P)∧D.Pairwise fun a b=>ZH (kT b) (kT a)=false
theorem Zdh{u v:Zl}(h:LtT u v):ZH (kT u) (kT v)=true:=by
 unfold kT
 rcases h with h|⟨e,h⟩
 ·have hne:u.2.2≠v.2.2:=fun z=>by rw[z,ZbE]at h;omega
  rw[ZaH,if_neg (fun z=>hne (Sum.inr.inj z))]
  exact decide_eq_true ((Zbo _ _).mpr h)
 ·rw[ZaH,if_pos (by rw[e]),ZaH]
  rcases h with h|⟨e2,h⟩
  ·rw[if_neg (fun z=>by have:=Sum.inl.inj z;omega)]
   exact decide_eq_true h
  ·rw[if_pos (by rw[e2]),ZaH,if_neg (fun z=>by have:=Sum.inl.inj z;omega)]
   exact decide_eq_true (by omega)
theorem ZaX.len{P:List Zu}{D:List Zl}(O:ZaX P D):D.length=Zbi P:=by rw[O.1.length_eq,Zf7]
theorem ZaX.step{P:List Zu}{D:List Zl}(O:ZaX P D)(nd:(Zap P).Nodup)(srt:Zdj P){x:Zu}{z:Str}(s:ZcH P x z):∃D',D=(x.1,x.2.2,z)::D'∧ZaX (Z5 P x.1) D':=by
 have pb:=ZcJ P nd s.1 s.2.1
 have hin:(x.1,x.2.2,z)∈D:=O.1.mem_iff.mpr (pb.mem_iff.mp (Qq ..))
 have hlt:=((TkW.nil.snoc s).lt nd srt).2 (x.1,x.2.2,z) (by simp)
 cases D with
 | nil=>cases hin
 | cons d D' =>
  have hd:d=(x.1,x.2.2,z):=by
   rcases Qt.mp hin with e|hin
   ·exact e.symm
   ·have h1:=(Qae.mp O.2).1 _ hin
    have h2:d∈ZaV P:=O.1.mem_iff.mp (Qq ..)
    rcases Qt.mp (pb.mem_iff.mpr h2) with e|h3
    ·exact e
    ·obtain⟨y,hy,e1,e2,e3⟩:=ZdO h3
     have h4:=Zdh (hlt y hy d.2.1 d.2.2 e2 e3)
     have e4:(y.1,d.2.1,d.2.2)=d:=by rw[← e1]
     rw[e4,h1]at h4
     cases h4
  subst hd
  exact⟨D',rfl,(List.perm_cons _).mp (O.1.trans pb.symm),(Qae.mp O.2).2⟩
theorem Zf5(rs:List (Addr×List Str))(x:Addr×List Str):Zcn (rs++[x])=Zcn rs++[((rs.length:Int),x.2,0)]:=by
 unfold Zcn
 rw[Qh,Qd,List.length_singleton]
 have e:Zck 0 (rs.length+1)=Zck 0 rs.length++[(rs.length:Int)]:=by
  unfold Zck
  rw[List.range_succ,Qh,List.map_singleton,Int.zero_add]
 rw[e,List.zip_append (by unfold Zck;rw[Qb,Qb,List.length_range])]
 rfl
theorem Ze9(rs:List (Addr×List Str))(x:Addr×List Str):ZaV (Zcn (rs++[x]))=ZaV (Zcn rs)++(x.2.zipIdx.map fun e=>((rs.length:Int),e.2,e.1)):=by
 rw[Zf5]
 unfold ZaV
 rw[List.flatMap_append,List.flatMap_singleton]
 rfl
def Zfv(us:List (Addr×Zl)):ZbG:=us.map fun u=>(u.1,kT u.2)
theorem ZcI(us:List (Addr×Zl)):Za5 (Zfv us)=us.map fun u=>V.ref u.1:=by unfold Za5 Zfv;rw[Qaf];rfl
def KAt(H:Hp)(u:Addr×Zl):Prop:=H u.1=some (.tup [.str u.2.2.2,.int u.2.1,.int (u.2.2.1:Int)])
def Zia:Sp:=fun vs H Q _=>∃ (r:Addr) (rs:List (Addr×List Str)),vs=[.ref r]∧Zb6 H r rs ∧
 ∀ (l:Addr) (us:List (Addr×Zl)) (H':Hp),H l=none→H' l=some (.lst (us.map fun u=>V.ref u.1))→(∀u∈us,KAt H' u)→ZaX (Zcn rs) (us.map (·.2))→Zn H H'→Q (.ref l) H'
theorem Zfa(T:Zbg K mg):Df P w K mg base 1 "_law_order" ["_law_rows"] Zia:=by
 refine T.t_l_order.df ZaN (fun vs H Q E h=>?_) (fun cdv f A outer s H vs Q E hr h=>?_)
 ·obtain⟨r,rs,rfl,_⟩:=h
  rfl
 obtain⟨r,rs,rfl,hrs,q⟩:=h
 refine⟨_,#[Zg,#[ZA,1,ZaN.nd,(Or.inl rfl),#[Zam,#[Zb]]],#[Zg,#[Zbj,PassesOwn.never,(@iE _ K _ _ _ _ _ _ _ T.b.n_enumerate #[Za,‹0›,#[Zb]] (by rfl) (by rfl) (by rfl)),#[gT,K,2,#[ZI,#[Z2,2,ZaN.nd,(Or.inr rfl)],#[ZI,#[Z2,3,ZaN.nd,(Or.inl rfl)],(@Zba _)]]],#[Zk,#[Zau,#[ZbO,QE,PySem.F.slot_list_extend,PySem.F.type_list_extend,Zfm,‹1›,#[Za,#[Zbd,Zfs,(@iE _ K _ _ _ _ _ _ _ T.b.n_enumerate #[Za,‹3›,#[Zb]] (by rfl) (by rfl) (by rfl)),(fun _ _ _ _=>#[gT,K,2,#[ZI,#[cg,4,Zfs],#[ZI,#[cg,5,Zfs],(@Zba _)]]]),(fun _ _ _ _=>(@Zar _)),(fun _ _ _ _=>#[Z9,#[Za,#[cw,5,Zfs],#[Za,#[cv,2,Zfs],#[Za,#[cw,4,Zfs],#[Zb]]]]])],#[Zb]]]]]],#[Zk,#[Zy,#[Zj,(Zjk K),T.b.n_sorted,boot_sorted,#[Za,‹1›,#[Zb]]]]]]],?_⟩
 have hfew:=hrs.few
 refine⟨(by show 0≤sizeLine;decide),fun fo hfo=>?_⟩
 have s1:=Zh hfo (.lst [])
 refine⟨_,rfl,r,_,rfl,SqL.of (s1 _ _ hrs.at'),?_⟩
 refine ZfQ (K:=K) (a:=r) (xs:=rs.map fun x=>V.ref x.1) (fun i σ H2=>∃ (v2 v3:Option V) (us:List (Addr×Zl)),σ=[some (.ref r),some (.ref fo),v2,v3]∧H2 fo=some (.lst (us.map fun u=>V.ref u.1))∧(∀u∈us,u.1≠fo∧KAt H2 u)∧us.map (·.2)=ZaV (Zcn (rs.take i))∧us.length≤100*i∧Zn H H2) ⟨_,_,[],rfl,Zd,(fun u h=>by cases h),rfl,by decide,s1⟩ (fun i σ H2 hq=>by obtain⟨_,_,_,_,_,_,_,_,s2⟩:=hq;exact SqL.of (s2 _ _ hrs.at')) ?_ ?_
 ·rintro i y σ H2 p hy ⟨v2,v3,us,rfl,hf2,hus,hal,hln,s2⟩ hp
  rw[Qu]at hy
  cases hz:rs[i]? with
  | none=>rw[hz]at hy;cases hy
  | some x =>
  rw[hz]at hy
  cases hy
  have hil:i<rs.length:=(Qj.mp hz).1
  obtain⟨lx,l100,laz⟩:=hrs.lst x (QR hz)
  have sp:=Zh hp (.tup [.int (i:Int),.ref x.1])
  have hp3:(upd H2 p (.tup [.int (i:Int),.ref x.1])) p=some (.tup [.int (i:Int),.ref x.1]):=Zd
  have hf3:=sp _ _ hf2
  have hus3:∀u∈us,u.1≠fo∧KAt (upd H2 p (.tup [.int (i:Int),.ref x.1])) u:=fun u hu=>⟨(hus u hu).1,sp _ _ (hus u hu).2⟩
  have s3:=s2.trans sp
  generalize upd H2 p (.tup [.int (i:Int),.ref x.1])=H3 at hp3 hf3 hus3 s3 ⊢
  have lx3:=s3 _ _ lx
  refine⟨p,_,rfl,SqT.of hp3,rfl,_,_,rfl,_,_,rfl,rfl,?_⟩
  refine⟨_,rfl,.inl ⟨rfl,_,SqL.of hf3⟩,_,rfl,x.1,x.2.map V.str,rfl,SqL.of lx3,fun D hD=>?_⟩
  refine Zd4 (K:=K) (a:=x.1) (xs:=x.2.map V.str) (fun k zs σ H4=>(∃v1 v2:Option V,σ=[some (.ref r),some (.ref fo),some (.int (i:Int)),some (.ref x.1),v1,v2])∧(∃ws:List (Addr×Zl),zs=(ws.map fun u=>V.ref u.1)∧ws.length=k∧ws.map (·.2)=((x.2.zipIdx).take k).map (fun e=>((i:Int),e.2,e.1))∧∀u∈ws,u.1≠D∧H3 u.1=none∧KAt H4 u)∧k≤x.2.length∧H4 D=some (.lst zs)∧Zn H3 H4) ?_ (fun _ _ _ _ h=>SqL.of (h.2.2.2.2 _ _ lx3)) ?_ ?_
  ·exact⟨⟨none,none,rfl⟩,⟨[],rfl,rfl,rfl,fun u h=>by cases h⟩,QA _,Zd,Zh hD _⟩
  ·rintro k zs σ H4 y p4 hy ⟨⟨v1,v2',rfl⟩,⟨ws,rfl,hwl,hw,hws⟩,hk,hD4,s4⟩ hp4
   rw[Qu]at hy
   cases hz2:x.2[k]? with
   | none=>rw[hz2]at hy;cases hy
   | some z =>
   rw[hz2]at hy
   cases hy
   have hkl:k<x.2.length:=(Qj.mp hz2).1
   have sp4:=Zh hp4 (.tup [.int (k:Int),.str z])
   have hp5:(upd H4 p4 (.tup [.int (k:Int),.str z])) p4=some (.tup [.int (k:Int),.str z]):=Zd
   have hD5:=sp4 _ _ hD4
   have s5:=s4.trans sp4
   have hws5:∀u∈ws,u.1≠D∧H3 u.1=none∧KAt (upd H4 p4 (.tup [.int (k:Int),.str z])) u:=fun u hu=>⟨(hws u hu).1,(hws u hu).2.1,sp4 _ _ (hws u hu).2.2⟩
   generalize upd H4 p4 (.tup [.int (k:Int),.str z])=H5 at hp5 hD5 s5 hws5 ⊢
   refine⟨p4,_,rfl,SqT.of hp5,rfl,_,_,rfl,_,_,rfl,rfl,?_⟩
   refine⟨_,rfl,_,rfl,_,rfl,(by show 3≤sizeLine;decide),fun n hn=>?_⟩
   have sn:=Zh hn (.tup [.str z,.int (i:Int),.int (k:Int)])
   have nDn:D≠n:=Zc hD5 hn
   refine⟨sn _ _ hD5,(by rw[Qb,hwl,sizeLine_eq];omega),⟨_,_,rfl⟩,⟨ws++[(n,((i:Int),k,z))],by rw[Qh];rfl,by rw[Qd,hwl];rfl,?_,fun u hu=>?_⟩,hkl,Zd,fun b o hb=>?_⟩
   ·rw[Qh,hw,Qab,List.getElem?_zipIdx,hz2,Qh]
    simp
   ·rcases Qn.mp hu with hu|hu
    ·obtain⟨g1,g2,g3⟩:=hws5 u hu
     exact⟨g1,g2,by show upd _ D _ u.1=_;rw[Zf g1];exact sn _ _ g3⟩
    ·rw[Qf.mp hu]
     exact⟨nDn.symm,s5.free hn,by show upd _ D _ n=_;rw[Zf nDn.symm];exact Zd⟩
   ·rw[Zf (Zc hb hD)];exact sn _ _ (s5 b o hb)
  rintro zs σ H4 ⟨⟨v1,v2',rfl⟩,⟨ws,rfl,hwl,hw,hws⟩,_,hD4,s4⟩
  rw[Qb]at hwl hw
  rw[QG (by rw[Qag];exact Ql _)]at hw
  have hf4:=s4 _ _ hf3
  have nDf:fo≠D:=Zc hf3 hD
  refine⟨fo,D,_,_,rfl,rfl,hf4,hD4,(by rw[Qb,Qb,hwl,sizeLine_eq];omega),?_⟩
  refine⟨_,_,us++ws,rfl,by rw[Zd,Qh],fun u hu=>?_,?_,by rw[Qd,hwl];omega,fun b o hb=>?_⟩
  ·rcases Qn.mp hu with hu|hu
   ·obtain⟨g1,g2⟩:=hus3 u hu
    exact⟨g1,by show upd _ fo _ u.1=_;rw[Zf g1];exact s4 _ _ g2⟩
   ·obtain⟨g1,g2,g3⟩:=hws u hu
    have nf:u.1≠fo:=fun z=>by rw[z,hf3]at g2;cases g2
    exact⟨nf,by show upd _ fo _ u.1=_;rw[Zf nf];exact g3⟩
  ·rw[Qh,hal,hw,Qab,hz]
   show _=ZaV (Zcn (rs.take i++[x]))
   rw[Ze9,QB,Nat.min_eq_left (by omega)]
  ·rw[Zf (Zc hb hfo)];exact s4 _ _ (s3 b o hb)
 ·rintro σ H2 ⟨v2,v3,us,rfl,hf2,hus,hal,hln,s2⟩
  rw[Qb,QG (Ql _)]at hal
  refine⟨_,rfl,fo,Zfv us,[false,true,true],rfl,SqL.of (by rw[ZcI];exact hf2),fun t ht=>?_,(by decide),fun t ht=>?_,fun l ts' hl hp hs=>?_⟩
  ·obtain⟨u,hu,rfl⟩:=Qan.mp ht
   exact(hus u hu).2
  ·obtain⟨u,hu,rfl⟩:=Qan.mp ht
   rfl
  ·obtain⟨us',hp',e⟩:=ZdJ (fun u:Addr×Zl=>(u.1,kT u.2)) hp us rfl
   have e2:ts'=Zfv us':=e
   subst e2
   have sl:=Zh hl (.lst (Za5 (Zfv us')))
   refine q l us' _ (s2.free hl) (by rw[Zd,ZcI]) (fun u hu=>sl _ _ (hus u (hp'.mem_iff.mp hu)).2) ⟨?_,?_⟩ (s2.trans sl)
   ·rw[← hal];exact hp'.map _
   ·have:=hs
    unfold Zfv at this
    rw[QaD]at this ⊢
    exact this
theorem Zdu{H:Hp}{n:Nat}:∀ (us vs:List (Addr×Zl)),us.map (·.2)=vs.map (·.2)→(∀u∈us,H u.1=some (.tup [.int u.2.1,.int (u.2.2.1:Int)]))→(∀u∈vs,H u.1=some (.tup [.int u.2.1,.int (u.2.2.1:Int)]))→F2 (IsD H (n+2)) (us.map fun u=>V.ref u.1) (vs.map fun u=>V.ref u.1)
 | [],[],_,_,_=>.nil
 | [],_::_,e,_,_=>by cases e
 | _::_,[],e,_,_=>by cases e
 | u::us,v::vs,e,h,g=>by
  rw[Qv,Qv]at e
  obtain⟨e1,e2⟩:=List.cons.inj e
  have hu:=h u (by simp)
  have hv:=g v (by simp)
  rw[← e1]at hv
  exact .cons (Zhd hu hv (by show 2≤1000;decide) (.cons (ZeJ _) (.cons (ZeJ _) .nil))) (Zdu us vs e2 (fun x hx=>h x (Qg _ hx)) (fun x hx=>g x (Qg _ hx)))
def st2(a b:List Str)(i j:Nat):List Zu:=[(0,a,i),(1,b,j)]
theorem ZcR(a b:List Str)(i j:Nat):(Zap (st2 a b i j)).Nodup:=by unfold Zap st2;simp
theorem Zii(a b:List Str)(i j:Nat):Z5 (st2 a b i j) 0=st2 a b (i+1) j:=by unfold Z5 st2 ZS;simp
theorem Zh4(a b:List Str)(i j:Nat):Z5 (st2 a b i j) 1=st2 a b i (j+1):=by unfold Z5 st2 ZS;simp
theorem Zew{a b:List Str}(ha:sortedS a=true)(hb:sortedS b=true)(i j:Nat):Zdj (st2 a b i j):=fun x hx=>by
 unfold st2 at hx
 rcases Qt.mp hx with rfl|hx
 ·exact ha
 ·rw[Qf.mp hx];exact hb
theorem Zep(a b:List Str)(i j:Nat):hdP (st2 a b i j) 0=(a[i]?).map cds:=ZbB (ZcR a b i j) (x:=(0,a,i)) (by unfold st2;simp)
theorem ZeF(a b:List Str)(i j:Nat):hdP (st2 a b i j) 1=(b[j]?).map cds:=ZbB (ZcR a b i j) (x:=(1,b,j)) (by unfold st2;simp)
theorem ZbV(a b:List Str)(i j:Nat):Zap (st2 a b i j)=[0,1]:=rfl
theorem ZeQ{a b:List Str}{i j:Nat}{x:Str}(hx:a[i]? = some x)(h:∀y,b[j]? = some y→Zv (cds x) (cds y)≤0):ZcH (st2 a b i j) (0,a,i) x:=by
 refine⟨by unfold st2;simp,hx,by rw[ZbV];simp,cds x,by rw[Zep,hx];rfl,fun n hn y hy=>?_⟩
 rw[ZbV]at hn
 rcases Qt.mp hn with rfl|hn
 ·exact .inl rfl
 ·rw[Qf.mp hn,ZeF]at hy
  cases hb:b[j]? with
  | none=>rw[hb]at hy;cases hy
  | some z =>
   rw[hb]at hy
   have e:=Qp hy
   have:=h z hb
   rw[e]at this
   refine .inr ?_
   rw[Qf.mp hn]
   by_cases e0:Zv (cds x) y=0
   ·exact .inr ⟨e0,by show (0:Int)<1;decide⟩
   ·exact .inl (by omega)
theorem Zfc{a b:List Str}{i j:Nat}{x:Str}(hx:b[j]? = some x)(h:∀y,a[i]? = some y→Zv (cds y) (cds x)>0):ZcH (st2 a b i j) (1,b,j) x:=by
 refine⟨by unfold st2;simp,hx,by rw[ZbV];simp,cds x,by rw[ZeF,hx];rfl,fun n hn y hy=>?_⟩
 rw[ZbV]at hn
 rcases Qt.mp hn with rfl|hn
 ·rw[Zep]at hy
  cases hb:a[i]? with
  | none=>rw[hb]at hy;cases hy
  | some z =>
   rw[hb]at hy
   have e:=Qp hy
   have:=h z hb
   rw[e]at this
   have:=ZaY y (cds x)
   exact .inr (.inl (by omega))
 ·exact .inl (Qf.mp hn)
def Zcl(H:Hp)(u:Addr×Zl):Prop:=H u.1=some (.tup [.int u.2.1,.int (u.2.2.1:Int)])
def Zi8:Sp:=fun vs H Q _=>∃ (o t:Addr) (a b:List Str) (D:List Zl),vs=[.ref o,.ref t]∧H o=some (.lst (a.map V.str))∧H t=some (.lst (b.map V.str))∧a.length≤100∧b.length≤100∧(∀s∈a,s.length≤1000)∧(∀s∈b,s.length≤1000)∧sortedS a=true∧sortedS b=true∧ZaX (st2 a b 0 0) D ∧
 ∀ (l:Addr) (us:List (Addr×Zl)) (H':Hp),H l=none→H' l=some (.lst (us.map fun u=>V.ref u.1))→(∀u∈us,u.1≠l∧Zcl H' u)→us.map (·.2)=D→Zn H H'→Q (.ref l) H'
structure Tld (H0 H:Hp) (l:Addr) (D:List Zl) (a b:List Str) (i j:Nat) (us:List (Addr×Zl)):Prop where
 l0:H0 l=none
 ls:H l=some (.lst (us.map fun u=>V.ref u.1))
 at':∀u∈us,u.1≠l∧Zcl H u
 ord:∃D',D=us.map (·.2)++D'∧ZaX (st2 a b i j) D'
 len:us.length=i+j
 sm:Zn H0 H
theorem Tld.same{H0 H H':Hp}{l:Addr}{D:List Zl}{a b:List Str}{i j:Nat}{us:List (Addr×Zl)}(h:Tld H0 H l D a b i j us)(s:Zn H H'):Tld H0 H' l D a b i j us:=⟨h.l0,s _ _ h.ls,fun u hu=>⟨(h.at' u hu).1,s _ _ (h.at' u hu).2⟩,h.ord,h.len,h.sm.trans s⟩
theorem Tld.put{H0 H:Hp}{l:Addr}{D:List Zl}{a b:List Str}{i j:Nat}{us:List (Addr×Zl)}(h:Tld H0 H l D a b i j us){n:Addr}{u:Zl}(hn:H n=none){i' j':Nat}(hl:i'+j'=i+j+1)(hs:∀D',ZaX (st2 a b i j) D'→∃D'',D'=u::D''∧ZaX (st2 a b i' j') D'') :
  Tld H0 (upd (upd H n (.tup [.int u.1,.int (u.2.1:Int)])) l (.lst ((us.map fun u=>V.ref u.1)++[.ref n]))) l D a b i' j' (us++[(n,u)]):=by
 have sn:=Zh hn (.tup [.int u.1,.int (u.2.1:Int)])
 have nln:l≠n:=Zc h.ls hn
 refine⟨h.l0,by rw[Zd,Qh];rfl,fun x hx=>?_,?_,by rw[Qd,h.len,hl];rfl,fun b' o hb=>?_⟩
 ·rcases Qn.mp hx with hx|hx
  ·obtain⟨g1,g2⟩:=h.at' x hx
   exact⟨g1,by show upd _ l _ x.1=_;rw[Zf g1];exact sn _ _ g2⟩
  ·rw[Qf.mp hx]
   exact⟨nln.symm,by show upd _ l _ n=_;rw[Zf nln.symm];exact Zd⟩
 ·obtain⟨D',e,O⟩:=h.ord
  obtain⟨D'',e2,O2⟩:=hs D' O
  exact⟨D'',by rw[e,e2,Qh,QI];rfl,O2⟩
 ·rw[Zf (Zc hb h.l0)];exact sn _ _ (h.sm b' o hb)
theorem Zh2(T:Zbg K mg)(f_liken:Df P w K mg base 3 "liken" ["one", "other"] Zc6):Df P w K mg base 4 "two_merged" ["one", "other"] Zi8:=by
 refine T.t_two_merged.df ZD (fun vs H Q E h=>?_) (fun cdv f A outer s H vs Q E hr h=>?_)
 ·obtain⟨o,t,a,b,D,rfl,_⟩:=h
  rfl
 obtain⟨o,t,a,b,D,rfl,ho,ht,la,lb,sa,sb,ra,rb,hO,q⟩:=h
 refine⟨_,#[Zg,#[ZA,2,ZD.nd,(Or.inl rfl),#[Zam,#[Zb]]],#[Zg,#[ZA,3,ZD.nd,(Or.inl rfl),#[Zi]],#[Zg,#[ZA,4,ZD.nd,(Or.inl rfl),#[Zi]],#[Zg,(@Zdo _ _ _ _ _ _ PassesOwn.never (@PW.pt _ _ _ (@ZbY _ _ _ _ _ _ _ #[Zs,ZdP,‹3›,#[Zj,(ZbT K),T.b.n_len,Qy,#[Za,‹0›,#[Zb]]],(Zq _)] (@ZbW _ _ _ _ #[Zs,ZdP,‹4›,#[Zj,(ZbT K),T.b.n_len,Qy,#[Za,‹1›,#[Zb]]],(Zq _)]))) #[Zk,#[Zan,#[Zs,ZiI,#[ZG,f_liken,hr,#[Za,#[ZW,(ixL K),‹0›,‹3›],#[Za,#[ZW,(ixL K),‹1›,‹4›],#[Zb]]],(by rfl)],#[Zi],(Zq _)],#[Zg,#[Zau,#[ZbO,QE,QO,QP,Z8,‹2›,#[Za,#[Z9,#[Za,#[Zi],#[Za,‹3›,#[Zb]]]],#[Zb]]]],#[Zk,#[Zeg,3,ZD.nd,#[Zi],Zek]]],#[Zg,#[Zau,#[ZbO,QE,QO,QP,Z8,‹2›,#[Za,#[Z9,#[Za,#[Zi],#[Za,‹4›,#[Zb]]]],#[Zb]]]],#[Zk,#[Zeg,4,ZD.nd,#[Zi],Zek]]]]]),#[Zg,#[Zbj,PassesOwn.never,(@Zcs _ _ _ _ _ _ _ rfl T.b.n_range #[Za,‹3›,#[Za,#[Zj,(ZbT K),T.b.n_len,Qy,#[Za,‹0›,#[Zb]]],#[Zb]]] (by rfl) (by rfl)),#[Z2,5,ZD.nd,(Or.inl rfl)],#[Zk,#[Zau,#[ZbO,QE,QO,QP,Z8,‹2›,#[Za,#[Z9,#[Za,#[Zi],#[Za,‹5›,#[Zb]]]],#[Zb]]]]]],#[Zg,#[Zbj,PassesOwn.never,(@Zcs _ _ _ _ _ _ _ rfl T.b.n_range #[Za,‹4›,#[Za,#[Zj,(ZbT K),T.b.n_len,Qy,#[Za,‹1›,#[Zb]]],#[Zb]]] (by rfl) (by rfl)),#[Z2,5,ZD.nd,(Or.inl rfl)],#[Zk,#[Zau,#[ZbO,QE,QO,QP,Z8,‹2›,#[Za,#[Z9,#[Za,#[Zi],#[Za,‹5›,#[Zb]]]],#[Zb]]]]]],#[Zk,#[Zy,‹2›]]]]]]]],?_⟩
 refine⟨(by show 0≤sizeLine;decide),fun l hl=>?_⟩
 have T0:Tld H (upd H l (.lst [])) l D a b 0 0 []:=⟨hl,Zd,(fun u h=>by cases h),⟨D,rfl,hO⟩,rfl,Zh hl _⟩
 have step0:∀ {i j:Nat} {x:Str},a[i]? = some x→(∀y,b[j]? = some y→Zv (cds x) (cds y)≤0)→∀D',ZaX (st2 a b i j) D'→∃D'',D'=(0,i,x)::D''∧ZaX (st2 a b (i+1) j) D'':=fun {i j x} hx h D' O=>by
  obtain⟨D'',e,O'⟩:=O.step (ZcR a b i j) (Zew ra rb i j) (ZeQ hx h)
  exact⟨D'',e,by rw[← Zii];exact O'⟩
 have step1:∀ {i j:Nat} {x:Str},b[j]? = some x→(∀y,a[i]? = some y→Zv (cds y) (cds x)>0)→∀D',ZaX (st2 a b i j) D'→∃D'',D'=(1,j,x)::D''∧ZaX (st2 a b i (j+1)) D'':=fun {i j x} hx h D' O=>by
  obtain⟨D'',e,O'⟩:=O.step (ZcR a b i j) (Zew ra rb i j) (Zfc hx h)
  exact⟨D'',e,by rw[← Zh4];exact O'⟩
 refine⟨fun mm σ H2=>∃ (i j:Nat) (us:List (Addr×Zl)) (v5:Option V),σ=[some (.ref o),some (.ref t),some (.ref l),some (.int (i:Int)),some (.int (j:Int)),v5]∧Tld H H2 l D a b i j us∧i≤a.length∧j≤b.length∧mm=a.length+b.length-(i+j),⟨_,0,0,[],_,rfl,T0,QA _,QA _,rfl⟩,?_⟩
 rintro mm σ H2 ⟨i,j,us,v5,rfl,T2,hi,hj,rfl⟩
 have ho2:=T2.sm _ _ ho
 have ht2:=T2.sm _ _ ht
 have hlA:(((a.map V.str).length:Nat):Int)=(a.length:Int):=by rw[Qb]
 have hlB:(((b.map V.str).length:Nat):Int)=(b.length:Int):=by rw[Qb]
 refine⟨_,rfl,_,rfl,o,_,rfl,.inl (SqL.of ho2),_,_,rfl,rfl,_,rfl,?_⟩
 rw[hlA]
 refine Zg9 (decide ((j:Int)<(b.length:Int))) (fun _ T' h1=>?_) (fun H3 s3=>?_)
 ·refine⟨_,rfl,_,rfl,t,_,rfl,.inl (SqL.of ht2),_,_,rfl,rfl,_,rfl,?_⟩
  rw[hlB]
  exact h1 H2 (Zn.refl H2)
 have T3:=T2.same s3
 have ho3:=T3.sm _ _ ho
 have ht3:=T3.sm _ _ ht
 clear T2 s3 ho2 ht2
 refine Zbl (fun d=>?_) (fun d=>?_)
 ·rw[Bool.and_eq_true]at d
  have d1:=of_decide_eq_true d.1
  have d2:=of_decide_eq_true d.2
  have hia:i<a.length:=by omega
  have hjb:j<b.length:=by omega
  have ai:a[i]? = some a[i]:=Qa hia
  have bj:b[j]? = some b[j]:=Qa hjb
  have atA:atI (a.map V.str) (i:Int)=some (.str a[i]):=ZaQ (by rw[Qu,ai];rfl)
  have atB:atI (b.map V.str) (j:Int)=some (.str b[j]):=ZaQ (by rw[Qu,bj];rfl)
  refine⟨_,fun σ' H' h=>h,?_⟩
  refine⟨_,rfl,_,rfl,xw4 o _ _ _ ⟨rfl,rfl,SqL.of ho3,atA,_,rfl,_,rfl,xw4 t _ _ _ ⟨rfl,rfl,SqL.of ht3,atB,_,_,rfl,sa _ (QX hia),sb _ (QX hjb),?_⟩⟩⟩
  refine⟨_,_,rfl,rfl,_,rfl,Zbl (fun d=>?_) (fun d=>?_)⟩
  ·have d':Zv (cds a[i]) (cds b[j])≤0:=of_decide_eq_true d
   refine⟨_,rfl,.inl ⟨rfl,_,SqL.of T3.ls⟩,_,rfl,(by show 2≤sizeLine;decide),fun n hn=>?_⟩
   have T4:=T3.put (u:=(0,i,a[i])) (i':=i+1) (j':=j) hn (by omega) (step0 ai fun y hy=>by rw[bj]at hy;rw[← Qp hy];exact d')
   have sn:=Zh hn (.tup [.int 0,.int (i:Int)])
   refine⟨l,_,_,rfl,rfl,sn _ _ T3.ls,(by rw[Qb,T3.len,sizeLine_eq];omega),?_⟩
   refine⟨_,rfl,_,_,rfl,rfl,?_⟩
   exact⟨a.length+b.length-(i+1+j),by omega,i+1,j,_,_,rfl,T4,by omega,by omega,rfl⟩
  ·have d':Zv (cds a[i]) (cds b[j])>0:=by have:¬ (Zv (cds a[i]) (cds b[j])≤0):=fun z=>d (decide_eq_true z);omega
   refine⟨_,rfl,.inl ⟨rfl,_,SqL.of T3.ls⟩,_,rfl,(by show 2≤sizeLine;decide),fun n hn=>?_⟩
   have T4:=T3.put (u:=(1,j,b[j])) (i':=i) (j':=j+1) hn (by omega) (step1 bj fun y hy=>by rw[ai]at hy;rw[← Qp hy];exact d')
   have sn:=Zh hn (.tup [.int 1,.int (j:Int)])
   refine⟨l,_,_,rfl,rfl,sn _ _ T3.ls,(by rw[Qb,T3.len,sizeLine_eq];omega),?_⟩
   refine⟨_,rfl,_,_,rfl,rfl,?_⟩
   exact⟨a.length+b.length-(i+(j+1)),by omega,i,j+1,_,_,rfl,T4,by omega,by omega,rfl⟩
 ·have hor:a.length≤i∨b.length≤j:=by
   by_cases h:a.length≤i
   ·exact .inl h
   ·refine .inr (Nat.le_of_not_lt fun z=>d ?_)
    rw[Bool.and_eq_true]
    exact⟨decide_eq_true (by omega),decide_eq_true (by omega)⟩
  clear d
  refine⟨_,rfl,_,rfl,o,_,rfl,.inl (SqL.of ho3),_,_,rfl,⟨by omega,by omega,by omega,by omega⟩,?_⟩
  refine Zah (fun k σ H4=>∃ (v5:Option V) (us:List (Addr×Zl)),σ=[some (.ref o),some (.ref t),some (.ref l),some (.int (i:Int)),some (.int (j:Int)),v5]∧Tld H H4 l D a b (i+k) j us∧i+k≤a.length) ⟨_,us,rfl,T3,hi⟩ ?_ ?_
  ·rintro k σ H4 hk ⟨v5,us,rfl,T4,hik⟩
   rw[hlA]at hk
   have hkl:i+k<a.length:=by omega
   have ai:a[i+k]? = some a[i+k]:=Qa hkl
   refine⟨_,rfl,.inl ⟨rfl,_,SqL.of T4.ls⟩,_,rfl,(by show 2≤sizeLine;decide),fun n hn=>?_⟩
   have T5:=T4.put (u:=(0,i+k,a[i+k])) (i':=i+(k+1)) (j':=j) hn (by omega) (step0 ai fun y hy=>by have:=(Qj.mp hy).1;omega)
   have sn:=Zh hn (.tup [.int 0,.int ((i:Int)+(k:Int))])
   refine⟨l,_,_,rfl,rfl,sn _ _ T4.ls,(by rw[Qb,T4.len,sizeLine_eq];omega),?_⟩
   exact⟨_,_,rfl,by rw[Int.natCast_add]at T5;exact T5,by omega⟩
  ·rintro σ H4 ⟨v5,us,rfl,T4,hik⟩
   rw[hlA]at T4 hik
   have e1:i+((a.length:Int)-(i:Int)).toNat=a.length:=by omega
   rw[e1]at T4
   have ht4:=T4.sm _ _ ht
   refine⟨_,rfl,_,rfl,t,_,rfl,.inl (SqL.of ht4),_,_,rfl,⟨by omega,by omega,by omega,by omega⟩,?_⟩
   refine Zah (fun k σ H5=>∃ (v5:Option V) (us:List (Addr×Zl)),σ=[some (.ref o),some (.ref t),some (.ref l),some (.int (i:Int)),some (.int (j:Int)),v5]∧Tld H H5 l D a b a.length (j+k) us∧j+k≤b.length) ⟨_,us,rfl,T4,hj⟩ ?_ ?_
   ·rintro k σ H5 hk ⟨v5,us,rfl,T5,hjk⟩
    rw[hlB]at hk
    have hkl:j+k<b.length:=by omega
    have bj:b[j+k]? = some b[j+k]:=Qa hkl
    refine⟨_,rfl,.inl ⟨rfl,_,SqL.of T5.ls⟩,_,rfl,(by show 2≤sizeLine;decide),fun n hn=>?_⟩
    have T6:=T5.put (u:=(1,j+k,b[j+k])) (i':=a.length) (j':=j+(k+1)) hn (by omega) (step1 bj fun y hy=>by have:=(Qj.mp hy).1;omega)
    have sn:=Zh hn (.tup [.int 1,.int ((j:Int)+(k:Int))])
    refine⟨l,_,_,rfl,rfl,sn _ _ T5.ls,(by rw[Qb,T5.len,sizeLine_eq];omega),?_⟩
    exact⟨_,_,rfl,by rw[Int.natCast_add]at T6;exact T6,by omega⟩
   ·rintro σ H5 ⟨v5,us,rfl,T5,hjk⟩
    rw[hlB]at T5 hjk
    have e2:j+((b.length:Int)-(j:Int)).toNat=b.length:=by omega
    rw[e2]at T5
    obtain⟨D',e,O⟩:=T5.ord
    have h0:=O.len
    have:Zbi (st2 a b a.length b.length)=0:=by unfold Zbi st2;simp
    have hD':D'=[]:=QC (by omega)
    rw[hD',List.append_nil]at e
    exact⟨_,rfl,q l us H5 hl T5.ls T5.at' e.symm T5.sm⟩
theorem ZdT(a:List Str):∃b:List Str,Zcr (a.map V.str) none none 2=b.map V.str∧b.length≤a.length∧(∀s∈b,s∈a)∧(sortedS a=true→sortedS b=true):=by
 have eb:∀n:Nat,sliceBounds none none (some 2) n=(0,(n:Int),2):=fun n=>rfl
 unfold Zcr
 rw[eb]
 generalize hI:sliceRange (0,(((a.map V.str).length:Nat):Int),(2:Int)).1 (0,(((a.map V.str).length:Nat):Int),(2:Int)).2.1 (0,(((a.map V.str).length:Nat):Int),(2:Int)).2.2=I
 have hI1:I.Pairwise (·≤·):=by
  rw[← hI]
  unfold sliceRange
  rw[QaD]
  exact(List.pairwise_lt_range).imp fun h=>by show (0+2*_:Int).toNat≤(0+2*_:Int).toNat;omega
 have hI2:I.length≤a.length:=by
  rw[← hI]
  unfold sliceRange
  rw[Qb,List.length_range,Qb]
  show (if (2:Int)>0 then (if (0:Int)<(a.length:Int) then ((a.length:Int)-0+2-1) / 2 else 0) else _).toNat≤_
  rw[if_pos (by decide)]
  split<;>omega
 refine⟨I.filterMap fun i=>a[i]?,?_,?_,fun s hs=>?_,fun h=>?_⟩
 ·rw[List.map_filterMap]
  congr 1
  funext i
  rw[Qu]
 ·exact QM (List.length_filterMap_le _ _) hI2
 ·obtain⟨i,_,hi⟩:=List.mem_filterMap.mp hs
  exact QR hi
 ·refine(Zaz _).mpr ?_
  rw[List.pairwise_filterMap]
  exact hI1.imp fun hij x hx y hy=>ZcX h hij hx hy
def ZgM(H H':Hp)(p o t:Addr)(a b:List Str):Prop:=H' o=some (.lst (a.map V.str))∧H' t=some (.lst (b.map V.str))∧H o=none∧H t=none∧o≠p∧t≠p∧a.length≤50∧b.length≤50∧(∀s∈a,s.length≤28∧AZ s)∧(∀s∈b,s.length≤28∧AZ s)∧sortedS a=true∧sortedS b=true
def ZhV:Sp:=fun vs H Q _=>∃ (p:Addr) (c:Int),vs=[.ref p]∧ZL H p c∧c<2 ^ 30 ∧
 ∀ (x o t:Addr) (a b:List Str) (c':Int) (H':Hp),H' x=some (.tup [.ref o,.ref t])→ZgM H H' p o t a b→ZL H' p c'→c'≤c+2000→But p H H'→Q (.ref x) H'
theorem Zd1(T:Zbg K mg)(f_l_pick:Df P w K mg base 2 "_law_pick" ["_law_left_here", "_law_many"] ZbL)(f_l_stems:Df P w K mg base 3 "_law_stems" ["_law_left_here"] ZcY)(f_l_keys:Df P w K mg base 4 "_law_keys" ["_law_left_here", "_law_stems_here", "_law_most"] ZdZ):Df P w K mg base 5 "_law_two_rows" ["_law_left_here"] ZhV:=by
 refine T.t_l_two_rows.df ZC (fun vs H Q E h=>?_) (fun cdv f A outer s H vs Q E hr h=>?_)
 ·obtain⟨p,c,rfl,_⟩:=h
  rfl
 obtain⟨p,c,rfl,L4,hc,q⟩:=h
 refine⟨_,#[Zg,#[ZA,1,ZC.nd,(Or.inl rfl),#[ZG,f_l_stems,hr,#[Za,‹0›,#[Zb]],(by rfl)]],#[Zg,#[ZA,2,ZC.nd,(Or.inl rfl),#[ZW,(ixL K),#[Zam,#[Za,#[Zi],#[Za,#[Zi],#[Zb]]]],#[ZaI,Zcz,T.b.n_int,boot_int,#[Za,#[ZaM,Zas,#[ZG,f_l_pick,hr,#[Za,‹0›,#[Za,#[Zi],#[Zb]]],(by rfl)],#[Zi],(Zq _)],#[Zb]]]]],#[Zg,#[ZA,3,ZC.nd,(Or.inl rfl),#[Zj,(ZiP K),T.b.n_sorted,boot_sorted,#[Za,#[ZG,f_l_keys,hr,#[Za,‹0›,#[Za,‹1›,#[Za,‹2›,#[Zb]]]],(by rfl)],#[Zb]]]],#[Zg,#[ZA,4,ZC.nd,(Or.inl rfl),#[Zj,(ZiP K),T.b.n_sorted,boot_sorted,#[Za,#[ZG,f_l_keys,hr,#[Za,‹0›,#[Za,‹1›,#[Za,‹2›,#[Zb]]]],(by rfl)],#[Zb]]]],#[Zg,#[ZA,5,ZC.nd,(Or.inl rfl),#[ZG,f_l_pick,hr,#[Za,‹0›,#[Za,#[Zi],#[Zb]]],(by rfl)]],#[Zg,#[Zan,#[Zs,Zas,‹5›,#[Zi],(Zq _)],#[Zk,#[ZA,4,ZC.nd,(Or.inl rfl),#[ZaI,(Zf6 K),T.b.n_list,boot_list,#[Za,‹3›,#[Zb]]]]],(@ZO _)],#[Zg,#[Zan,#[Zs,Zas,‹5›,#[Zi],(Zq _)],#[Zk,#[ZA,4,ZC.nd,(Or.inl rfl),(@Ze0 _ _ _ _ _ _ _ _ _ _ _ _ (ZjS K) ‹3› (@Zeu _) (@Zeu _) (@Zhi _ _ _ #[Zi]))]],(@ZO _)],#[Zk,#[Zy,#[Z9,#[Za,‹3›,#[Za,‹4›,#[Zb]]]]]]]]]]]]],?_⟩
 have c0:=L4.ge
 refine⟨_,rfl,p,c,rfl,L4,by omega,fun l ss c5 H5 hl0 hl5 n1 n4 h24 L5 a1 a2 B5=>?_⟩
 refine⟨(by show 2≤sizeLine;decide),fun e he=>?_⟩
 have npe:p≠e:=by obtain⟨o,ho⟩:=L5.here;exact Zc ho he
 have nle:l≠e:=Zc hl5 he
 have npl:p≠l:=by obtain⟨o,ho⟩:=L4.here;exact Zc ho hl0
 refine⟨_,rfl,p,c5,_,rfl,L5.new he,by omega,by decide,by decide,fun d H6 d0 d1 L6 B6=>?_⟩
 have he6:H6 e=some (.lst [.int 12,.int 50]):=B6 e _ Zd npe.symm
 have hl6:H6 l=some (.lst (ss.map V.str)):=B6 l _ (by rw[Zf nle];exact hl5) npl.symm
 obtain⟨most,hmost,m0,m1⟩:=Zg6 (decide (V.int d=V.int 0))
 have B06:But p H H6:=(B5.trans (But.same (Zh he _))).trans B6
 refine⟨rfl,.inr ⟨_,rfl,xw4 e _ _ _ ⟨rfl,rfl,SqL.of he6,hmost,?_⟩⟩⟩
 refine⟨_,rfl,_,rfl,_,rfl,p,l,c5+1,most,ss,rfl,L6,by omega,m0,by omega,hl6,n1,n4,h24,fun r ts c7 H7 hr0 hr7 htl h28 L7 a3 a4 B7=>?_⟩
 refine⟨r,ts,rfl,SqL.of hr7,by omega,fun o as ho perm srt=>?_⟩
 have npo:p≠o:=by obtain⟨x,hx⟩:=L7.here;exact Zc hx ho
 have s8:=Zh ho (.lst (as.map V.str))
 have ho8:(upd H7 o (.lst (as.map V.str))) o=some (.lst (as.map V.str)):=Zd
 have hl8:=s8 _ _ (B7 l _ hl6 npl.symm)
 have B08:But p H (upd H7 o (.lst (as.map V.str))):=(B06.trans B7).trans (But.same s8)
 have L8:=L7.same s8
 have fr:∀ {b:Addr} {H9:Hp},But p H H9→H9 b=none→b≠p→H b=none:=fun {b H9} B hb nb=>by
  cases e':H b with
  | none=>rfl
  | some x=>have:=B b x e' nb;rw[this]at hb;cases hb
 have oH:H o=none:=fr (B06.trans B7) ho npo.symm
 generalize upd H7 o (.lst (as.map V.str))=H8 at s8 ho8 hl8 B08 L8 ⊢
 refine⟨_,rfl,_,rfl,_,rfl,p,l,c7,most,ss,rfl,L8,by omega,m0,by omega,hl8,n1,n4,h24,fun r2 ts2 c9 H9 hr20 hr29 htl2 h282 L9 a5 a6 B9=>?_⟩
 refine⟨r2,ts2,rfl,SqL.of hr29,by omega,fun t bs ht perm2 srt2=>?_⟩
 have npt:p≠t:=by obtain⟨x,hx⟩:=L9.here;exact Zc hx ht
 have s10:=Zh ht (.lst (bs.map V.str))
 have ht10:(upd H9 t (.lst (bs.map V.str))) t=some (.lst (bs.map V.str)):=Zd
 have ho10:=s10 _ _ (B9 o _ ho8 npo.symm)
 have B10:But p H (upd H9 t (.lst (bs.map V.str))):=(B08.trans B9).trans (But.same s10)
 have L10:=L9.same s10
 have tH:H t=none:=fr (B08.trans B9) ht npt.symm
 generalize upd H9 t (.lst (bs.map V.str))=H10 at s10 ht10 ho10 B10 L10 ⊢
 have hal:as.length≤50:=by rw[perm.length_eq];omega
 have hbl:bs.length≤50:=by rw[perm2.length_eq];omega
 have haz:∀s∈as,s.length≤28∧AZ s:=fun s hs=>h28 s (perm.mem_iff.mp hs)
 have hbz:∀s∈bs,s.length≤28∧AZ s:=fun s hs=>h282 s (perm2.mem_iff.mp hs)
 refine⟨_,rfl,p,c9,5,rfl,L10,by omega,by decide,by decide,fun wy H11 w0 w1 L11 B11=>?_⟩
 have B011:=B10.trans B11
 have ho11:=B11 _ _ ho10 npo.symm
 have ht11:=B11 _ _ ht10 npt.symm
 have fin:∀ (t:Addr) (bs:List Str) (H12:Hp),ZgM H H12 p o t as bs→ZL H12 p (c9+1)→But p H H12→∀x,H12 x=none→Q (.ref x) (upd H12 x (.tup [.ref o,.ref t])):=fun t bs H12 h L B x hx=>by
  have sx:=Zh hx (.tup [.ref o,.ref t])
  obtain⟨g1,g2,g⟩:=h
  exact q x o t as bs (c9+1) _ Zd ⟨sx _ _ g1,sx _ _ g2,g⟩ (L.same sx) (by omega) (B.trans (But.same sx))
 have R11:ZgM H H11 p o t as bs:=⟨ho11,ht11,oH,tH,npo.symm,npt.symm,hal,hbl,haz,hbz,srt,srt2⟩
 refine⟨_,rfl,rfl,_,rfl,Zbl (fun d=>?_) (fun d=>?_)⟩
 ·refine⟨_,rfl,o,_,rfl,.inl (SqL.of ho11),fun t2 ht2=>?_⟩
  have s12:=Zh ht2 (.lst (as.map V.str))
  have npt2:p≠t2:=by obtain⟨x,hx⟩:=L11.here;exact Zc hx ht2
  have R12:ZgM H (upd H11 t2 (.lst (as.map V.str))) p o t2 as as:=⟨s12 _ _ ho11,Zd,oH,fr B011 ht2 npt2.symm,npo.symm,npt2.symm,hal,hal,haz,haz,srt,srt⟩
  have L12:=L11.same s12
  have B12:=B011.trans (But.same s12)
  generalize upd H11 t2 (.lst (as.map V.str))=H12 at R12 L12 B12 ⊢
  refine⟨_,rfl,rfl,_,rfl,Zbl (fun d2=>?_) (fun d2=>?_)⟩
  ·refine⟨_,rfl,_,rfl,_,rfl,o,_,rfl,SqL.of R12.1,by decide,fun t3 ht3=>?_⟩
   obtain⟨cs,ec,lc,mc,sc⟩:=ZdT as
   rw[ec]
   have s13:=Zh ht3 (.lst (cs.map V.str))
   have npt3:p≠t3:=by obtain⟨x,hx⟩:=L12.here;exact Zc hx ht3
   refine⟨_,rfl,_,rfl,(by show 2≤sizeLine;decide),fin t3 cs _ ⟨s13 _ _ R12.1,Zd,oH,fr B12 ht3 npt3.symm,npo.symm,npt3.symm,hal,by omega,haz,fun s hs=>haz s (mc s hs),srt,sc srt⟩ (L12.same s13) (B12.trans (But.same s13))⟩
  ·exact⟨_,rfl,_,rfl,(by show 2≤sizeLine;decide),fin _ _ _ R12 L12 B12⟩
 ·refine⟨_,rfl,rfl,_,rfl,Zbl (fun d2=>?_) (fun d2=>?_)⟩
  ·refine⟨_,rfl,_,rfl,_,rfl,o,_,rfl,SqL.of R11.1,by decide,fun t3 ht3=>?_⟩
   obtain⟨cs,ec,lc,mc,sc⟩:=ZdT as
   rw[ec]
   have s13:=Zh ht3 (.lst (cs.map V.str))
   have npt3:p≠t3:=by obtain⟨x,hx⟩:=L11.here;exact Zc hx ht3
   refine⟨_,rfl,_,rfl,(by show 2≤sizeLine;decide),fin t3 cs _ ⟨s13 _ _ R11.1,Zd,oH,fr B011 ht3 npt3.symm,npo.symm,npt3.symm,hal,by omega,haz,fun s hs=>haz s (mc s hs),srt,sc srt⟩ (L11.same s13) (B011.trans (But.same s13))⟩
  ·exact⟨_,rfl,_,rfl,(by show 2≤sizeLine;decide),fin _ _ _ R11 L11 B011⟩
def pD(us:List Zl):PyData:=.list (us.map fun u=>.tuple [.int u.1,.int (u.2.1:Int)])
theorem Zec:∀us:List Zl,PyData.canLayAll0 (us.map fun u=>PyData.tuple [.int u.1,.int (u.2.1:Int)])=true∧PyData.depthAll (us.map fun u=>PyData.tuple [.int u.1,.int (u.2.1:Int)])≤1
 | []=>⟨rfl,by simp[PyData.depthAll]⟩
 | x::r=>by
  obtain⟨a,b⟩:=Zec r
  refine⟨by simp[PyData.canLayAll0,PyData.canLay0,a],?_⟩
  rw[Qv]
  simp only[PyData.depthAll,PyData.depth]
  omega
theorem Zbe(us:List Zl):SeqAt.shaped (pD us)=true:=by
 obtain⟨a,b⟩:=Zec us
 have h1:PyData.canLay0 (pD us)=true:=by unfold pD;simp only[PyData.canLay0,a]
 have h2:PyData.depth (pD us)≤64:=by unfold pD;simp only[PyData.depth];omega
 unfold SeqAt.shaped
 rw[h1,decide_eq_true h2];rfl
theorem ZfX(us:List Zl):PyData.eqv (pD us) (pD us)=true:=SeqAt.eqv_refl _ (by unfold pD;simp only[PyData.canLay0,(Zec us).1])
theorem dv_pD'{K:PySem.W.Frag}{H:Hp}:∀us:List (Addr×Zl),(∀u∈us,Zcl H u)→DVs K H (us.map fun u=>V.ref u.1) ((us.map (·.2)).map fun u=>PyData.tuple [.int u.1,.int (u.2.1:Int)])
 | [],_=>.nil
 | u::r,h=>.cons (.tup (SqT.of (h u (by simp))) (.cons (.int _) (.cons (.int _) .nil))) (dv_pD' r fun x hx=>h x (Qg _ hx))
theorem ZeL{K:PySem.W.Frag}{H:Hp}{l:Addr}{us:List (Addr×Zl)}(hl:H l=some (.lst (us.map fun u=>V.ref u.1)))(h:∀u∈us,Zcl H u):DV K H (.ref l) (pD (us.map (·.2))):=.lst (SqL.of hl) (dv_pD' us h)
theorem Zif(P:List Zu):∃D,ZaX P D:=by
 refine⟨(ZaV P).mergeSort (fun a b=>!ZH (kT b) (kT a)),List.mergeSort_perm _ _,?_⟩
 have h:=List.pairwise_mergeSort (le:=fun a b:Zl=>!ZH (kT b) (kT a)) (fun a b c h1 h2=>?_) (fun a b=>?_) (ZaV P)
 ·exact h.imp fun h=>by simpa using h
 ·have h1':ZH (kT b) (kT a)=false:=by simpa using h1
  have h2':ZH (kT c) (kT b)=false:=by simpa using h2
  cases hc:ZH (kT c) (kT a) with
  | false=>rfl
  | true =>
   exfalso
   cases hbc:ZH (kT b) (kT c) with
   | false =>
    have e:=ZaR _ _ hbc h2'
    rw[e]at h1'
    rw[h1']at hc;cases hc
   | true =>
    have:=Z7 _ _ _ hbc hc
    rw[h1']at this;cases this
 ·cases h1:ZH (kT b) (kT a) with
  | false=>rfl
  | true =>
   cases h2:ZH (kT a) (kT b) with
   | false=>rfl
   | true =>
    have:=Z7 _ _ _ h1 h2
    rw[Zat]at this;cases this
theorem ZfA{a b:List Key}(h:ZH a b=true):ZH b a=false:=by
 cases h2:ZH b a with
 | false=>rfl
 | true =>
  have:=Z7 _ _ _ h h2
  rw[Zat]at this;cases this
theorem ZgT{a b:Zl}(h:ZH (kT b) (kT a)=false):LeS a.2.2 b.2.2:=fun z=>by
 have h1:LtT b a:=.inl ((Zbo _ _).mp z)
 rw[Zdh h1]at h;cases h
theorem Zcf(a b:List Str):ZaV (st2 a b 0 0)=(a.zipIdx.map fun e=>((0:Int),e.2,e.1))++(b.zipIdx.map fun e=>((1:Int),e.2,e.1)):=by
 unfold ZaV st2 ZdM
 simp
theorem ZdR(n:Int)(a:List Str):(a.zipIdx.map fun e=>(n,e.2,e.1)).map (fun u:Zl=>u.2.2)=a:=by
 rw[Qaf]
 have:((fun u:Zl=>u.2.2) ∘ fun e:Str×Nat=>(n,e.2,e.1))=Prod.fst:=rfl
 rw[this,List.zipIdx_map_fst]
theorem Zgo{a b:List Str}{D:List Zl}(O:ZaX (st2 a b 0 0) D):(D.map (·.2.2)).Perm (a++b)∧sortedS (D.map (·.2.2))=true:=by
 refine⟨?_,(Zaz _).mpr ?_⟩
 ·have:=O.1.map fun u:Zl=>u.2.2
  rw[Zcf,Qh,ZdR,ZdR]at this
  exact this
 ·rw[QaD]
  exact O.2.imp fun h=>ZgT h
theorem ZeB(n:Int){a:List Str}(h:sortedS a=true):(a.zipIdx.map fun e=>(n,e.2,e.1)).Pairwise fun x y:Zl=>ZH (kT y) (kT x)=false:=by
 rw[QaD,List.pairwise_iff_getElem]
 intro i j hi hj hij
 rw[Qag]at hi hj
 rw[List.getElem_zipIdx,List.getElem_zipIdx]
 refine ZfA (Zdh ?_)
 rcases Zbb (ZcX h (Nat.le_of_lt hij) (Qa hi) (Qa hj)) with g|g
 ·exact .inl g
 ·exact .inr ⟨g,.inr ⟨rfl,by show 0+i<0+j;omega⟩⟩
theorem Zf8{a:List Str}(h:sortedS a=true):ZaX (st2 a [] 0 0) (a.zipIdx.map fun e=>((0:Int),e.2,e.1)):=⟨by rw[Zcf];simp,ZeB 0 h⟩
theorem Zfd{a:List Str}(h:sortedS a=true):ZaX (st2 [] a 0 0) (a.zipIdx.map fun e=>((1:Int),e.2,e.1)):=⟨by rw[Zcf];simp,ZeB 1 h⟩
theorem Zhb(o t:Addr)(a b:List Str):Zcn [(o,a),(t,b)]=st2 a b 0 0:=by unfold Zcn st2 Zck;simp[List.range_succ]
theorem Zix{H:Hp}{n:Nat}(us vs:List (Addr×Zl))(e:us.map (·.2)=vs.map (·.2))(h1:∀u∈us,Zcl H u)(h2:∀u∈vs,Zcl H u):F2 (IsD H (n+2)) (us.map fun u=>V.ref u.1) (vs.map fun u=>V.ref u.1):=Zdu us vs e h1 h2
def ZeK(K:PySem.W.Frag):Sp:=fun vs H Q _=>∃ (a:Addr) (ns:List Int),vs=[.ref a]∧SqL K H a (ns.map V.int)∧ns.length≤63∧∀H',Q (.bl true) H'
theorem Zis{f:Addr}{fd:FuncData}(F:Fun K "law" "law" Z6 f fd)(T:Zbg K mg):ZbP P w K mg base CX0 6 f fd ["_law_script"] (ZeK K):=by
 have f_l_mix:Df P w K mg base 1 "_law_mix" ["_law_cell", "_law_k"] ZfF:=Zie T
 have f_l_left:Df P w K mg base 1 "_law_left" ["_law_script", "_law_k"] (Zgp K):=Zg1 T
 have f_l_pick:Df P w K mg base 2 "_law_pick" ["_law_left_here", "_law_many"] ZbL:=Zgy T f_l_mix
 have f_l_stems:Df P w K mg base 3 "_law_stems" ["_law_left_here"] ZcY:=ZfC T f_l_pick
 have f_l_key:Df P w K mg base 3 "_law_key" ["_law_left_here", "_law_stems_here"] Zf3:=Zik T f_l_pick
 have f_l_keys:Df P w K mg base 4 "_law_keys" ["_law_left_here", "_law_stems_here", "_law_most"] ZdZ:=ZgU T f_l_pick f_l_key
 have f_l_same:Df P w K mg base 5 "_law_same" ["_law_found", "_law_due"] (ZfR 4):=Zey T 4
 have f_alike_from:Df P w K mg base 1 "alike_from" ["one", "other", "far"] Za0:=Zcj T
 have f_alike:Df P w K mg base 2 "alike" ["one", "other"] ZcQ:=ZfW T f_alike_from
 have f_order_at:Df P w K mg base 1 "order_at" ["one", "other", "at"] Zc5:=Zgm T
 have f_liken:Df P w K mg base 3 "liken" ["one", "other"] Zc6:=ZfU T f_alike f_order_at
 have f_two_merged:=Zh2 T f_liken
 have f_l_two_rows:=Zd1 T f_l_pick f_l_stems f_l_keys
 have f_l_order:=Zfa T (P:=P) (w:=w) (base:=base)
 refine F.ok Zaf (fun vs H Q E h=>?_) (fun cdv A outer s H vs Q E hr h=>?_)
 ·obtain⟨a,ns,rfl,_⟩:=h
  rfl
 obtain⟨a,ns,rfl,hS,h63,q⟩:=h
 refine⟨_,#[Zg,#[Zbj,PassesOwn.never,#[ZY,T.b.n_range,#[Za,#[Zj,(Zfe rfl),T.b.n_max,boot_max,#[Za,#[Zi],#[Za,#[Zj,(Zfn rfl),T.b.n_min,boot_min,#[Za,#[Zj,(ZbT K),T.b.n_len,Qy,#[Za,‹0›,#[Zb]]],#[Za,#[Zi],#[Zb]]]],#[Zb]]]],#[Zb]]],#[Z2,1,Zaf.nd,(Or.inl rfl)],#[Zg,#[ZA,2,Zaf.nd,(Or.inl rfl),#[ZG,f_l_left,hr,#[Za,‹0›,#[Za,‹1›,#[Zb]]],(by rfl)]],#[Zk,#[Zbj,PassesOwn.never,#[ZY,T.b.n_range,#[Za,#[Zi],#[Zb]]],#[Z2,3,Zaf.nd,(Or.inl rfl)],#[Zg,#[Zeb,#[ZG,f_l_two_rows,hr,#[Za,‹2›,#[Zb]],(by rfl)],#[gT,K,2,#[ZI,#[Z2,4,Zaf.nd,(Or.inr rfl)],#[ZI,#[Z2,5,Zaf.nd,(Or.inr rfl)],(@Zba _)]]]],#[Zg,#[Zb7,6,Zaf.nd,Zfl,(@iL _ K _ _ _ #[ZG,f_l_order,hr,#[Za,#[Zam,#[Za,#[pv,4,(Or.inr (Or.inl rfl))],#[Za,#[pv,5,(Or.inr (Or.inl rfl))],#[Zb]]]],#[Zb]],(by rfl)] (by rfl)),(fun _ _ _ _=>#[gT,K,3,#[ZI,#[cg,12,Zfl],#[ZI,#[cg,13,Zfl],#[ZI,#[cg,14,Zfl],(@Zba _)]]]]),(fun _ _ _ _=>(@Zar _)),(fun _ _ _ _=>#[Z9,#[Za,#[cw,13,Zfl],#[Za,#[cw,14,Zfl],#[Zb]]]])],#[Zg,#[ZA,7,Zaf.nd,(Or.inl rfl),#[Z9,#[Za,#[ZaI,(Zf6 K),T.b.n_list,boot_list,#[Za,#[pv,4,(Or.inr (Or.inl rfl))],#[Zb]]],#[Za,#[ZaI,(Zf6 K),T.b.n_list,boot_list,#[Za,#[pv,5,(Or.inr (Or.inl rfl))],#[Zb]]],#[Zb]]]]],#[Zg,#[Zbj,PassesOwn.never,#[ZY,T.b.n_range,#[Za,#[Zi],#[Zb]]],#[Z2,8,Zaf.nd,(Or.inl rfl)],#[Zg,#[ZA,9,Zaf.nd,(Or.inl rfl),#[ZG,f_two_merged,hr,#[Za,#[pv,4,(Or.inr (Or.inl rfl))],#[Za,#[pv,5,(Or.inr (Or.inl rfl))],#[Zb]]],(by rfl)]],#[Zg,#[Zan,(@PW.pt _ _ _ (@Zem _ _ _ _ _ _ _ (@ZhI _ _ _ _ #[ZcO,#[ZG,f_l_same,hr,#[Za,‹9›,#[Za,‹6›,#[Zb]]],(by rfl)]]) (@ZcW _ _ _ _ #[Zs,(@neD _ K _ hr (by rfl)),#[Z9,#[Za,#[pv,4,(Or.inr (Or.inl rfl))],#[Za,#[pv,5,(Or.inr (Or.inl rfl))],#[Zb]]]],‹7›,(Zq _)]))),#[Zk,#[Zy,(@ZdB _ _ _ _)]],(@ZO _)],#[Zg,#[Zau,(@Zim _ _ _ _ _ _ _ _ _ QE PySem.F.slot_list_reverse PySem.F.type_list_reverse Zd5 ‹9› (by rfl) (by rfl))],#[Zk,#[Zau,#[ZbO,QE,QO,QP,Z8,‹9›,#[Za,#[Z9,#[Za,#[Zi],#[Za,#[Zi],#[Zb]]]],#[Zb]]]]]]]]],#[Zg,#[ZA,10,Zaf.nd,(Or.inl rfl),#[ZG,f_two_merged,hr,#[Za,#[pv,5,(Or.inr (Or.inl rfl))],#[Za,#[pv,4,(Or.inr (Or.inl rfl))],#[Zb]]],(by rfl)]],#[Zg,#[Zb7,11,Zaf.nd,Zd9,(@iL _ K _ _ _ ‹10› (by rfl)),(fun _ _ _ _=>#[gT,K,2,#[ZI,#[cg,12,Zd9],#[ZI,#[cg,13,Zd9],(@Zba _)]]]),(fun _ _ _ _=>(@Zar _)),(fun _ _ _ _=>#[ZW,(ixL K),#[ZW,(ixL K),#[Zam,#[Za,#[cv,5,Zd9],#[Za,#[cv,4,Zd9],#[Zb]]]],#[cw,12,Zd9]],#[cw,13,Zd9]])],#[Zg,#[Zan,(@PW.pt _ _ _ (@Zem _ _ _ _ _ _ _ #[Zs,(@neD _ K _ hr (by rfl)),‹11›,#[Zj,(ZiM K),T.b.n_sorted,boot_sorted,#[Za,#[ZP,Zic,#[pv,4,(Or.inr (Or.inl rfl))],#[pv,5,(Or.inr (Or.inl rfl))]],#[Zb]]],(Zq _)] (@ZcW _ _ _ _ #[Zs,(@neD _ K _ hr (by rfl)),#[ZG,f_two_merged,hr,#[Za,#[pv,4,(Or.inr (Or.inl rfl))],#[Za,#[Zam,#[Zb]],#[Zb]]],(by rfl)],#[Zbd,Zij,#[ZY,T.b.n_range,#[Za,#[Zj,(ZbT K),T.b.n_len,Qy,#[Za,#[pv,4,(Or.inr (Or.inl rfl))],#[Zb]]],#[Zb]]],(fun _ _ _ _=>#[cg,12,Zij]),(fun _ _ _ _=>(@Zar _)),(fun _ _ _ _=>#[Z9,#[Za,#[Zi],#[Za,#[cw,12,Zij],#[Zb]]]])],(Zq _)]))),#[Zk,#[Zy,(@ZdB _ _ _ _)]],(@ZO _)],#[Zk,#[Zan,#[Zs,(@neD _ K _ hr (by rfl)),#[ZG,f_two_merged,hr,#[Za,#[Zam,#[Zb]],#[Za,#[pv,5,(Or.inr (Or.inl rfl))],#[Zb]]],(by rfl)],#[Zbd,ZhG,#[ZY,T.b.n_range,#[Za,#[Zj,(ZbT K),T.b.n_len,Qy,#[Za,#[pv,5,(Or.inr (Or.inl rfl))],#[Zb]]],#[Zb]]],(fun _ _ _ _=>#[cg,12,ZhG]),(fun _ _ _ _=>(@Zar _)),(fun _ _ _ _=>#[Z9,#[Za,#[Zi],#[Za,#[cw,12,ZhG],#[Zb]]]])],(Zq _)],#[Zk,#[Zy,(@ZdB _ _ _ _)]],(@ZO _)]]]]]]]]]]]]],#[Zk,#[Zy,(@ZdB _ _ _ _)]]],?_⟩
 clear f_l_mix f_l_left f_l_pick f_l_stems f_l_key f_l_keys f_l_same f_alike_from f_alike f_order_at f_liken f_two_merged f_l_two_rows f_l_order
 have hlen:(((ns.map V.int).length:Nat):Int)=(ns.length:Int):=by rw[Qb]
 refine⟨_,rfl,a,_,rfl,.inl hS,_,_,rfl,_,_,rfl,_,rfl,?_,?_,?_⟩
 ·split<;>split at *<;>omega
 ·split<;>split at *<;>omega
 refine Zah (fun i σ H2=>∃v1 v2 v3 v4 v5 v6 v7 v8 v9 v10 v11:Option V,σ=[some (.ref a),v1,v2,v3,v4,v5,v6,v7,v8,v9,v10,v11]∧Zn H H2) (ZiD _ _ _ _ _ _ _ _ _ _ _ ⟨rfl,Zn.refl H⟩) ?_ ?_
 ·rintro i σ H2 hi ⟨v1,v2,v3,v4,v5,v6,v7,v8,v9,v10,v11,rfl,s2⟩
  have hi8:(i:Int)<8:=by
   have:(i:Int)<((if (if 6<(((ns.map V.int).length:Nat):Int) then (6:Int) else ((ns.map V.int).length:Nat))>2 then (if 6<(((ns.map V.int).length:Nat):Int) then (6:Int) else ((ns.map V.int).length:Nat)) else 2)).toNat:=by omega
   split at this<;>split at this<;>omega
  refine⟨_,rfl,_,rfl,a,ns,_,rfl,s2.seq hS,h63,by omega,by omega,fun p H3 hp L3 s3=>?_⟩
  have nHp:H p=none:=s2.free hp
  have keep:∀ {H5 H6:Hp},Zn H H5→But p H5 H6→Zn H H6:=fun {H5 H6} s b x o e=>b x o (s x o e) (Zc e nHp)
  refine⟨_,rfl,by decide,by decide,?_⟩
  refine Zah (fun j σ H4=>∃ (v3 v4 v5 v6 v7 v8 v9 v10 v11:Option V) (c:Int),σ=[some (.ref a),some (.int (0+(i:Int))),some (.ref p),v3,v4,v5,v6,v7,v8,v9,v10,v11]∧Zn H H4∧ZL H4 p c∧c≤2000*(j:Int)) ⟨_,_,_,_,_,_,_,_,_,0,rfl,s2.trans s3,L3,by omega⟩ ?_ ?_
  ·rintro j σ H4 hj ⟨u3,u4,u5,u6,u7,u8,u9,u10,u11,c,rfl,s4,L4,hc⟩
   have hj6:(j:Int)<3:=by omega
   refine⟨_,rfl,p,c,rfl,L4,by omega,fun x o t as bs c5 H5 hx R5 L5 hc5 B5=>?_⟩
   have s5:=keep s4 B5
   obtain⟨ho5,ht5,hoH,htH,nop,ntp,la,lb,za,zb,ra,rb⟩:=R5
   refine⟨x,_,rfl,SqT.of hx,rfl,_,_,rfl,_,_,rfl,rfl,?_⟩
   clear hx B5 s4 L4
   refine⟨_,rfl,_,rfl,(by show 2≤sizeLine;decide),fun rl hrl=>?_⟩
   have s6:=Zh hrl (.lst [.ref o,.ref t])
   have hrl':(upd H5 rl (.lst [.ref o,.ref t])) rl=some (.lst ([(o,as),(t,bs)].map fun x=>V.ref x.1)):=Zd
   generalize upd H5 rl (.lst [.ref o,.ref t])=H6 at s6 hrl' ⊢
   have hrs6:Zb6 H6 rl [(o,as),(t,bs)]:=⟨hrl',(by show 2≤60;decide),fun x hx=>by
    rcases Qt.mp hx with rfl|hx
    ·exact⟨s6 _ _ ho5,by show as.length≤100;omega,fun s hs=>⟨by have:=(za s hs).1;omega,(za s hs).2⟩⟩
    ·rw[Qf.mp hx]
     exact⟨s6 _ _ ht5,by show bs.length≤100;omega,fun s hs=>⟨by have:=(zb s hs).1;omega,(zb s hs).2⟩⟩⟩
   refine⟨rl,_,rfl,hrs6,fun l us H7 hl0 hl7 hus hO s7=>⟨l,rfl,⟨_,SqL.of hl7⟩,fun D hD=>?_⟩⟩
   rw[Zhb]at hO
   have hul:=hO.len
   have hlp:Zbi (st2 as bs 0 0)=as.length+bs.length:=by unfold Zbi st2;simp
   rw[hlp,Qb]at hul
   refine ZcN (K:=K) (a:=l) (xs:=us.map fun u=>V.ref u.1) (fun k zs σ H8=>(∃w1 w2 w3:Option V,σ=[some (.ref a),some (.int (0+(i:Int))),some (.ref p),some (.int (0+(j:Int))),some (.ref o),some (.ref t),u6,u7,u8,u9,u10,u11,w1,w2,w3])∧(∃ws:List (Addr×Zl),zs=(ws.map fun u=>V.ref u.1)∧ws.length=k∧ws.map (·.2)=(us.take k).map (·.2)∧∀u∈ws,u.1≠D∧Zcl H8 u)∧k≤us.length∧H8 D=some (.lst zs)∧Zn H7 H8) ?_ (fun _ _ _ _ h=>SqL.of (h.2.2.2.2 _ _ hl7)) ?_ ?_
   ·exact⟨⟨none,none,none,rfl⟩,⟨[],rfl,rfl,rfl,fun u h=>by cases h⟩,QA _,Zd,Zh hD _⟩
   ·rintro k y zs σ H8 hy ⟨⟨w1,w2,w3,rfl⟩,⟨ws,rfl,hwl,hw,hws⟩,hk,hD8,s8⟩
    rw[Qu]at hy
    cases hz:us[k]? with
    | none=>rw[hz]at hy;cases hy
    | some u =>
    rw[hz]at hy
    cases hy
    have hil:k<us.length:=(Qj.mp hz).1
    refine⟨u.1,_,rfl,SqT.of (s8 _ _ (hus u (QR hz))),rfl,_,_,rfl,_,_,rfl,_,_,rfl,rfl,?_⟩
    refine⟨_,rfl,_,rfl,(by show 2≤sizeLine;decide),fun n hn0=>?_⟩
    have sn:=Zh hn0 (.tup [.int u.2.1,.int (u.2.2.1:Int)])
    have nDn:D≠n:=Zc hD8 hn0
    refine⟨sn _ _ hD8,(by rw[Qb,hwl,sizeLine_eq];omega),⟨_,_,_,rfl⟩,⟨ws++[(n,u.2)],by rw[Qh];rfl,by rw[Qd,hwl];rfl,?_,fun x hx=>?_⟩,hil,Zd,fun b o hb=>?_⟩
    ·rw[Qab,hz,Qh,Qh,hw];rfl
    ·rcases Qn.mp hx with hx|hx
     ·obtain⟨g1,g3⟩:=hws x hx
      exact⟨g1,by show upd _ D _ x.1=_;rw[Zf g1];exact sn _ _ g3⟩
     ·rw[Qf.mp hx]
      exact⟨nDn.symm,by show upd _ D _ n=_;rw[Zf nDn.symm];exact Zd⟩
    ·rw[Zf (Zc hb hD)];exact sn _ _ (s8 b o hb)
   rintro zs σ H8 ⟨⟨w1,w2,w3,rfl⟩,⟨ws,rfl,hwl,hw,hws⟩,_,hD8,s8⟩
   rw[Qb]at hwl hw
   rw[QG (Ql _)]at hw
   rw[← hw]at hO
   have s58:=s6.trans (s7.trans s8)
   have ho8:=s58 _ _ ho5
   have ht8:=s58 _ _ ht5
   have L8:=L5.same s58
   have s08:=s5.trans s58
   clear hus hl7 hl0 hD s6 s7 s8 s58 hrs6 hrl hrl' ho5 ht5 L5 s5
   refine⟨_,rfl,o,_,rfl,.inl (SqL.of ho8),fun k1 hk1=>?_⟩
   have s9:=Zh hk1 (.lst (as.map V.str))
   have hk1':(upd H8 k1 (.lst (as.map V.str))) k1=some (.lst (as.map V.str)):=Zd
   generalize upd H8 k1 (.lst (as.map V.str))=H9 at s9 hk1' ⊢
   refine⟨_,rfl,t,_,rfl,.inl (SqL.of (s9 _ _ ht8)),fun k2 hk2=>?_⟩
   have s10:=Zh hk2 (.lst (bs.map V.str))
   have hk2':(upd H9 k2 (.lst (bs.map V.str))) k2=some (.lst (bs.map V.str)):=Zd
   generalize upd H9 k2 (.lst (bs.map V.str))=H10 at s10 hk2' ⊢
   refine⟨(by show 2≤sizeLine;decide),fun kt hkt=>?_⟩
   have s11:=Zh hkt (.tup [.ref k1,.ref k2])
   have hkt':(upd H10 kt (.tup [.ref k1,.ref k2])) kt=some (.tup [.ref k1,.ref k2]):=Zd
   generalize upd H10 kt (.tup [.ref k1,.ref k2])=H11 at s11 hkt' ⊢
   have s811:=s9.trans (s10.trans s11)
   have ho11:=s811 _ _ ho8
   have ht11:=s811 _ _ ht8
   have hk11:=s11 _ _ (s10 _ _ hk1')
   have hk21:=s11 _ _ hk2'
   have hD11:=s811 _ _ hD8
   have hws11:∀u∈ws,Zcl H11 u:=fun u hu=>s811 _ _ (hws u hu).2
   have L11:=L8.same s811
   have s011:=s08.trans s811
   clear s9 s10 s11 s811 hk1 hk2 hkt hk1' hk2' ho8 ht8 hD8 L8 s08
   have la':as.length≤100:=by omega
   have lb':bs.length≤100:=by omega
   have za':∀s∈as,s.length≤1000:=fun s hs=>by have:=(za s hs).1;omega
   have zb':∀s∈bs,s.length≤1000:=fun s hs=>by have:=(zb s hs).1;omega
   refine⟨_,rfl,by decide,by decide,?_⟩
   refine Zah (fun k σ H12=>∃ (w8 w9:Option V),σ=[some (.ref a),some (.int (0+(i:Int))),some (.ref p),some (.int (0+(j:Int))),some (.ref o),some (.ref t),some (.ref D),some (.ref kt),w8,w9,u10,u11]∧Zn H11 H12) ⟨_,_,rfl,Zn.refl _⟩ ?_ ?_
   ·rintro k σ H12 hk ⟨w8,w9,rfl,s12⟩
    refine⟨_,rfl,_,rfl,o,t,as,bs,_,rfl,s12 _ _ ho11,s12 _ _ ht11,la',lb',za',zb',ra,rb,hO,fun fo us2 H13 hfo hfo13 hus2 e2 s13=>?_⟩
    have s1113:=s12.trans s13
    have D13:IsD H13 4 (.ref fo) (.ref D):=ZgW hfo13 (s1113 _ _ hD11) (by have:=congrArg List.length e2;rw[Qb,Qb]at this;rw[Qb];omega) (Zix us2 ws e2 (fun u hu=>(hus2 u hu).2) fun u hu=>s1113 _ _ (hws11 u hu))
    refine⟨_,rfl,_,rfl,_,_,rfl,D13,fun H14 s14=>⟨_,rfl,ZaW ?_⟩⟩
    have s1114:=s1113.trans s14
    have hfo14:=s14 _ _ hfo13
    have foH:H11 fo=none:=s12.free hfo
    refine⟨_,rfl,_,rfl,(by show 2≤sizeLine;decide),fun tt htt=>?_⟩
    have s15:=Zh htt (.tup [.ref o,.ref t])
    have htt':(upd H14 tt (.tup [.ref o,.ref t])) tt=some (.tup [.ref o,.ref t]):=Zd
    generalize upd H14 tt (.tup [.ref o,.ref t])=H15 at s15 htt' ⊢
    have s1115:=s1114.trans s15
    have sh:SeqAt.shaped (.tuple [.list (as.map PyData.str),.list (bs.map PyData.str)])=true:=by
     have h1:=Zbz as fun s hs=>(za s hs).2
     have h2:=Zbz bs fun s hs=>(zb s hs).2
     simp[SeqAt.shaped,PyData.canLay0,PyData.canLayAll0,PyData.depth,PyData.depthAll,h1,h2,Zbq]
    refine⟨_,rfl,.tuple [.list (as.map PyData.str),.list (bs.map PyData.str)],.tuple [.list (as.map PyData.str),.list (bs.map PyData.str)],.tup (SqT.of htt') (.cons (.lst (SqL.of (s1115 _ _ ho11)) (Zav as)) (.cons (.lst (SqL.of (s1115 _ _ ht11)) (Zav bs)) .nil)),.tup (SqT.of (s1115 _ _ hkt')) (.cons (.lst (SqL.of (s1115 _ _ hk11)) (Zav as)) (.cons (.lst (SqL.of (s1115 _ _ hk21)) (Zav bs)) .nil)),sh,sh,_,rfl,?_⟩
    have eq1:PyData.eqv (.tuple [.list (as.map PyData.str),.list (bs.map PyData.str)]) (.tuple [.list (as.map PyData.str),.list (bs.map PyData.str)])=true:=by simp[PyData.eqv,PyData.eqvAll,Zb4]
    rw[if_pos rfl,eq1]
    refine ZaW ?_
    have hfo15:=s15 _ _ hfo14
    refine⟨_,rfl,.inl ⟨rfl,_,SqL.of hfo15⟩,fo,_,rfl,rfl,hfo15,?_⟩
    have hfo16:(upd H15 fo (.lst (us2.map fun u=>V.ref u.1).reverse)) fo=some (.lst (us2.map fun u=>V.ref u.1).reverse):=Zd
    have s1116:Zn H11 (upd H15 fo (.lst (us2.map fun u=>V.ref u.1).reverse)):=fun b o hb=>by rw[Zf (Zc hb foH)];exact s1115 b o hb
    generalize upd H15 fo (.lst (us2.map fun u=>V.ref u.1).reverse)=H16 at hfo16 s1116 ⊢
    refine⟨_,rfl,.inl ⟨rfl,_,SqL.of hfo16⟩,(by show 2≤sizeLine;decide),fun n hn=>?_⟩
    have sn:=Zh hn (.tup [.int 0,.int 0])
    have hl2:us2.length=us.length:=by have:=congrArg List.length e2;rw[Qb,Qb]at this;omega
    refine⟨fo,_,_,rfl,rfl,sn _ _ hfo16,(by rw[List.length_reverse,Qb,sizeLine_eq];omega),?_⟩
    exact⟨_,_,rfl,fun b o hb=>by rw[Zf (Zc hb foH)];exact sn _ _ (s1116 b o hb)⟩
   ·rintro σ H12 ⟨w8,w9,rfl,s12⟩
    obtain⟨D2,hO2⟩:=Zif (st2 bs as 0 0)
    refine⟨_,rfl,_,rfl,t,o,bs,as,D2,rfl,s12 _ _ ht11,s12 _ _ ho11,lb',la',zb',za',rb,ra,hO2,fun ab us2 H13 hab hab13 hus2 e2 s13=>?_⟩
    have s1113:=s12.trans s13
    have u2at:∀u∈us2,(u.2.1=0∧bs[u.2.2.1]? = some u.2.2.2)∨(u.2.1=1∧as[u.2.2.1]? = some u.2.2.2):=fun u hu=>by
     have h1:u.2∈D2:=by rw[← e2];exact QD (f:=fun u:Addr×Zl=>u.2) hu
     obtain⟨x,hx,g1,g2,g3⟩:=ZdO (hO2.1.mem_iff.mp h1)
     unfold st2 at hx
     rcases Qt.mp hx with rfl|hx
     ·exact .inl ⟨g1,g3⟩
     ·rw[Qf.mp hx]at g1 g3
      exact .inr ⟨g1,g3⟩
    have hl2:us2.length=as.length+bs.length:=by
     have h1:=hO2.len
     have h2:Zbi (st2 bs as 0 0)=bs.length+as.length:=by unfold Zbi st2;simp
     rw[h2,← e2,Qb]at h1
     omega
    refine⟨_,rfl,ab,rfl,⟨_,SqL.of hab13⟩,fun D3 hD3=>?_⟩
    refine ZcN (K:=K) (a:=ab) (xs:=us2.map fun u=>V.ref u.1) (fun k zs σ H14=>(∃w1 w2:Option V,σ=[some (.ref a),some (.int (0+(i:Int))),some (.ref p),some (.int (0+(j:Int))),some (.ref o),some (.ref t),some (.ref D),some (.ref kt),w8,w9,some (.ref ab),u11,w1,w2])∧zs=((us2.take k).map (·.2.2.2)).map V.str∧k≤us2.length∧H14 D3=some (.lst zs)∧Zn H13 H14) ?_ (fun _ _ _ _ h=>SqL.of (h.2.2.2.2 _ _ hab13)) ?_ ?_
    ·exact⟨⟨none,none,rfl⟩,rfl,QA _,Zd,Zh hD3 _⟩
    ·rintro k y zs σ H14 hy ⟨⟨w1,w2,rfl⟩,rfl,hk,hD14,s14⟩
     rw[Qu]at hy
     cases hz:us2[k]? with
     | none=>rw[hz]at hy;cases hy
     | some u =>
     rw[hz]at hy
     cases hy
     have hil:k<us2.length:=(Qj.mp hz).1
     refine⟨u.1,_,rfl,SqT.of (s14 _ _ (hus2 u (QR hz)).2),rfl,_,_,rfl,_,_,rfl,rfl,?_⟩
     refine⟨_,rfl,_,rfl,(by show 2≤sizeLine;decide),fun e1 he1=>?_⟩
     have s15:=Zh he1 (.lst [.ref t,.ref o])
     have he1':(upd H14 e1 (.lst [.ref t,.ref o])) e1=some (.lst [.ref t,.ref o]):=Zd
     generalize upd H14 e1 (.lst [.ref t,.ref o])=H15 at s15 he1' ⊢
     have s1115:=s1113.trans (s14.trans s15)
     have hD15:=s15 _ _ hD14
     have fin:Zn H13 (upd H15 D3 (.lst (((us2.take k).map (·.2.2.2)).map V.str++[.str u.2.2.2]))):=fun b o hb=>by rw[Zf (Zc hb hD3)];exact s15 _ _ (s14 b o hb)
     have ez:((us2.take k).map (·.2.2.2)).map V.str++[.str u.2.2.2]=((us2.take (k+1)).map (·.2.2.2)).map V.str:=by rw[Qab,hz,Qh,Qh];rfl
     have lz:(((us2.take k).map (·.2.2.2)).map V.str).length<sizeLine:=by rw[Qb,Qb,QB,sizeLine_eq];omega
     rcases u2at u (QR hz) with⟨g1,g2⟩|⟨g1,g2⟩
     ·refine⟨_,rfl,e1,_,_,_,rfl,rfl,SqL.of he1',(by rw[g1];rfl),_,rfl,xw4 t _ _ _ ⟨rfl,rfl,SqL.of (s1115 _ _ ht11),ZaQ (by rw[Qu,g2];rfl),hD15,lz,⟨_,_,rfl⟩,ez,hil,Zd,fin⟩⟩
     ·refine⟨_,rfl,e1,_,_,_,rfl,rfl,SqL.of he1',(by rw[g1];rfl),_,rfl,xw4 o _ _ _ ⟨rfl,rfl,SqL.of (s1115 _ _ ho11),ZaQ (by rw[Qu,g2];rfl),hD15,lz,⟨_,_,rfl⟩,ez,hil,Zd,fin⟩⟩
    rintro zs σ H14 ⟨⟨w1,w2,rfl⟩,rfl,_,hD14,s14⟩
    rw[Qb,QG (Ql _)]at hD14
    have eK:us2.map (·.2.2.2)=D2.map (·.2.2):=by rw[← e2,Qaf];rfl
    rw[eK]at hD14
    obtain⟨pK,rK⟩:=Zgo hO2
    have s1114:=s1113.trans s14
    refine⟨_,rfl,_,rfl,_,rfl,xw4 o t _ _ ⟨rfl,rfl,s1114 _ _ ho11,s1114 _ _ ht11,(by rw[Qb,Qb,sizeLine_eq];omega),fun cc hcc=>?_⟩⟩
    have s15:=Zh hcc (.lst (as.map V.str++bs.map V.str))
    have hcc':(upd H14 cc (.lst (as.map V.str++bs.map V.str))) cc=some (.lst ((as++bs).map V.str)):=by rw[Zd,Qh]
    generalize upd H14 cc (.lst (as.map V.str++bs.map V.str))=H15 at s15 hcc' ⊢
    refine⟨cc,as++bs,rfl,SqL.of hcc',fun sl ks hsl pk rk=>?_⟩
    have eks:ks=D2.map (·.2.2):=ZgN rk rK (pk.trans (List.perm_append_comm.trans pK.symm))
    subst eks
    have s16:=Zh hsl (.lst ((D2.map (·.2.2)).map V.str))
    have hsl':(upd H15 sl (.lst ((D2.map (·.2.2)).map V.str))) sl=some (.lst ((D2.map (·.2.2)).map V.str)):=Zd
    have zk:∀s∈D2.map (·.2.2),AZ s:=fun s hs=>by
     rcases Qn.mp (pK.mem_iff.mp hs) with h|h
     ·exact(zb s h).2
     ·exact(za s h).2
    generalize upd H15 sl (.lst ((D2.map (·.2.2)).map V.str))=H16 at s16 hsl' ⊢
    have s1416:=s15.trans s16
    refine⟨.list ((D2.map (·.2.2)).map PyData.str),.list ((D2.map (·.2.2)).map PyData.str),.lst (SqL.of (s1416 _ _ hD14)) (Zav _),.lst (SqL.of hsl') (Zav _),Za8 _ zk,Za8 _ zk,_,rfl,?_⟩
    rw[if_pos rfl,Zfp]
    refine ZaW ?_
    have s1116:=s1114.trans s1416
    clear s1416 hsl' hcc' s15 s16 hD14 s14 hab13 hus2
    refine⟨_,rfl,(by show 0≤sizeLine;decide),fun em hem=>?_⟩
    have s17:=Zh hem (.lst [])
    have hem':(upd H16 em (.lst [])) em=some (.lst (([]:List Str).map V.str)):=Zd
    generalize upd H16 em (.lst [])=H17 at s17 hem' ⊢
    have s1117:=s1116.trans s17
    refine⟨o,em,as,[],_,rfl,s1117 _ _ ho11,hem',la',by decide,za',(fun s h=>by cases h),ra,rfl,Zf8 ra,fun fl us3 H18 hfl hfl18 hus3 e3 s18=>?_⟩
    have s1118:=s1117.trans s18
    have hfl0:=ho11
    have hlR0:(((as.map V.str).length:Nat):Int)=(as.length:Int):=by rw[Qb]
    refine⟨_,rfl,o,_,rfl,.inl (SqL.of (s1118 _ _ hfl0)),_,rfl,by omega,by omega,fun D4 hD4=>?_⟩
    rw[hlR0]
    refine ZaO (fun k zs σ H19=>(∃w1:Option V,σ=[some (.ref a),some (.int (0+(i:Int))),some (.ref p),some (.int (0+(j:Int))),some (.ref o),some (.ref t),some (.ref D),some (.ref kt),w8,w9,some (.ref ab),some (.ref D3),w1])∧(∃ws:List (Addr×Zl),zs=(ws.map fun u=>V.ref u.1)∧ws.length=k∧ws.map (·.2)=(as.zipIdx.take k).map (fun e=>((0:Int),e.2,e.1))∧∀u∈ws,u.1≠D4∧Zcl H19 u)∧H19 D4=some (.lst zs)∧Zn H18 H19) ?_ ?_ ?_
    ·exact⟨⟨none,rfl⟩,⟨[],rfl,rfl,rfl,fun u h=>by cases h⟩,Zd,Zh hD4 _⟩
    ·rintro k zs σ H19 hk ⟨⟨w1,rfl⟩,⟨ws,rfl,hwl,hw,hws⟩,hE,sE⟩
     have hkl:k<as.length:=by omega
     refine⟨_,rfl,(by show 2≤sizeLine;decide),fun n hn0=>?_⟩
     have sn:=Zh hn0 (.tup [.int 0,.int (0+(k:Int))])
     have nDn:D4≠n:=Zc hE hn0
     refine⟨sn _ _ hE,(by rw[Qb,hwl,sizeLine_eq];omega),⟨_,rfl⟩,⟨ws++[(n,(0,k,as[k]))],by rw[Qh];rfl,by rw[Qd,hwl];rfl,?_,fun x hx=>?_⟩,Zd,fun b o hb=>?_⟩
     ·rw[Qh,hw,Qab,List.getElem?_zipIdx,Qa hkl,Qh]
      simp
     ·rcases Qn.mp hx with hx|hx
      ·obtain⟨g1,g3⟩:=hws x hx
       exact⟨g1,by show upd _ D4 _ x.1=_;rw[Zf g1];exact sn _ _ g3⟩
      ·rw[Qf.mp hx]
       exact⟨nDn.symm,by show upd _ D4 _ n=_;rw[Zf nDn.symm,Zd,Int.zero_add]⟩
     ·rw[Zf (Zc hb hD4)];exact sn _ _ (sE b o hb)
    rintro zs σ H19 ⟨⟨w1,rfl⟩,⟨ws0,rfl,hwl,hw,hws⟩,hE,sE⟩
    rw[QaB,QG (by rw[Qag];exact Ql _)]at hw
    refine⟨pD ((as.zipIdx.map fun e=>((0:Int),e.2,e.1))),pD ((as.zipIdx.map fun e=>((0:Int),e.2,e.1))),(by rw[← e3];exact ZeL (sE _ _ hfl18) fun u hu=>sE _ _ (hus3 u hu).2),(by rw[← hw];exact ZeL hE fun u hu=>(hws u hu).2),Zbe _,Zbe _,_,rfl,?_⟩
    rw[if_pos rfl,ZfX]
    refine ZaW ?_
    have s1119:=s1118.trans sE
    clear hE hws hw
    refine⟨(by show 0≤sizeLine;decide),fun em2 hem2=>?_⟩
    have s20:=Zh hem2 (.lst [])
    have hem2':(upd H19 em2 (.lst [])) em2=some (.lst (([]:List Str).map V.str)):=Zd
    generalize upd H19 em2 (.lst [])=H20 at s20 hem2' ⊢
    have s1120:=s1119.trans s20
    refine⟨_,rfl,em2,t,[],bs,_,rfl,hem2',s1120 _ _ ht11,by decide,lb',(fun s h=>by cases h),zb',rfl,rb,Zfd rb,fun fr us4 H21 hfr hfr18 hus4 e4 s21=>?_⟩
    have s1121:=s1120.trans s21
    have hfr0:=ht11
    have hlR1:(((bs.map V.str).length:Nat):Int)=(bs.length:Int):=by rw[Qb]
    refine⟨_,rfl,t,_,rfl,.inl (SqL.of (s1121 _ _ hfr0)),_,rfl,by omega,by omega,fun D5 hD5=>?_⟩
    rw[hlR1]
    refine ZaO (fun k zs σ H22=>(∃w1:Option V,σ=[some (.ref a),some (.int (0+(i:Int))),some (.ref p),some (.int (0+(j:Int))),some (.ref o),some (.ref t),some (.ref D),some (.ref kt),w8,w9,some (.ref ab),some (.ref D3),w1])∧(∃ws:List (Addr×Zl),zs=(ws.map fun u=>V.ref u.1)∧ws.length=k∧ws.map (·.2)=(bs.zipIdx.take k).map (fun e=>((1:Int),e.2,e.1))∧∀u∈ws,u.1≠D5∧Zcl H22 u)∧H22 D5=some (.lst zs)∧Zn H21 H22) ?_ ?_ ?_
    ·exact⟨⟨none,rfl⟩,⟨[],rfl,rfl,rfl,fun u h=>by cases h⟩,Zd,Zh hD5 _⟩
    ·rintro k zs σ H22 hk ⟨⟨w1,rfl⟩,⟨ws,rfl,hwl,hw,hws⟩,hE,sE⟩
     have hkl:k<bs.length:=by omega
     refine⟨_,rfl,(by show 2≤sizeLine;decide),fun n hn0=>?_⟩
     have sn:=Zh hn0 (.tup [.int 1,.int (0+(k:Int))])
     have nDn:D5≠n:=Zc hE hn0
     refine⟨sn _ _ hE,(by rw[Qb,hwl,sizeLine_eq];omega),⟨_,rfl⟩,⟨ws++[(n,(1,k,bs[k]))],by rw[Qh];rfl,by rw[Qd,hwl];rfl,?_,fun x hx=>?_⟩,Zd,fun b o hb=>?_⟩
     ·rw[Qh,hw,Qab,List.getElem?_zipIdx,Qa hkl,Qh]
      simp
     ·rcases Qn.mp hx with hx|hx
      ·obtain⟨g1,g3⟩:=hws x hx
       exact⟨g1,by show upd _ D5 _ x.1=_;rw[Zf g1];exact sn _ _ g3⟩
      ·rw[Qf.mp hx]
       exact⟨nDn.symm,by show upd _ D5 _ n=_;rw[Zf nDn.symm,Zd,Int.zero_add]⟩
     ·rw[Zf (Zc hb hD5)];exact sn _ _ (sE b o hb)
    rintro zs σ H22 ⟨⟨w1,rfl⟩,⟨ws1,rfl,hwl,hw,hws⟩,hE,sE⟩
    rw[QaB,QG (by rw[Qag];exact Ql _)]at hw
    refine⟨pD ((bs.zipIdx.map fun e=>((1:Int),e.2,e.1))),pD ((bs.zipIdx.map fun e=>((1:Int),e.2,e.1))),(by rw[← e4];exact ZeL (sE _ _ hfr18) fun u hu=>sE _ _ (hus4 u hu).2),(by rw[← hw];exact ZeL hE fun u hu=>(hws u hu).2),Zbe _,Zbe _,_,rfl,?_⟩
    rw[if_pos rfl,ZfX]
    refine ZaW ?_
    have s1122:=s1121.trans sE
    exact(Zjv _ _ _ _ _ _ _ _ _ c5 ⟨rfl,s011.trans s1122,L11.same s1122,by omega⟩)
  ·rintro σ H4 ⟨v3,v4,v5,v6,v7,v8,v9,v10,v11,c,rfl,s4,L4,hc⟩
   exact(ZiD _ _ _ _ _ _ _ _ _ _ _ ⟨rfl,s4⟩)
 ·rintro σ H2 ⟨v1,v2,v3,v4,v5,v6,v7,v8,v9,v10,v11,rfl,s2⟩
  exact q H2
end
theorem Z0{K:PySem.W.Frag}{h:Heap}{mg:Str→Option Value}{x:Str}{st:Stmt}{ps:List Str}{f:Addr}{od an:Option Addr}{sl:Array (Option Value)}{oc kV dc pm cd ct:Value}(X:K.In h)(G:h.Ns mainGlobals mg)
  (a:PySem.W.nsIn K mainGlobals x=some (some (.ref f))) (l:K.lookup f=some ⟨oc,od,.func (PySem.W.fnOf x x (Zw st) (Zr st) (Ze st) .none kV dc pm an cd ct),sl⟩) (c:PySem.W.codeIn K cd x=true) (k:PySem.W.keepIn K (.ref f)=true)
  (hb:∀ (kV doc pm:Value) (an:Option Addr) (cdv ct:Value) (us:List Value),us.length=ps.length→bindArgs (PySem.W.fnOf x x (Zw st) (Zr st) (Ze st) .none kV doc pm an cdv ct) ⟨us,[]⟩=pure (ps.zip us)):Top K mg x st ps :=
 ⟨_,_,ZdX (st:=st) l c k,PySem.W.mg_of X G a,(ZdX (st:=st) l c k).binds hb⟩
theorem Zig:∀us:List Value,us.length=1→∃a0,us=[a0]
 | [a0],_=>⟨a0,rfl⟩
theorem ZdH:∀us:List Value,us.length=2→∃a0 a1,us=[a0,a1]
 | [a0,a1],_=>⟨a0,a1,rfl⟩
theorem Zh5:∀us:List Value,us.length=3→∃a0 a1 a2,us=[a0,a1,a2]
 | [a0,a1,a2],_=>⟨a0,a1,a2,rfl⟩
theorem all_mk{l:PySem.W.OpenLaw}{w:World}{K:PySem.W.Frag}{h:Heap}{mg:Str→Option Value}{fa:Addr}(X:K.In h)(G:h.Ns mainGlobals mg)(hfa:mg "law" = some (.ref fa))
  (a0:#[Xns,K,"alike",f0]) (l0:#[Xlk,K,f0,oc0,od0,"alike","alike",Za4,kV0,dc0,pm0,an0,cd0,ct0,sl0]) (c0:#[Xci,K,cd0,"alike"]) (k0:#[Xki,K,f0])
  (a1:#[Xns,K,"liken",f1]) (l1:#[Xlk,K,f1,oc1,od1,"liken","liken",Za2,kV1,dc1,pm1,an1,cd1,ct1,sl1]) (c1:#[Xci,K,cd1,"liken"]) (k1:#[Xki,K,f1])
  (a2:#[Xns,K,"alike_from",f2]) (l2:#[Xlk,K,f2,oc2,od2,"alike_from","alike_from",ZU,kV2,dc2,pm2,an2,cd2,ct2,sl2]) (c2:#[Xci,K,cd2,"alike_from"]) (k2:#[Xki,K,f2])
  (a3:#[Xns,K,"order_at",f3]) (l3:#[Xlk,K,f3,oc3,od3,"order_at","order_at",Zae,kV3,dc3,pm3,an3,cd3,ct3,sl3]) (c3:#[Xci,K,cd3,"order_at"]) (k3:#[Xki,K,f3])
  (a4:#[Xns,K,"two_merged",f4]) (l4:#[Xlk,K,f4,oc4,od4,"two_merged","two_merged",ZV,kV4,dc4,pm4,an4,cd4,ct4,sl4]) (c4:#[Xci,K,cd4,"two_merged"]) (k4:#[Xki,K,f4])
  (a5:#[Xns,K,"_law_mix",f5]) (l5:#[Xlk,K,f5,oc5,od5,"_law_mix","_law_mix",Za7,kV5,dc5,pm5,an5,cd5,ct5,sl5]) (c5:#[Xci,K,cd5,"_law_mix"]) (k5:#[Xki,K,f5])
  (a6:#[Xns,K,"_law_left",f6]) (l6:#[Xlk,K,f6,oc6,od6,"_law_left","_law_left",ZaB,kV6,dc6,pm6,an6,cd6,ct6,sl6]) (c6:#[Xci,K,cd6,"_law_left"]) (k6:#[Xki,K,f6])
  (a7:#[Xns,K,"_law_pick",f7]) (l7:#[Xlk,K,f7,oc7,od7,"_law_pick","_law_pick",ZaK,kV7,dc7,pm7,an7,cd7,ct7,sl7]) (c7:#[Xci,K,cd7,"_law_pick"]) (k7:#[Xki,K,f7])
  (a8:#[Xns,K,"_law_stems",f8]) (l8:#[Xlk,K,f8,oc8,od8,"_law_stems","_law_stems",Zab,kV8,dc8,pm8,an8,cd8,ct8,sl8]) (c8:#[Xci,K,cd8,"_law_stems"]) (k8:#[Xki,K,f8])
  (a9:#[Xns,K,"_law_key",f9]) (l9:#[Xlk,K,f9,oc9,od9,"_law_key","_law_key",ZaA,kV9,dc9,pm9,an9,cd9,ct9,sl9]) (c9:#[Xci,K,cd9,"_law_key"]) (k9:#[Xki,K,f9])
  (a10:#[Xns,K,"_law_keys",f10]) (l10:#[Xlk,K,f10,oc10,od10,"_law_keys","_law_keys",ZaL,kV10,dc10,pm10,an10,cd10,ct10,sl10]) (c10:#[Xci,K,cd10,"_law_keys"]) (k10:#[Xki,K,f10])
  (a11:#[Xns,K,"_law_same",f11]) (l11:#[Xlk,K,f11,oc11,od11,"_law_same","_law_same",Zai,kV11,dc11,pm11,an11,cd11,ct11,sl11]) (c11:#[Xci,K,cd11,"_law_same"]) (k11:#[Xki,K,f11])
  (a12:#[Xns,K,"_law_order",f12]) (l12:#[Xlk,K,f12,oc12,od12,"_law_order","_law_order",Zaa,kV12,dc12,pm12,an12,cd12,ct12,sl12]) (c12:#[Xci,K,cd12,"_law_order"]) (k12:#[Xki,K,f12])
  (a13:#[Xns,K,"_law_two_rows",f13]) (l13:#[Xlk,K,f13,oc13,od13,"_law_two_rows","_law_two_rows",ZX,kV13,dc13,pm13,an13,cd13,ct13,sl13]) (c13:#[Xci,K,cd13,"_law_two_rows"]) (k13:#[Xki,K,f13])
  (a14:#[Xns,K,"law",f14]) (l14:#[Xlk,K,f14,oc14,od14,"law","law",Z6,kV14,dc14,pm14,an14,cd14,ct14,sl14]) (c14:#[Xci,K,cd14,"law"]) (k14:#[Xki,K,f14])
  (z0:PySem.W.nsIn K mainGlobals "abs" = some none) (z1:PySem.W.nsIn K mainGlobals "all" = some none) (z2:PySem.W.nsIn K mainGlobals "bool" = some none) (z3:PySem.W.nsIn K mainGlobals "enumerate" = some none) (z4:PySem.W.nsIn K mainGlobals "int" = some none) (z5:PySem.W.nsIn K mainGlobals "isinstance" = some none) (z6:PySem.W.nsIn K mainGlobals "len" = some none) (z7:PySem.W.nsIn K mainGlobals "list" = some none) (z8:PySem.W.nsIn K mainGlobals "max" = some none) (z9:PySem.W.nsIn K mainGlobals "min" = some none) (z10:PySem.W.nsIn K mainGlobals "range" = some none) (z11:PySem.W.nsIn K mainGlobals "sorted" = some none) (z12:PySem.W.nsIn K mainGlobals "str" = some none) (z13:PySem.W.nsIn K mainGlobals "tuple" = some none) (z14:PySem.W.nsIn K mainGlobals "zip" = some none) :
  ∃fd:FuncData,(∀ (s:Shared) (v:Value),BindsTo s fd ⟨[v],[]⟩ [("_law_script",v)])∧∀base:Heap,K.In base→base.Ns mainGlobals mg→ZbP l.prog w K mg base CX0 6 fa fd ["_law_script"] (ZeK K):=by
 have e:=hfa.symm.trans (PySem.W.mg_of X G a14)
 cases e
 have T:Zbg K mg:=⟨⟨Qw X G z0,Qw X G z1,Qw X G z2,Qw X G z3,Qw X G z4,Qw X G z5,Qw X G z6,Qw X G z7,Qw X G z8,Qw X G z9,Qw X G z10,Qw X G z11,Qw X G z12,Qw X G z13,Qw X G z14⟩,Z0 X G a0 l0 c0 k0 (fun _ _ _ _ _ _ us hl=>by obtain⟨_,_,rfl⟩:=ZdH us hl;exact rfl),Z0 X G a1 l1 c1 k1 (fun _ _ _ _ _ _ us hl=>by obtain⟨_,_,rfl⟩:=ZdH us hl;exact rfl),Z0 X G a2 l2 c2 k2 (fun _ _ _ _ _ _ us hl=>by obtain⟨_,_,_,rfl⟩:=Zh5 us hl;exact rfl),Z0 X G a3 l3 c3 k3 (fun _ _ _ _ _ _ us hl=>by obtain⟨_,_,_,rfl⟩:=Zh5 us hl;exact rfl),Z0 X G a4 l4 c4 k4 (fun _ _ _ _ _ _ us hl=>by obtain⟨_,_,rfl⟩:=ZdH us hl;exact rfl),Z0 X G a5 l5 c5 k5 (fun _ _ _ _ _ _ us hl=>by obtain⟨_,_,rfl⟩:=ZdH us hl;exact rfl),Z0 X G a6 l6 c6 k6 (fun _ _ _ _ _ _ us hl=>by obtain⟨_,_,rfl⟩:=ZdH us hl;exact rfl),Z0 X G a7 l7 c7 k7 (fun _ _ _ _ _ _ us hl=>by obtain⟨_,_,rfl⟩:=ZdH us hl;exact rfl),Z0 X G a8 l8 c8 k8 (fun _ _ _ _ _ _ us hl=>by obtain⟨_,rfl⟩:=Zig us hl;exact rfl),Z0 X G a9 l9 c9 k9 (fun _ _ _ _ _ _ us hl=>by obtain⟨_,_,rfl⟩:=ZdH us hl;exact rfl),Z0 X G a10 l10 c10 k10 (fun _ _ _ _ _ _ us hl=>by obtain⟨_,_,_,rfl⟩:=Zh5 us hl;exact rfl),Z0 X G a11 l11 c11 k11 (fun _ _ _ _ _ _ us hl=>by obtain⟨_,_,rfl⟩:=ZdH us hl;exact rfl),Z0 X G a12 l12 c12 k12 (fun _ _ _ _ _ _ us hl=>by obtain⟨_,rfl⟩:=Zig us hl;exact rfl),Z0 X G a13 l13 c13 k13 (fun _ _ _ _ _ _ us hl=>by obtain⟨_,rfl⟩:=Zig us hl;exact rfl)⟩
 exact⟨PySem.W.fnOf "law" "law" (Zw Z6) (Zr Z6) (Ze Z6) .none kV14 dc14 pm14 an14 cd14 ct14,fun s v=>.of_eq rfl,fun base _ _=>Zis (ZdX (st:=Z6) l14 c14 k14) T⟩
theorem walk{l:PySem.W.OpenLaw}{q:Program}{loose:List Str}{XP:(Str→Option Value)→Heap→Prop}{YP:World→Heap→Prop}{d:DefRec}{K:Params→PySem.W.Frag}(hn:l.most=some 63)(hdf:d.params.defaults=[])
  (hY:∀ (w:World) (h:Heap),YP w h→(K w.params).In h)
  (F:∀ (w:World) (mg:Str→Option Value) (fa:Addr) (h:Heap),(K w.params).In h→h.Ns mainGlobals mg→mg d.name=some (.ref fa) →
   ∃fd:FuncData,(∀ (s:Shared) (u:Value),BindsTo s fd ⟨[u],[]⟩ [("_law_script",u)])∧∀base:Heap,(K w.params).In base→base.Ns mainGlobals mg→ZbP l.prog w (K w.params) mg base CX0 6 fa fd ["_law_script"] (ZeK (K w.params))) :
  PySem.W.WalkO q loose XP YP l.row.toRowW d [] (fun f vs=>PySem.call f vs) :=
 L2.walk_of (n:=63) (k:=6) (x := "_law_script") (CX:=fun _=>CX0) (sp:=fun w=>ZeK (K w.params)) hn (by decide) hdf ⟨rfl,by decide,by decide,rfl⟩ hY F (fun _ _ a ns hl _ hS=>⟨a,ns,rfl,hS,hl,fun _=>rfl⟩) fun _ _ _ _ _ z=>z
end My
open PySem PySem.W PyProof.Rows
namespace PySem.W.Fast
def tw12603971556926617428:=0
def tw13385321440251609125:=0
def tw12052844114247754527:=0
def tw12537977174740308927:=0
def tw14680212929373413270:=0
def tw731284650059722724:=0
def tw7999947084538028579:=0
def tw10131155672023140574:=0
def tw4034659322368942416:=0
def tw8484181732384107446:=0
def tw15946297633322387726:=0
def tw1994046140782299516:=0
def tw5558603515714160901:=0
def tw8463986776291682208:=0
def tw15213436152065336384:=0
def tw8336399468757281414:=0
def tw4240969121795029871:=0
def tw14381432215226256961:=0
def tw9077611494545809083:=0
def tw9293090835771771728:=0
def tw13167895010061967450:=0
def tw13868804823937077781:=0
def tw15873468375493067745:=0
def tw9439633192468769422:=0
def tw18110642906722478547:=0
def tw9658040427304521530:=0
def tw7284787713436388616:=0
def tw4604728285180226894:=0
def tw12709371453976213166:=0
def tw9545782392025028702:=0
def tw8841007868619551091:=0
def tw16545095944924982571:=0
def tw5247626480628044300:=0
def tw8575521821080477295:=0
def tw15979205654402457368:=0
def tw1269937070839292416:=0
def tw5039863128774219141:=0
def tw9402073517275628210:=0
def tw10692095721671291051:=0
def tw15924557977500658300:=0
def tw17731002434631865158:=0
def tw1301417288395129723:=0
def tw1871800354431441804:=0
def tw2525916962018533847:=0
def tw3884151618355169478:=0
def tw5019603523513782681:=0
def tw9981050545194862850:=0
def tw1053989248160408490:=0
def tw15211981689551572891:=0
def tw14641567838515797259:=0
def tw10518458171041020101:=0
def tw7608616728793129040:=0
def tw3405304233540911474:=0
def tw4767438710866353218:=0
def tw15997873256212532548:=0
def tw10399658913534443739:=0
def tw8734023274052294926:=0
def tw7137388174461487137:=0
def tw1776575307330286625:=0
def tw2673929656622871058:=0
def tw17748599042390666982:=0
def tw6475050349987969834:=0
def tw14361480698777469509:=0
def tw15559564141948146227:=0
def tw13378903569686225803:=0
def tw5773311882958350602:=0
def tw7712027549312482485:=0
def tw17527063907810557662:=0
def tw6854859489885551784:=0
def tw11239338930981062858:=0
def tw3703992084701860113:=0
def tw3363027890760856434:=0
def tw17310944717598781189:=0
def tw8708540956796898181:=0
def tw3988423870670531196:=0
def tw18102388876220386245:=0
def tw8178173676649871251:=0
def tw3289993000342605150:=0
def tw17806258330033292117:=0
def tw18245641788895682135:=0
def tw8703769770129836395:=0
def tw10116028708418591749:=0
def tw14104298538275305709:=0
def tw18233187121594407495:=0
def tw10148947542961504959:=0
def tw10807765099660763869:=0
def tw12693672593653595366:=0
def tw8527059391885711249:=0
def tw6943455269518140770:=0
def tw16403084577540835358:=0
def tw1205063955234327722:=0
def tw9276146560144043400:=0
def tw15952850546503784269:=0
def tw6574791657492778553:=0
def tw10243273578138315020:=0
end PySem.W.Fast
set_option maxRecDepth 100000 in
set_option maxHeartbeats 0 in
theorem PySem.Challenge.cw_mergetree_k08_two_rows_merged_holds : PySem.Challenge.rw_mergetree_k08_two_rows_merged.Holds := by
 w_on;o_law;k_head;(case hw=>w_witness2)
 k_fill
 refine My.walk (l:=PySem.Challenge.rw_mergetree_k08_two_rows_merged) rfl rfl (fun w h Y=>PySem.W.kIn_of Y) ?F
 case F =>
  intro w mg fa h KX G hmg
  refine' My.all_mk KX G hmg ?a0 ?l0 ?c0 ?k0 ?a1 ?l1 ?c1 ?k1 ?a2 ?l2 ?c2 ?k2 ?a3 ?l3 ?c3 ?k3 ?a4 ?l4 ?c4 ?k4 ?a5 ?l5 ?c5 ?k5 ?a6 ?l6 ?c6 ?k6 ?a7 ?l7 ?c7 ?k7 ?a8 ?l8 ?c8 ?k8 ?a9 ?l9 ?c9 ?k9 ?a10 ?l10 ?c10 ?k10 ?a11 ?l11 ?c11 ?k11 ?a12 ?l12 ?c12 ?k12 ?a13 ?l13 ?c13 ?k13 ?a14 ?l14 ?c14 ?k14 ?z0 ?z1 ?z2 ?z3 ?z4 ?z5 ?z6 ?z7 ?z8 ?z9 ?z10 ?z11 ?z12 ?z13 ?z14
  (case a0|l0|c0|k0=>k_is)
  (case a1|l1|c1|k1=>k_is)
  (case a2|l2|c2|k2=>k_is)
  (case a3|l3|c3|k3=>k_is)
  (case a4|l4|c4|k4=>k_is)
  (case a5|l5|c5|k5=>k_is)
  (case a6|l6|c6|k6=>k_is)
  (case a7|l7|c7|k7=>k_is)
  (case a8|l8|c8|k8=>k_is)
  (case a9|l9|c9|k9=>k_is)
  (case a10|l10|c10|k10=>k_is)
  (case a11|l11|c11|k11=>k_is)
  (case a12|l12|c12|k12=>k_is)
  (case a13|l13|c13|k13=>k_is)
  (case a14|l14|c14|k14=>k_is)
  (case z0=>k_is)
  (case z1=>k_is)
  (case z2=>k_is)
  (case z3=>k_is)
  (case z4=>k_is)
  (case z5=>k_is)
  (case z6=>k_is)
  (case z7=>k_is)
  (case z8=>k_is)
  (case z9=>k_is)
  (case z10=>k_is)
  (case z11=>k_is)
  (case z12=>k_is)
  (case z13=>k_is)
  (case z14=>k_is)
