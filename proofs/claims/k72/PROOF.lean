import PyProof.Rows.All
import Wide.All
import OpenK.AllK
import Wide.FinOn
import Lean
import PyProof.EqAt
import PyProof.EqKinds
import PyProof.TupleCall
import PyProof.AttrMissHeap
import KE.KEqDict
import KE.KItemsList
import PyProof.WalksMore
import PyProof.TupleOfStr
import PySem.Challenge.RW_mergetree_k72_whole_runs_merged_by_any_t
set_option maxHeartbeats 4000000
set_option maxRecDepth 100000
set_option Elab.async false
set_option linter.all false
local macro_rules|`(tactic|ac_rfl)=>`(tactic|decide +kernel)
noncomputable abbrev Qa:=@List.length_map
noncomputable abbrev Qb:=@List.getElem?_eq_getElem
noncomputable abbrev Qc:=@List.getElem?_eq_some_iff
noncomputable abbrev Qd:=@List.mem_singleton
noncomputable abbrev Qe:=@List.length_append
noncomputable abbrev Qf:=@List.map_append
noncomputable abbrev Qg:=@Nat.le_refl
noncomputable abbrev Qh:=@List.mem_append
noncomputable abbrev Qi:=@List.getElem?_map
noncomputable abbrev Qj:=@PySem.Heap.get?_push_of_some
noncomputable abbrev Qk:=@List.getD_eq_getElem?_getD
noncomputable abbrev Ql:=@List.map_cons
noncomputable abbrev Qm:=@List.length_singleton
noncomputable abbrev Qn:=@List.mem_append_right
noncomputable abbrev Qo:=@List.mem_of_getElem?
noncomputable abbrev Qp:=@List.mem_map_of_mem
noncomputable abbrev Qq:=@PySem.boot_len
noncomputable abbrev Qr:=@Option.some.inj
noncomputable abbrev Qs:=@List.mem_append_left
noncomputable abbrev Qt:=@List.size_toArray
noncomputable abbrev Qu:=@List.mem_cons_of_mem
noncomputable abbrev Qv:=@Nat.zero_le
noncomputable abbrev Qw:=@List.mem_map
noncomputable abbrev Qx:=@List.length_take
noncomputable abbrev Qy:=@List.take_of_length_le
noncomputable abbrev Qz:=@PySem.Heap.lt_size
noncomputable abbrev QA:=@List.mem_of_mem_erase
noncomputable abbrev QB:=@List.map_map
noncomputable abbrev QC:=@Bool.false_ne_true
noncomputable abbrev QD:=@PySem.Heap.get?_push_size
noncomputable abbrev QE:=@List.length_cons
noncomputable abbrev QF:=@Nat.lt_of_lt_of_le
noncomputable abbrev QG:=@PySem.F.plainAttrs_list
noncomputable abbrev QH:=@List.getElem?_eq_none
noncomputable abbrev QI:=@List.take_add_one
noncomputable abbrev QJ:=@Nat.le_trans
noncomputable abbrev QK:=@List.mem_cons
noncomputable abbrev QL:=@List.append_nil
noncomputable abbrev QM:=@List.map_congr_left
noncomputable abbrev QN:=@List.eq_nil_of_length_eq_zero
noncomputable abbrev QO:=@PySem.F.slot_list_append
noncomputable abbrev QP:=@PySem.F.type_list_append
noncomputable abbrev QR:=@List.length_drop
noncomputable abbrev QS:=@PySem.W.mg_none_of
noncomputable abbrev QT:=@List.getElem_mem
noncomputable abbrev QU:=@List.mem_range
noncomputable abbrev QV:=@Nat.ne_of_lt
noncomputable abbrev QW:=@List.getElem?_append_right
noncomputable abbrev QX:=@List.getElem?_append_left
noncomputable abbrev QY:=@List.nodup_cons
noncomputable abbrev QZ:=@List.nodup_append
noncomputable abbrev Q0:=@List.sum_cons
noncomputable abbrev Q1:=@List.mem_cons_self
noncomputable abbrev Q3:=@List.length_pos_of_mem
noncomputable abbrev Q4:=@Nat.le_succ
noncomputable abbrev Q5:=@Int.toNat_natCast
noncomputable abbrev Q6:=@List.append_assoc
noncomputable abbrev Q7:=@PySem.W.kia_one
noncomputable abbrev Q8:=@PySem.Heap.get?_update_of_ne
noncomputable abbrev Q9:=@List.pairwise_iff_getElem
noncomputable abbrev Qaa:=@List.filterMap_cons
noncomputable abbrev Qab:=@PySem.mem_of_lookup
noncomputable abbrev Qac:=@List.length_erase_of_mem
noncomputable abbrev Qad:=@List.zip_cons_cons
noncomputable abbrev Qae:=@List.take_append_drop
noncomputable abbrev Qaf:=@Nat.lt_of_le_of_lt
noncomputable abbrev Qag:=@List.map_nil
noncomputable abbrev Qah:=@List.pairwise_singleton
noncomputable abbrev Qai:=@List.ext_getElem?
noncomputable abbrev Qaj:=@List.range_succ
noncomputable abbrev Qak:=@List.getElem?_range
noncomputable abbrev Qal:=@PyProof.Rows.callWith_type1
noncomputable abbrev Qam:=@List.getLastD_eq_getLast?
noncomputable abbrev Qan:=@List.sum_append
noncomputable abbrev Qao:=@List.find?_cons
noncomputable abbrev Qap:=@List.length_range
noncomputable abbrev Qaq:=@List.mem_of_mem_take
noncomputable abbrev Qar:=@List.mem_of_mem_drop
noncomputable abbrev Qas:=@Nat.lt_irrefl
noncomputable abbrev Qat:=@List.eraseIdxIfInBounds_toArray
noncomputable abbrev Qau:=@List.Perm.refl
noncomputable abbrev Qav:=@Nat.le_of_lt
noncomputable abbrev Qaw:=@List.find?_cons_of_neg
noncomputable abbrev Qax:=@Nat.add_sub_cancel
noncomputable abbrev Qay:=@List.any_cons
noncomputable abbrev Qaz:=@List.reverse_cons
noncomputable abbrev QaA:=@PySem.Heap.size_push
noncomputable abbrev QaB:=@List.mem_erase_of_ne
noncomputable abbrev QaC:=@Int.le_refl
noncomputable abbrev QaD:=@List.pairwise_append
noncomputable abbrev QaE:=@List.getElem?_of_mem
noncomputable abbrev QaF:=@Bool.and_eq_true
noncomputable abbrev QaG:=@List.lookup_cons
noncomputable abbrev QaH:=@Nat.min_le_right
noncomputable abbrev QaI:=@List.getElem?_eq_none_iff
noncomputable abbrev QaJ:=@Array.length_toList
noncomputable abbrev QaK:=@List.length_pos_iff
noncomputable abbrev QaL:=@List.Perm.eq_of_pairwise
noncomputable abbrev QaM:=@List.getLast?_eq_getLast
noncomputable abbrev QaN:=@Bool.eq_iff_iff
noncomputable abbrev QaO:=@Int.emod_lt_of_pos
noncomputable abbrev QaP:=@Nat.ne_of_gt
noncomputable abbrev QaQ:=@Option.map_eq_some_iff
noncomputable abbrev QaR:=@List.Pairwise.map
noncomputable abbrev QaS:=@List.length_eq_one_iff
noncomputable abbrev QaT:=@Int.add_zero
noncomputable abbrev QaU:=@List.flatMap_cons
noncomputable abbrev QaZ:=@Nat.succ_le_succ
noncomputable abbrev Qa0:=@List.mem_reverse
namespace L2
open PySem PySem.Spec PyProof.Rows
noncomputable abbrev Key:=Sum Int Str
noncomputable def Zgu:Key→Value→Bool
 | .inl k,v=>Value.isInt k v
 | .inr x,v=>Value.isStrOf x v
noncomputable def Zs2(w:World):Key→Int
 | .inl k=>hashInt k
 | .inr x=>hashStr w x
theorem Zas:∀ {k:Key} {v:Value},Zgu k v=true→(∃i t,k=Sum.inl i∧v=Value.int i t)∨(∃x t,k=Sum.inr x∧v=Value.str x t)
 | .inl i,v,h=>by
  obtain⟨t,e⟩:=Value.isInt_shape (k:=i) (v:=v) h
  exact .inl ⟨i,t,rfl,e⟩
 | .inr x,v,h=>by
  obtain⟨t,e⟩:=Value.isStrOf_shape (x:=x) (v:=v) h
  exact .inr ⟨x,t,rfl,e⟩
theorem ZlI(i:Int)(t:Tok):Zgu (.inl i) (.int i t)=true:=by simp[Zgu,Value.isInt]
theorem ZlX(x:Str)(t:Tok):Zgu (.inr x) (.str x t)=true:=by simp[Zgu,Value.isStrOf]
theorem ZrL(a b:Int):decide ((Sum.inl a:Key)=Sum.inl b)=(a == b):=by
 by_cases e:a=b
 ·subst e;simp
 ·have h:¬ (Sum.inl a:Key)=Sum.inl b:=fun q=>e (Sum.inl.inj q)
  rw[decide_eq_false h]
  exact(beq_eq_false_iff_ne.mpr e).symm
theorem Zrf(a b:Str):decide ((Sum.inr a:Key)=Sum.inr b)=decide (a=b):=by
 by_cases e:a=b
 ·subst e;simp
 ·have h:¬ (Sum.inr a:Key)=Sum.inr b:=fun q=>e (Sum.inr.inj q)
  rw[decide_eq_false h,decide_eq_false e]
theorem Zqz(a:Int)(b:Str):decide ((Sum.inl a:Key)=Sum.inr b)=false:=decide_eq_false (fun q=>nomatch q)
theorem ZqX(a:Str)(b:Int):decide ((Sum.inr a:Key)=Sum.inl b)=false:=decide_eq_false (fun q=>nomatch q)
noncomputable def ZO(prog:Program)(w:World):PySem.KeyKind prog w Key where
 is:=Zgu
 hash:=Zs2 w
 inj:=fun v a b ha hb=>by
  rcases Zas ha with⟨i,t,rfl,rfl⟩|⟨x,t,rfl,rfl⟩
  ·rcases Zas hb with⟨j,u,rfl,e⟩|⟨y,u,rfl,e⟩
   ·injection e with e1 _;rw[e1]
   ·exact nomatch e
  ·rcases Zas hb with⟨j,u,rfl,e⟩|⟨y,u,rfl,e⟩
   ·exact nomatch e
   ·injection e with e1 _;rw[e1]
 byValue:=fun k v h=>by
  rcases Zas h with⟨i,t,rfl,rfl⟩|⟨x,t,rfl,rfl⟩<;>rfl
 pyHash:=fun hv h=>by
  rcases Zas hv with⟨i,t,rfl,rfl⟩|⟨x,t,rfl,rfl⟩
  ·exact wpAny_pyHash_int h
  ·exact wpAny_pyHash_str h
 eqBool:=fun hu hv h=>by
  rcases Zas hu with⟨i,t,rfl,rfl⟩|⟨x,t,rfl,rfl⟩
  ·rcases Zas hv with⟨j,u,rfl,rfl⟩|⟨y,u,rfl,rfl⟩
   ·rw[ZrL]at h;exact wpAny_eqBool_int h
   ·rw[Zqz]at h;exact SeqAt.EqAt.int_str i t y u _ _ _ _ h
  ·rcases Zas hv with⟨j,u,rfl,rfl⟩|⟨y,u,rfl,rfl⟩
   ·rw[ZqX]at h;exact SeqAt.EqAt.str_int x t j u _ _ _ _ h
   ·rw[Zrf]at h;exact wpAny_eqBool_str h
 «strs»:=fun k x t v h=>by
  rcases Zas h with⟨i,u,rfl,e⟩|⟨y,u,rfl,e⟩
  ·exact nomatch e
  ·injection e with e1 _
   subst e1
   cases v<;>rfl
theorem ZkG(prog:Program)(w:World)(k:Key)(v:Value):(ZO prog w).is k v=Zgu k v:=rfl
theorem ZfF(prog:Program)(w:World)(i:Int)(t:Tok):(ZO prog w).is (.inl i) (.int i t)=true:=ZlI i t
theorem ZfC(prog:Program)(w:World)(x:Str)(t:Tok):(ZO prog w).is (.inr x) (.str x t)=true:=ZlX x t
inductive V where
 | non|bl (b:Bool)|int (i:Int)|str (x:Str)|byt (b:Array UInt8)|flt (b:UInt64)|ref (a:Addr)|ty (n:String)
 deriving DecidableEq
noncomputable def ZG:V→Value→Prop
 | .non,u=>u=Value.none
 | .bl b,u=>u=Value.bool b
 | .int i,u=>∃t,u=Value.int i t
 | .str x,u=>∃t,u=Value.str x t
 | .byt b,u=>∃t,u=Value.bytes b t
 | .flt b,u=>∃t,u=Value.float b t
 | .ref a,u=>u=Value.ref a
 | .ty n,u=>u=Value.type n
noncomputable abbrev Zw:List V→List Value→Prop:=Paired ZG
theorem Zw.length{xs:List V}{us:List Value}(r:Zw xs us):xs.length=us.length:=Paired.length r
theorem Zw.get:∀ {xs:List V} {us:List Value} {i:Nat} {x:V},Zw xs us→xs[i]? = some x→∃u,us[i]? = some u∧ZG x u
 | _,_,_,_,.nil,e=>by simp at e
 | _,_,0,_,.cons r _,e=>by simp at e;subst e;exact⟨_,rfl,r⟩
 | _,_,i+1,x,.cons _ t,e=>by
  obtain⟨u,h1,h2⟩:=Zw.get (i:=i) (x:=x) t (by simpa using e)
  exact⟨u,by simpa using h1,h2⟩
theorem Zw.set{x:V}{u:Value}(r:ZG x u):∀ {xs:List V} {us:List Value} (i:Nat),Zw xs us→Zw (xs.set i x) (us.set i u)
 | _,_,_,.nil=>.nil
 | _,_,0,.cons _ t=>.cons r t
 | _,_,i+1,.cons q t=>.cons q (Zw.set r i t)
theorem Zw.append:∀ {xs ys:List V} {us ws:List Value},Zw xs us→Zw ys ws→Zw (xs++ys) (us++ws)
 | _,_,_,_,.nil,s=>s
 | _,_,_,_,.cons r t,s=>.cons r (Zw.append t s)
theorem Zw.take:∀ {xs:List V} {us:List Value} (n:Nat),Zw xs us→Zw (xs.take n) (us.take n)
 | _,_,0,_=>.nil
 | _,_,_+1,.nil=>.nil
 | _,_,n+1,.cons r t=>.cons r (Zw.take n t)
theorem Zw.drop:∀ {xs:List V} {us:List Value} (n:Nat),Zw xs us→Zw (xs.drop n) (us.drop n)
 | _,_,0,r=>r
 | _,_,_+1,.nil=>.nil
 | _,_,n+1,.cons _ t=>Zw.drop n t
noncomputable def Zdu:Option V→Option Value→Prop
 | some v,some u=>ZG v u
 | none,none=>True
 | _,_=>False
noncomputable def KV{κ:Type}:List (κ×V)→List (κ×Value)→Prop:=Paired fun (p:κ×V) (q:κ×Value)=>p.1=q.1∧ZG p.2 q.2
noncomputable def kV:Key→V
 | .inl i=>.int i
 | .inr x=>.str x
inductive HO where
  | lst (xs:List V)
  | tup (xs:List V)
  | dK (kvs:List (Key×V))|dT (kvs:List (List Key×V))
  | set (S:Int→Bool) (n:Nat)
  | ins (C dx:Addr) (fs:List (Str×V))
  | own (x:Addr)
  | xd (fs:List (Str×V))
  | met (f x:Addr)
  | rng (lo hi:Int)
  | frz (o:Obj) (u:HO)
  | tbl (ps:Array Value)
  | ext (φ:Heap→Prop)
noncomputable abbrev Hp:=Addr→Option HO
noncomputable def upd(H:Hp)(a:Addr)(o:HO):Hp:=fun b=>if b=a then some o else H b
theorem Zb{H:Hp}{a:Addr}{o:HO}:upd H a o a=some o:=by unfold upd;rw[if_pos rfl]
theorem Ze{H:Hp}{a b:Addr}{o:HO}(h:b≠a):upd H a o b=H b:=by unfold upd;rw[if_neg h]
theorem Zk7{H:Hp}{a b:Addr}{o u:HO}(h:H a=some o)(h':H b=some u)(d:o≠u):a≠b:=by
 intro e;subst e;rw[h]at h';exact d (Qr h')
theorem Zd{H:Hp}{a b:Addr}{o:HO}(h:H a=some o)(h':H b=none):a≠b:=by
 intro e;subst e;rw[h]at h';cases h'
section
variable (P:Program) (w:World)
noncomputable def Zap(H:Hp)(h:Heap)(a:Addr):HO→Prop
 | .lst xs=>xs.length≤sizeLine∧∃ (its:List Value) (n:Nat),Zw xs its∧h.get? a=some { cls:=.type "list",data:=.seq its.toArray n }
 | .tup xs=>xs.length≤sizeLine∧∃its:List Value,Zw xs its∧IsTup h a its.toArray
 | .dK kvs=>kvs.length≤sizeLine∧(a == sysModules)=false∧∃vs,KV kvs vs∧h.DictOf (ZO P w) a vs
 | .dT kvs=>kvs.length≤sizeLine∧(a == sysModules)=false∧∃xs:List (List Key×Addr×Value),
   Paired (fun (p:List Key×V) (q:List Key×Addr×Value)=>p.1=q.1∧H q.2.1=some (.tup (p.1.map kV))∧ZG p.2 q.2.2) kvs xs ∧
   ∃o es ep,h.get? a=some o∧o.ExactDict∧o.data=.dict es ep∧es.toList=xs.map (entryOfKey (tupleKind (ZO P w)))∧(xs.map (·.1)).Nodup
 | .set S n=>h.SetOf (intKind P w) a S n
 | .ins C dx fs=>H dx=some (.own a)∧fs.length≤1000∧dx≠a∧h.get? a=some (PySem.W.instObj C dx) ∧
   ∃mA,h.Ns1 dx mA∧(∀f,Zdu (fs.lookup f) (mA f))∧PySem.Within mA (fs.map (·.1))
 | .own _=>∃o,h.get? a=some o
 | .xd fs=>∃mA,h.Ns1 a mA∧∀f,Zdu (fs.lookup f) (mA f)
 | .rng lo hi=>∃t u v,h.get? a=some { cls:=.type "range",data:=.fields #[.int lo t,.int hi u,.int 1 v] }
 | .frz o u=>h.get? a=some o∧Zap H h a u
 | .tbl ps=>h.get? a=some { cls:=.none,data:=.fields ps }
 | .met f x=>h.get? a=some (PySem.W.methodObj (.ref f) (.ref x))
 | .ext φ=>φ h∧(∃o,h.get? a=some o)∧∀h1 h2:Heap,φ h1→(∀o,h1.get? a=some o→h2.get? a=some o)→φ h2
noncomputable def HOk(H:Hp)(h:Heap):Prop:=∀a o,H a=some o→Zap P w H h a o
end
section
variable {P:Program} {w:World} {H H':Hp} {h h':Heap} {a:Addr} {o:HO}
theorem Zap.lt(x:Zap P w H h a o):a<h.objs.size:=by
 cases o with
 | lst xs=>obtain⟨_,_,_,_,e⟩:=x;exact Qz e
 | tup xs=>obtain⟨_,_,_,p⟩:=x;exact p.lt
 | dK kvs=>obtain⟨_,_,_,_,o,_,_,e,_⟩:=x;exact Qz e
 | dT kvs=>obtain⟨_,_,_,_,o,_,_,e,_⟩:=x;exact Qz e
 | set S n=>obtain⟨o,_,_,_,e,_⟩:=x;exact Qz e
 | ins C dx fs=>obtain⟨_,_,_,e,_⟩:=x;exact Qz e
 | own y=>obtain⟨_,e⟩:=x;exact Qz e
 | xd fs=>obtain⟨_,⟨_,_,_,e,_⟩,_⟩:=x;exact Qz e
 | rng lo hi=>obtain⟨_,_,_,e⟩:=x;exact Qz e
 | frz ob u=>obtain⟨e,_⟩:=x;exact Qz e
 | tbl ps=>exact Qz (show h.get? a=some _ from x)
 | met f y=>exact Qz (show h.get? a=some _ from x)
 | ext φ=>obtain⟨_,⟨_,e⟩,_⟩:=x;exact Qz e
theorem Paired.mapP{α β:Type}{F G:α→β→Prop}:∀ {l₁:List α} {l₂:List β},Paired F l₁ l₂→(∀a b,F a b→G a b)→Paired G l₁ l₂
 | _,_,.nil,_=>.nil
 | _,_,.cons r t,f=>.cons (f _ _ r) (Paired.mapP t f)
theorem Zap.stay(x:Zap P w H h a o)(k:∀b u,(b=a∨H b=some (.own a))→h.get? b=some u→h'.get? b=some u)
  (ho:∀b,H b=some (.own a)→H' b=some (.own a)) (ht:∀b xs,H b=some (.tup xs)→H' b=some (.tup xs)):Zap P w H' h' a o:=by
 induction o with
 | lst xs=>obtain⟨z,its,n,r,e⟩:=x;exact⟨z,its,n,r,k _ _ (.inl rfl) e⟩
 | tup xs=>obtain⟨z,its,r,ob,e,c⟩:=x;exact⟨z,its,r,ob,k _ _ (.inl rfl) e,c⟩
 | dK kvs=>obtain⟨z,y,vs,r,ob,es,ep,e,c⟩:=x;exact⟨z,y,vs,r,ob,es,ep,k _ _ (.inl rfl) e,c⟩
 | dT kvs =>
  obtain⟨z,y,xs,r,ob,es,ep,e,c⟩:=x
  exact⟨z,y,xs,Paired.mapP r fun p q z=>⟨z.1,ht _ _ z.2.1,z.2.2⟩,ob,es,ep,k _ _ (.inl rfl) e,c⟩
 | set S n=>obtain⟨ob,es,ep,t,e,c⟩:=x;exact⟨ob,es,ep,t,k _ _ (.inl rfl) e,c⟩
 | ins C dx fs =>
  obtain⟨d,z,ne,e,mA,⟨od,es,ep,e2,c⟩,r⟩:=x
  exact⟨ho _ d,z,ne,k _ _ (.inl rfl) e,mA,⟨od,es,ep,k _ _ (.inr d) e2,c⟩,r⟩
 | own y=>obtain⟨ob,e⟩:=x;exact⟨ob,k _ _ (.inl rfl) e⟩
 | xd fs=>obtain⟨mA,⟨od,es,ep,e,c⟩,r⟩:=x;exact⟨mA,⟨od,es,ep,k _ _ (.inl rfl) e,c⟩,r⟩
 | rng lo hi=>obtain⟨t,u,v,e⟩:=x;exact⟨t,u,v,k _ _ (.inl rfl) e⟩
 | frz ob u ih=>obtain⟨e,q⟩:=x;exact⟨k _ _ (.inl rfl) e,ih q⟩
 | tbl ps =>
  have e:h.get? a=some { cls:=.none,data:=.fields ps }:=x
  show h'.get? a=some { cls:=.none,data:=.fields ps }
  exact k a _ (.inl rfl) e
 | met f y =>
  have e:h.get? a=some (PySem.W.methodObj (.ref f) (.ref y)):=x
  show h'.get? a=some (PySem.W.methodObj (.ref f) (.ref y))
  exact k a _ (.inl rfl) e
 | ext φ=>obtain⟨p,⟨o,e⟩,st⟩:=x;exact⟨st _ _ p fun o q=>k _ _ (.inl rfl) q,⟨o,k _ _ (.inl rfl) e⟩,st⟩
theorem HOk.lt(x:HOk P w H h)(e:H a=some o):a<h.objs.size:=(x a o e).lt
theorem HOk.fresh(x:HOk P w H h)(e:h.objs.size≤a):H a=none:=by
 cases q:H a with
 | none=>rfl
 | some u=>exact absurd (QF (x.lt q) e) (Qas _)
theorem HOk.kept(x:HOk P w H h)(k:∀b u,h.get? b=some u→h'.get? b=some u):HOk P w H h':=fun a o e =>
 (x a o e).stay (fun b u _ q=>k b u q) (fun _ q=>q) fun _ _ q=>q
theorem HOk.laid(x:HOk P w H h)(k:∀b u,h.get? b=some u→h'.get? b=some u)(hp:h.objs.size≤a)(new:Zap P w (upd H a o) h' a o):HOk P w (upd H a o) h':=fun b u e=>by
 have hn:=x.fresh hp
 by_cases hb:b=a
 ·subst hb;rw[Zb]at e;cases e;exact new
 ·rw[Ze hb]at e
  exact(x b u e).stay (fun c v _ q=>k c v q) (fun c q=>by rw[Ze (Zd q hn)];exact q) fun c xs q=>by rw[Ze (Zd q hn)];exact q
end
noncomputable def Rd(H:Hp)(a:Addr)(u:HO):Prop:=H a=some u∨∃o,H a=some (.frz o u)
theorem Rd.ok{P:Program}{w:World}{H:Hp}{h:Heap}{a:Addr}{u:HO}(r:Rd H a u)(x:HOk P w H h):Zap P w H h a u:=by
 rcases r with r|⟨o,r⟩
 ·exact x a u r
 ·obtain⟨_,q⟩:=x a _ r
  exact q
noncomputable def Mut:Option HO→Prop
 | some (.lst _)=>True
 | some (.dK _)=>True
 | some (.dT _)=>True
 | some (.set _ _)=>True
 | some (.ins _ _ _)=>True
 | some (.ext _)=>True
 | _=>False
section
variable {P:Program} {w:World} {H:Hp} {h h':Heap} {x e:Addr} {o':HO}
theorem HOk.write(ok:HOk P w H h)(mu:Mut (H x))(he:e=x∨H e=some (.own x))(k:∀b u,b≠e→h.get? b=some u→h'.get? b=some u)(heo:∃u,h'.get? e=some u)
  (new:Zap P w (upd H x o') h' x o'):HOk P w (upd H x o') h':=fun b u q=>by
 have nown:∀c y,H c=some (.own y)→c≠x:=fun c y r z=>by subst z;rw[r]at mu;exact mu
 have ntup:∀c xs,H c=some (.tup xs)→c≠x:=fun c xs r z=>by subst z;rw[r]at mu;exact mu
 by_cases hb:b=x
 ·subst hb;rw[Zb]at q;cases q;exact new
 ·rw[Ze hb]at q
  by_cases hbe:b=e
  ·have q':H b=some (.own x):=by
    rcases he with z|z
    ·exact absurd (hbe.trans z) hb
    ·rw[hbe];exact z
   rw[q]at q';cases q'
   obtain⟨v,hv⟩:=heo
   exact⟨v,by rw[hbe];exact hv⟩
  ·refine(ok b u q).stay (fun c v hc r=>k c v ?_ r) (fun c r=>by rw[Ze (nown c b r)];exact r) fun c xs r=>by rw[Ze (ntup c xs r)];exact r
   rcases hc with rfl|hc
   ·exact hbe
   ·rintro rfl
    rcases he with z|z
    ·exact nown c b hc z
    ·rw[hc]at z;cases z;exact hb rfl
end
structure Un (fs ex:List Addr) (H H':Hp) (h h':Heap):Prop where
 keep:∀b o,h.get? b=some o→H b=none→b ∉ fs→b ∉ ex→h'.get? b=some o
 slot:∀b o,h.get? b=some o→H b=none→b∈fs→b ∉ ex→∃sl,h'.get? b=some { o with slots:=sl }
 free:∀b o,h.get? b=some o→H b=none→b ∉ ex→H' b=none
 there:∀b o,h.get? b=some o→b ∉ ex→∃o',h'.get? b=some o'
 tups:∀b xs,H b=some (.tup xs)→H' b=some (.tup xs)
 frzs:∀b o u,H b=some (.frz o u)→H' b=some (.frz o u)
 tbls:∀b ps,H b=some (.tbl ps)→∃more,H' b=some (.tbl (ps++more))
section
variable {fs fs' ex ex':List Addr} {H H1 H2:Hp} {h h1 h2 h':Heap} {a x e:Addr} {o:HO}
theorem Un.any(u:Un fs ex H H1 h h1){b:Addr}{ob:Obj}(q:h.get? b=some ob)(n:H b=none)(hx:b ∉ ex):∃sl,h1.get? b=some { ob with slots:=sl }:=by
 by_cases hb:b∈fs
 ·exact u.slot b ob q n hb hx
 ·exact⟨ob.slots,u.keep b ob q n hb hx⟩
theorem Un.kept(k:∀b u,h.get? b=some u→h'.get? b=some u):Un fs ex H H h h' :=
 ⟨fun b ob q _ _ _=>k b ob q,fun b ob q _ _ _=>⟨ob.slots,k b ob q⟩,fun _ _ _ n _=>n,fun b ob q _=>⟨ob,k b ob q⟩,fun _ _ q=>q,fun _ _ _ q=>q,fun _ ps q=>⟨#[],by rw[q];simp⟩⟩
theorem Un.refl:Un fs ex H H h h:=Un.kept fun _ _ q=>q
theorem Un.laid(k:∀b u,h.get? b=some u→h'.get? b=some u)(hp:h.objs.size≤a)(hn:H a=none):Un fs ex H (upd H a o) h h' where
 keep:=fun b u q _ _ _=>k b u q
 slot:=fun b u q _ _ _=>⟨u.slots,k b u q⟩
 free:=fun b u q n _=>by rw[Ze (QV (QF (Qz q) hp))];exact n
 there:=fun b u q _=>⟨u,k b u q⟩
 tups:=fun b xs q=>by rw[Ze (Zd q hn)];exact q
 frzs:=fun b u xs q=>by rw[Ze (Zd q hn)];exact q
 tbls:=fun b ps q=>⟨#[],by rw[Ze (Zd q hn),q];simp⟩
theorem Un.write(mu:Mut (H x))(he:e=x∨H e=some (.own x))(k:∀b u,b≠e→h.get? b=some u→h'.get? b=some u)(heo:∃u,h'.get? e=some u):Un fs ex H (upd H x o) h h':=by
 have hx:∀b,H b=none→b≠x:=fun b n z=>by subst z;rw[n]at mu;exact mu
 have hb:∀b,H b=none→b≠e:=fun b n z=>by
  subst z
  rcases he with r|r
  ·exact hx b n r
  ·rw[n]at r;cases r
 have hm:∀b u,H b=some u→¬ Mut (some u)→b≠x:=fun b u q nm z=>by subst z;rw[q]at mu;exact nm mu
 refine⟨fun b u q n _ _=>k b u (hb b n) q,fun b u q n _ _=>⟨u.slots,k b u (hb b n) q⟩,fun b u q n _=>by rw[Ze (hx b n)];exact n,fun b u q _=>?_,
  fun b xs q=>by rw[Ze (hm b _ q fun z=>z)];exact q,fun b u xs q=>by rw[Ze (hm b _ q fun z=>z)];exact q,fun b ps q=>⟨#[],by rw[Ze (hm b _ q fun z=>z),q];simp⟩⟩
 by_cases hbe:b=e
 ·subst hbe;exact heo
 ·exact⟨u,k b u hbe q⟩
end
noncomputable def trk(h:Heap)(H:Hp):List Addr:=(List.range h.objs.size).filter fun a=>(H a).isSome
noncomputable def Ziv(h:Heap)(H:Hp):Heap:=PySem.W.hideAll h (trk h H)
theorem Zlx(h:Heap)(H:Hp):(Ziv h H).objs.size=h.objs.size:=PySem.W.hideAll_size _ _
theorem ZnW{h:Heap}{H:Hp}{b:Addr}{o:Obj}(e:h.get? b=some o)(n:H b=none):(Ziv h H).get? b=some o :=
 PySem.W.hideAll_get _ e fun hm=>by
  have q:(H b).isSome=true:=(List.mem_filter.mp hm).2
  rw[n]at q;simp at q
theorem ZpB{h:Heap}{H:Hp}{b:Addr}{o:Obj}(e:(Ziv h H).get? b=some o):h.get? b=some o∧H b=none:=by
 have e':h.get? b=some o:=PySem.W.of_hideAll (trk h H) e
 refine⟨e',?_⟩
 cases q:H b with
 | none=>rfl
 | some x =>
  have hm:b∈trk h H:=List.mem_filter.mpr ⟨QU.mpr (Qz e'),by simp[q]⟩
  have z:(Ziv h H).get? b=none:=PySem.W.hideAll_none (trk h H) hm
  rw[z]at e;cases e
noncomputable def ZpC(g h:Heap)(L:Addr):List (Addr×Obj):=(List.range h.objs.size).filterMap fun a=>if a=L∨(g.get? a).isSome=true then none else (h.get? a).map fun o=>(a,o)
noncomputable def rest(g h:Heap)(L d:Addr):List (Addr×Obj):=(ZpC g h L).filter fun p=>decide (p.1≠d)
structure Mod (K:PySem.W.Frag) (mg:Str→Option Value) (base:Heap):Prop where
 kin:K.In base
 glob:base.Ns mainGlobals mg
 blt:∃mb,base.Ns builtinsNs mb∧∀x:Str,x ≠ "__name__"→mb x=bootBuiltins x
 nolimit:base.NoLimit
structure Cx where
 prog:Program
 w:World
 K:PySem.W.Frag
 mg:Str→Option Value
 base:Heap
 A:Around
 N:List Str
 s₀:Shared
 H₀:Hp
 env:Env
 outer:List Env
 stack:List Env
 ex:List Addr
 fn:Str→Bool
 calm:Bool
 pn:List (Addr×Obj)
 xe:Value→Shared→Prop
noncomputable def frs(l:List Env):List Addr:=l.filterMap (·.frame)
noncomputable abbrev Cx.fs(X:Cx):List Addr:=frs X.outer
noncomputable def Vis(sc:Scope)(x:Str):Prop:=sc.names.lookup x=some .local∨sc.names.lookup x=some .cell∨sc.names.lookup x=some .free
noncomputable def Loc(sc:Scope)(x:Str):Prop:=sc.names.lookup x=some .local∨sc.names.lookup x=some .cell
noncomputable def Ztj(env:Env)(h:Heap)(m:Str→Option Value)(x:Str)(u:Value):Prop :=
 (env.kindOf x=some .local∧m x=some u)∨((env.kindOf x=some .cell∨env.kindOf x=some .free)∧∃c,env.cells.lookup x=some c∧h.IsCell c (some u))
structure Cx.Ok (X:Cx):Prop where
 mod:Mod X.K X.mg X.base
 kind:X.env.scope.kind=.function
 glob:X.env.globals=mainGlobals
 blt:X.env.builtins=builtinsNs
 above:X.s₀.heap.objs.size≤X.env.locals
 inj:∀x y c,X.env.cells.lookup x=some c→X.env.cells.lookup y=some c→x=y
 has:∀x,(X.env.kindOf x=some .cell∨X.env.kindOf x=some .free)→∃c,X.env.cells.lookup x=some c
 cab:∀x c,X.fn x=true→X.env.cells.lookup x=some c→X.s₀.heap.objs.size≤c
 hd:X.calm=true→X.A.handled=none
 frames:X.A.frames=some X.stack
 stk:X.stack=X.outer∨(X.stack=X.env::X.outer∧X.env.frame=some X.env.locals)
 exf:∀b∈X.ex,b≠X.env.locals∧∀x c,X.env.cells.lookup x=some c→c≠b
 bs:∀b o,X.base.get? b=some o→X.s₀.heap.get? b=some o∧X.H₀ b=none
 bsz:X.base.objs.size≤X.s₀.heap.objs.size
 noex:∀b o,X.base.get? b=some o→b ∉ X.ex
 exfs:∀b∈X.ex,b ∉ X.fs
 funs:X.s₀.heap.FunFrames X.base X.outer
 frf:∀b∈X.fs,X.H₀ b=none
structure Inv (X:Cx) (pins:List (Addr×Obj)) (σ:List (Option V)) (H:Hp) (s:Shared):Prop where
 ok:X.Ok
 os:s.os=X.s₀.os
 bare:AllBare s.gens
 base:Un X.fs X.ex X.H₀ H X.s₀.heap s.heap
 loc:∃m,s.heap.Ns X.env.locals m∧∀ (i:Nat) (x:Str) (v:V),X.N[i]? = some x→σ[i]? = some (some v)→Vis X.env.scope x→∃u,ZG v u∧Ztj X.env s.heap m x u
 cell:∀x c,X.env.cells.lookup x=some c→∃v,s.heap.IsCell c v
 free:H X.env.locals=none
 freeC:∀x c,X.env.cells.lookup x=some c→H c=none
 pin:∀p∈X.pn++pins,s.heap.get? p.1=some p.2∧H p.1=none∧p.1≠X.env.locals∧p.1 ∉ X.fs∧∀v,p.2.data≠.cell v
 hok:HOk X.prog X.w H s.heap
 len:σ.length=X.N.length
section
variable {X:Cx} {pins:List (Addr×Obj)} {σ:List (Option V)} {H H':Hp} {s:Shared} {h':Heap}
theorem Cx.Ok.nofr(ok:X.Ok){b:Addr}{o:Obj}(e:X.base.get? b=some o):b ∉ X.fs:=fun hb=>by
 have:=(ok.funs.mem hb).1
 rw[e]at this;cases this
theorem Inv.bs(I:Inv X pins σ H s):∀b o,X.base.get? b=some o→s.heap.get? b=some o∧H b=none:=fun b o e =>
 ⟨I.base.keep b o (I.ok.bs b o e).1 (I.ok.bs b o e).2 (I.ok.nofr e) (I.ok.noex b o e),I.base.free b o (I.ok.bs b o e).1 (I.ok.bs b o e).2 (I.ok.noex b o e)⟩
theorem Inv.bk(I:Inv X pins σ H s):∀b o,X.base.get? b=some o→s.heap.get? b=some o:=fun b o e=>(I.bs b o e).1
theorem Inv.mod(I:Inv X pins σ H s):Mod X.K X.mg X.base:=I.ok.mod
theorem Inv.kIn(I:Inv X pins σ H s):X.K.In s.heap:=I.ok.mod.kin.keeps I.bk
theorem Inv.lt(I:Inv X pins σ H s):X.env.locals<s.heap.objs.size:=let ⟨_,hn,_⟩:=I.loc;hn.lt
theorem Inv.sz(I:Inv X pins σ H s):X.s₀.heap.objs.size≤s.heap.objs.size:=QJ I.ok.above (Qav I.lt)
theorem Inv.nofs(I:Inv X pins σ H s){a:Addr}(h:s.heap.objs.size≤a):a ∉ X.fs:=fun hb=>by
 obtain⟨_,o,ho,_⟩:=I.ok.funs.mem hb
 exact absurd (QF (Qz ho) (QJ I.sz h)) (Qas _)
theorem Inv.cne(I:Inv X pins σ H s):∀x c,X.env.cells.lookup x=some c→c≠X.env.locals:=fun x c e z=>by
 obtain⟨v,o,ho,hd⟩:=I.cell x c e
 obtain⟨m,⟨o',es,ep,ho',hd',_⟩,_⟩:=I.loc
 rw[z,ho']at ho;cases ho;rw[hd']at hd;cases hd
theorem Inv.funs(I:Inv X pins σ H s):s.heap.FunFrames X.base X.outer:=by
 have all:∀ (l:List Env),(∀b∈frs l,b∈X.fs)→X.s₀.heap.FunFrames X.base l→s.heap.FunFrames X.base l:=by
  intro l
  induction l with
  | nil=>intro _ _;trivial
  | cons env r ih =>
   intro hs hl
   obtain⟨hk,⟨L,o,hf,hn,ho,hd⟩,hr⟩:=hl
   have hL:L∈X.fs:=hs L (by unfold frs;rw[Qaa,hf];exact Q1)
   obtain⟨sl,e⟩:=I.base.slot L o ho (I.ok.frf L hL) hL fun z=>I.ok.exfs L z hL
   exact⟨hk,⟨L,_,hf,hn,e,hd⟩,ih (fun b hb=>hs b (by unfold frs;rw[Qaa,hf];exact Qu _ hb)) hr⟩
 exact all X.outer (fun _ hb=>hb) I.ok.funs
theorem Inv.stack(I:Inv X pins σ H s):s.heap.FunFrames X.base X.stack:=by
 rcases I.ok.stk with e|⟨e,hf⟩
 ·rw[e];exact I.funs
 ·rw[e]
  obtain⟨m,hn,_⟩:=I.loc
  refine .cons (by rw[I.ok.kind];decide) hf hn ?_ I.funs
  exact Heap.get?_none_of_le (QJ I.ok.bsz I.ok.above)
theorem Inv.stkSub(I:Inv X pins σ H s):∀b∈frs X.stack,b∈X.env.locals::X.fs:=fun b hb=>by
 rcases I.ok.stk with e|⟨e,hf⟩
 ·rw[e]at hb;exact Qu _ hb
 ·rw[e]at hb
  unfold frs at hb
  rw[Qaa,hf]at hb
  exact hb
theorem Inv.stkFree(I:Inv X pins σ H s):∀b∈frs X.stack,H b=none:=fun b hb=>by
 rcases QK.mp (I.stkSub b hb) with e|hb
 ·rw[e];exact I.free
 ·obtain⟨_,o,ho,_⟩:=I.ok.funs.mem hb
  exact I.base.free b o ho (I.ok.frf b hb) fun z=>I.ok.exfs b z hb
theorem Inv.step{g':Array GenState}{t':Nat}{d':Drawn}{ch:List Addr}(I:Inv X pins σ H s)
  (hch:∀b∈ch,(b∈X.ex∨X.s₀.heap.objs.size≤b)∧b≠X.env.locals∧(∀x c,X.env.cells.lookup x=some c→c≠b)∧∀p∈X.pn++pins,p.1≠b)
  (keep:∀b o,b≠X.env.locals→b ∉ X.fs→b ∉ ch→s.heap.get? b=some o→H b=none→h'.get? b=some o)
  (slot:∀b o,b≠X.env.locals→b∈X.fs→b ∉ ch→s.heap.get? b=some o→H b=none→∃sl,h'.get? b=some { o with slots:=sl }) (free:∀b o,b ∉ ch→s.heap.get? b=some o→H b=none→H' b=none)
  (there:∀b o,b ∉ ch→s.heap.get? b=some o→∃o',h'.get? b=some o')
  (tups:∀b xs,H b=some (.tup xs)→H' b=some (.tup xs)) (frzs:∀b o u,H b=some (.frz o u)→H' b=some (.frz o u)) (tbls:∀b ps,H b=some (.tbl ps)→∃more,H' b=some (.tbl (ps++more)))
  (ns:∀m,s.heap.Ns X.env.locals m→h'.Ns X.env.locals m) (hok:HOk X.prog X.w H' h') (hg:AllBare g') :
  Inv X pins σ H' { s with heap:=h',gens:=g',drawn:=d',toks:=t' }:=by
 have neL:∀b o,X.s₀.heap.get? b=some o→b≠X.env.locals:=fun b o e=>QV (QF (Qz e) I.ok.above)
 have neC:∀b o,X.s₀.heap.get? b=some o→b ∉ X.ex→b ∉ ch:=fun b o e hx hb=>by
  rcases(hch b hb).1 with z|z
  ·exact hx z
  ·exact absurd (QF (Qz e) z) (Qas _)
 have cellK:∀x c,X.env.cells.lookup x=some c→∀v,s.heap.IsCell c v→h'.IsCell c v:=fun x c e v ⟨o,ho,hd⟩=>by
  have nch:c ∉ ch:=fun z=>(hch c z).2.2.1 x c e rfl
  by_cases hc:c∈X.fs
  ·obtain⟨sl,q⟩:=slot c o (I.cne x c e) hc nch ho (I.freeC x c e)
   exact⟨_,q,hd⟩
  ·exact⟨o,keep c o (I.cne x c e) hc nch ho (I.freeC x c e),hd⟩
 refine⟨I.ok,I.os,hg,⟨fun b o e n hb hx=>?_,fun b o e n hb hx=>?_,fun b o e n hx=>?_,fun b o e hx=>?_,fun b xs e=>tups b xs (I.base.tups b xs e),fun b o xs e=>frzs b o xs (I.base.frzs b o xs e),fun b ps e=>?_⟩,?_,fun x c e=>?_,?_,fun x c e=>?_,fun p hp=>?_,hok,I.len⟩
 ·exact keep b o (neL b o e) hb (neC b o e hx) (I.base.keep b o e n hb hx) (I.base.free b o e n hx)
 ·obtain⟨sl,e1⟩:=I.base.slot b o e n hb hx
  obtain⟨sl',e2⟩:=slot b _ (neL b o e) hb (neC b o e hx) e1 (I.base.free b o e n hx)
  exact⟨sl',e2⟩
 ·obtain⟨o',e1⟩:=I.base.there b o e hx
  exact free b o' (neC b o e hx) e1 (I.base.free b o e n hx)
 ·obtain⟨o',e1⟩:=I.base.there b o e hx
  exact there b o' (neC b o e hx) e1
 ·obtain⟨m1,e1⟩:=I.base.tbls b ps e
  obtain⟨m2,e2⟩:=tbls b _ e1
  exact⟨m1++m2,by rw[e2,Array.append_assoc]⟩
 ·obtain⟨m,hn,hl⟩:=I.loc
  refine⟨m,ns m hn,fun i x v e1 e2 e3=>?_⟩
  obtain⟨u,r,l⟩:=hl i x v e1 e2 e3
  refine⟨u,r,?_⟩
  rcases l with l|⟨k,c,e,z⟩
  ·exact .inl l
  ·exact .inr ⟨k,c,e,cellK x c e _ z⟩
 ·obtain⟨v,z⟩:=I.cell x c e
  exact⟨v,cellK x c e v z⟩
 ·obtain⟨m,⟨o,_,_,ho,_⟩,_⟩:=I.loc
  exact free _ o (fun z=>(hch _ z).2.1 rfl) ho I.free
 ·obtain⟨v,o,ho,hd⟩:=I.cell x c e
  exact free c o (fun z=>(hch c z).2.2.1 x c e rfl) ho (I.freeC x c e)
 ·obtain⟨e,n,ne,nf,d⟩:=I.pin p hp
  have nch:p.1 ∉ ch:=fun z=>(hch p.1 z).2.2.2 p hp rfl
  exact⟨keep p.1 p.2 ne nf nch e n,free p.1 p.2 nch e n,ne,nf,d⟩
theorem Inv.un{t':Nat}(I:Inv X pins σ H s)(u:Un X.fs [] H H' s.heap h')(hok:HOk X.prog X.w H' h'):Inv X pins σ H' { s with heap:=h',toks:=t' }:=by
 obtain⟨m,⟨o,es,ep,ho,r⟩,_⟩:=id I.loc
 obtain⟨sl,hL⟩:=u.any ho I.free (by simp)
 exact I.step (g':=s.gens) (d':=s.drawn) (ch:=[]) (fun _ z=>nomatch z) (fun b o _ hb _ e n=>u.keep b o e n hb (by simp)) (fun b o _ hb _ e n=>u.slot b o e n hb (by simp)) (fun b o _ e n=>u.free b o e n (by simp)) (fun b o _ e=>u.there b o e (by simp)) u.tups u.frzs u.tbls (fun m' hm=>by
  obtain⟨o',es',ep',ho',r'⟩:=hm
  rw[ho]at ho';cases ho'
  exact⟨_,es',ep',hL,r'⟩) hok I.bare
theorem Inv.call{g':Array GenState}{t':Nat}{d':Drawn}{ch:List Addr}(I:Inv X pins σ H s)(u:Un (frs X.stack) ch H H' s.heap h')(hok:HOk X.prog X.w H' h')(hg:AllBare g')
  (hch:∀b∈ch,(b∈X.ex∨X.s₀.heap.objs.size≤b)∧b≠X.env.locals∧(∀x c,X.env.cells.lookup x=some c→c≠b)∧∀p∈X.pn++pins,p.1≠b) :
  Inv X pins σ H' { s with heap:=h',gens:=g',drawn:=d',toks:=t' }:=by
 obtain⟨m,⟨o,es,ep,ho,r⟩,_⟩:=id I.loc
 obtain⟨sl,hL⟩:=u.any ho I.free fun z=>(hch _ z).2.1 rfl
 exact I.step (ch:=ch) hch (fun b o hL hb hc e n=>u.keep b o e n (fun z=>(QK.mp (I.stkSub b z)).elim hL hb) hc) (fun b o _ _ hc e n=>u.any e n hc) (fun b o hc e n=>u.free b o e n hc) (fun b o hc e=>u.there b o e hc) u.tups u.frzs u.tbls (fun m' hm=>by
  obtain⟨o',es',ep',ho',r'⟩:=hm
  rw[ho]at ho';cases ho'
  exact⟨_,es',ep',hL,r'⟩) hok hg
theorem Inv.turned{t':Nat}{it:Addr}(I:Inv X pins σ H s)(k:∀b o,b≠it→s.heap.get? b=some o→h'.get? b=some o)(hn:H it=none)(hL:it≠X.env.locals)
  (h1:it∈X.ex∨X.s₀.heap.objs.size≤it) (h2:∀x c,X.env.cells.lookup x=some c→c≠it) (h3:∀p∈X.pn++pins,p.1≠it):Inv X pins σ H { s with heap:=h',toks:=t' }:=by
 have nit:∀b u,H b=some u→b≠it:=fun b u e z=>by rw[z,hn]at e;cases e
 refine I.step (g':=s.gens) (d':=s.drawn) (ch:=[it]) (fun b hb=>?_) (fun b o _ _ hc e _=>k b o (fun z=>hc (by simp[z])) e) (fun b o _ _ hc e _=>⟨o.slots,k b o (fun z=>hc (by simp[z])) e⟩) (fun _ _ _ _ n=>n)
  (fun b o hc e=>⟨o,k b o (fun z=>hc (by simp[z])) e⟩) (fun _ _ e=>e) (fun _ _ _ e=>e) (fun b ps e=>⟨#[],by rw[e];simp⟩) (fun m hm=>?_) (fun b u e=>?_) I.bare
 ·have e:b=it:=by simpa using hb
  subst e
  exact⟨h1,hL,h2,h3⟩
 ·obtain⟨o,es,ep,ho,r⟩:=hm
  exact⟨o,es,ep,k _ o (Ne.symm hL) ho,r⟩
 ·refine(I.hok b u e).stay (fun c v hc q=>k c v ?_ q) (fun _ q=>q) fun _ _ q=>q
  rcases hc with z|z
  ·rw[z];exact nit b u e
  ·exact nit c _ z
theorem Inv.tok(I:Inv X pins σ H s)(t:Nat):Inv X pins σ H { s with toks:=t }:=I.un (h':=s.heap) (t':=t) Un.refl I.hok
theorem Inv.kept{t':Nat}(I:Inv X pins σ H s)(k:∀b u,s.heap.get? b=some u→h'.get? b=some u):Inv X pins σ H { s with heap:=h',toks:=t' }:=I.un (Un.kept k) (I.hok.kept k)
theorem Inv.laid{a:Addr}{o:HO}{t':Nat}(I:Inv X pins σ H s)(k:∀b u,s.heap.get? b=some u→h'.get? b=some u)(hp:s.heap.objs.size≤a)(new:Zap X.prog X.w (upd H a o) h' a o) :
  Inv X pins σ (upd H a o) { s with heap:=h',toks:=t' }:=I.un (Un.laid k hp (I.hok.fresh hp)) (I.hok.laid k hp new)
theorem Inv.write{x e:Addr}{o:HO}{t':Nat}(I:Inv X pins σ H s)(mu:Mut (H x))(he:e=x∨H e=some (.own x))(k:∀b u,b≠e→s.heap.get? b=some u→h'.get? b=some u)(heo:∃u,h'.get? e=some u)
  (new:Zap X.prog X.w (upd H x o) h' x o):Inv X pins σ (upd H x o) { s with heap:=h',toks:=t' }:=I.un (Un.write mu he k heo) (I.hok.write mu he k heo new)
theorem Inv.pins_of{pins':List (Addr×Obj)}(I:Inv X pins σ H s)(h:∀p∈pins',s.heap.get? p.1=some p.2∧H p.1=none∧p.1≠X.env.locals∧p.1 ∉ X.fs∧∀v,p.2.data≠.cell v):Inv X pins' σ H s :=
 ⟨I.ok,I.os,I.bare,I.base,I.loc,I.cell,I.free,I.freeC,fun p hp=>(Qh.mp hp).elim (fun z=>I.pin p (Qs _ z)) (h p),I.hok,I.len⟩
theorem ZiR{N:List Str}(hN:N.Nodup){i j:Nat}{x:Str}(a:N[i]? = some x)(b:N[j]? = some x):i=j:=by
 obtain⟨h1,e1⟩:=Qc.mp a
 obtain⟨h2,e2⟩:=Qc.mp b
 exact(List.getElem_inj hN).mp (e1.trans e2.symm)
theorem ZhV{M:Model}{A:Around}{E:Value→Shared→Prop}{i:Nat}{x:Str}{v:V}{u:Value}{Q:Unit→Shared→Prop}(I:Inv X pins σ H s)(hN:X.N.Nodup)(hi:X.N[i]? = some x)(hx:Loc X.env.scope x)(r:ZG v u)
  (h:∀s',Inv X pins (σ.set i (some v)) H s'→(∃a,Heap.SameBut a s.heap s'.heap∧(a=X.env.locals∨X.env.cells.lookup x=some a))→Q () s') (hf:X.fn x=true∨X.env.scope.names.lookup x=some .local:=by first|exact .inl rfl|exact .inr rfl|assumption):wpAny M A (storeName X.env x u) Q E s:=by
 obtain⟨m,hn,hl⟩:=id I.loc
 have hcls:(X.env.scope.kind == .class||(X.env.scope.kind == .module&&X.env.locals != X.env.globals))=false:=by rw[I.ok.kind];rfl
 have hiσ:i<σ.length:=by rw[I.len];exact(Qc.mp hi).1
 have cne:=I.cne
 have tracked:∀ {a:Addr} {h':Heap},(∃o,s.heap.get? a=some o∧H a=none)→Heap.SameBut a s.heap h'→HOk X.prog X.w H h':=fun {a h'} ha hs b ob e=>by
  obtain⟨_,_,hfree⟩:=ha
  refine(I.hok b ob e).stay (fun c w' hc q=>(hs.2 c ?_).trans q) (fun _ q=>q) fun _ _ q=>q
  rintro rfl
  rcases hc with rfl|hc
  ·rw[hfree]at e;cases e
  ·rw[hfree]at hc;cases hc
 rcases hx with hk|hk
 ·refine wpAny_storeName_local hk hn (fun h' hn' hs=>?_) hcls
  obtain⟨oL,_,_,hoL,_⟩:=id hn
  refine h _ ⟨I.ok,I.os,I.bare,⟨fun b o e n hb hx=>?_,fun b o e n hb hx=>?_,I.base.free,fun b o e hx=>?_,I.base.tups,I.base.frzs,I.base.tbls⟩,⟨_,hn',fun j y v' e1 e2 e3=>?_⟩,fun y c e=>?_,I.free,I.freeC,fun p hp=>?_,tracked ⟨oL,hoL,I.free⟩ hs,by simpa using I.len⟩ ⟨_,hs,.inl rfl⟩
  ·exact(hs.2 b (QV (QF (Qz e) I.ok.above))).trans (I.base.keep b o e n hb hx)
  ·obtain⟨sl,e1⟩:=I.base.slot b o e n hb hx
   exact⟨sl,(hs.2 b (QV (QF (Qz e) I.ok.above))).trans e1⟩
  ·obtain⟨o',e1⟩:=I.base.there b o e hx
   exact⟨o',(hs.2 b (QV (QF (Qz e) I.ok.above))).trans e1⟩
  ·by_cases hj:j=i
   ·subst hj
    rw[hi]at e1;cases e1
    rw[List.getElem?_set_self hiσ]at e2
    cases e2
    exact⟨u,r,.inl ⟨hk,by simp⟩⟩
   ·rw[List.getElem?_set_ne (Ne.symm hj)]at e2
    obtain⟨u',r',q⟩:=hl j y v' e1 e2 e3
    refine⟨u',r',?_⟩
    rcases q with⟨k,e⟩|⟨k,c,e,z⟩
    ·refine .inl ⟨k,?_⟩
     have:y≠x:=fun e=>hj (ZiR hN e1 (e ▸ hi))
     simp[this,e]
    ·exact .inr ⟨k,c,e,z.sameBut hs (cne y c e)⟩
  ·obtain⟨w',z⟩:=I.cell y c e
   exact⟨w',z.sameBut hs (cne y c e)⟩
  ·obtain⟨e,n,ne,nf,d⟩:=I.pin p hp
   exact⟨(hs.2 p.1 ne).trans e,n,ne,nf,d⟩
 ·have hfn:X.fn x=true:=by
   rcases hf with z|z
   ·exact z
   ·rw[z]at hk;cases hk
  obtain⟨c,hc⟩:=I.ok.has x (.inl hk)
  obtain⟨w',z⟩:=I.cell x c hc
  refine wpAny_storeName_cell I.ok.kind hk hc z (fun h' hc' hs=>?_)
  obtain⟨oc,hoc,hocd⟩:=id z
  refine h { s with heap:=h' } ⟨I.ok,I.os,I.bare,⟨fun b o e n hb hx=>?_,fun b o e n hb hx=>?_,I.base.free,fun b o e hx=>?_,I.base.tups,I.base.frzs,I.base.tbls⟩,⟨m,hn.sameBut hs (Ne.symm (cne x c hc)),fun j y v' e1 e2 e3=>?_⟩,fun y c' e=>?_,I.free,I.freeC,fun p hp=>?_,tracked ⟨oc,hoc,I.freeC x c hc⟩ hs,by simpa using I.len⟩ ⟨c,hs,.inr hc⟩
  ·exact(hs.2 b (QV (QF (Qz e) (I.ok.cab x c hfn hc)))).trans (I.base.keep b o e n hb hx)
  ·obtain⟨sl,e1⟩:=I.base.slot b o e n hb hx
   exact⟨sl,(hs.2 b (QV (QF (Qz e) (I.ok.cab x c hfn hc)))).trans e1⟩
  ·obtain⟨o',e1⟩:=I.base.there b o e hx
   exact⟨o',(hs.2 b (QV (QF (Qz e) (I.ok.cab x c hfn hc)))).trans e1⟩
  ·by_cases hj:j=i
   ·subst hj
    rw[hi]at e1;cases e1
    rw[List.getElem?_set_self hiσ]at e2
    cases e2
    exact⟨u,r,.inr ⟨.inl hk,c,hc,hc'⟩⟩
   ·rw[List.getElem?_set_ne (Ne.symm hj)]at e2
    obtain⟨u',r',q⟩:=hl j y v' e1 e2 e3
    refine⟨u',r',?_⟩
    rcases q with q|⟨k,c',e,z'⟩
    ·exact .inl q
    ·refine .inr ⟨k,c',e,z'.sameBut hs ?_⟩
     rintro rfl
     exact hj (ZiR hN e1 (I.ok.inj _ _ _ e hc ▸ hi))
  ·by_cases hcc:c'=c
   ·subst hcc;exact⟨_,hc'⟩
   ·obtain⟨w2,z2⟩:=I.cell y c' e
    exact⟨w2,z2.sameBut hs hcc⟩
  ·obtain⟨e,n,ne,nf,d⟩:=I.pin p hp
   refine⟨(hs.2 p.1 ?_).trans e,n,ne,nf,d⟩
   intro q
   rw[q,hoc]at e
   have q':oc=p.2:=Qr e
   exact d w' (by rw[← q'];exact hocd)
theorem Zgq{M:Model}{A:Around}{E:Value→Shared→Prop}{i:Nat}{x:Str}{v:V}{u:Value}{Q:Unit→Shared→Prop}(I:Inv X pins σ H s)(hN:X.N.Nodup)(hi:X.N[i]? = some x)(hx:Loc X.env.scope x)(r:ZG v u)
  (h:∀s',Inv X pins (σ.set i (some v)) H s'→Q () s') (hf:X.fn x=true∨X.env.scope.names.lookup x=some .local:=by first|exact .inl rfl|exact .inr rfl|assumption):wpAny M A (storeName X.env x u) Q E s :=
 ZhV I hN hi hx r (fun s' I' _=>h s' I') hf
theorem Inv.call'{s':Shared}{ch:List Addr}(I:Inv X pins σ H s)(ho:s'.os=s.os)(u:Un (frs X.stack) ch H H' s.heap s'.heap)(hok:HOk X.prog X.w H' s'.heap)(hg:AllBare s'.gens)
  (hch:∀b∈ch,(b∈X.ex∨X.s₀.heap.objs.size≤b)∧b≠X.env.locals∧(∀x c,X.env.cells.lookup x=some c→c≠b)∧∀p∈X.pn++pins,p.1≠b):Inv X pins σ H' s':=by
 obtain⟨h',g',d',t',o'⟩:=s'
 have e:o'=s.os:=ho
 subst e
 exact I.call (g':=g') (t':=t') (d':=d') u hok hg hch
end
noncomputable abbrev XK:=Value→Option Addr→Hp→Prop
noncomputable abbrev St:=List (Option V)
noncomputable abbrev VK:=V→Hp→Prop
noncomputable abbrev TE:=St→Hp→VK→Prop
noncomputable abbrev TT:=St→Hp→(Bool→Hp→Prop)→Prop
noncomputable abbrev TA:=St→Hp→(List V→Hp→Prop)→Prop
structure Zfh where
 nx:St→Hp→Prop
 rt:VK
 bk:St→Hp→Prop:=fun _ _=>False
 ct:St→Hp→Prop:=fun _ _=>False
noncomputable abbrev TS:=Zfh→St→Hp→Prop
noncomputable def EP(X:Cx)(pins:List (Addr×Obj))(σ:St)(Q:VK)(u:Value)(s':Shared):Prop:=∃v H',Inv X pins σ H' s'∧ZG v u∧Q v H'
noncomputable def TP(X:Cx)(pins:List (Addr×Obj))(σ:St)(Q:Bool→Hp→Prop)(b:Bool)(s':Shared):Prop:=∃H',Inv X pins σ H' s'∧Q b H'
noncomputable def AP(X:Cx)(pins:List (Addr×Obj))(σ:St)(Q:List V→Hp→Prop)(us:List Value)(s':Shared):Prop:=∃vs H',Inv X pins σ H' s'∧Zw vs us∧Q vs H'
noncomputable def SP(X:Cx)(pins:List (Addr×Obj))(D:Zfh)(f:Flow)(s':Shared):Prop :=
 match f with
 | .next=>∃σ' H',Inv X pins σ' H' s'∧D.nx σ' H'
 | .brk=>∃σ' H',Inv X pins σ' H' s'∧D.bk σ' H'
 | .cont=>∃σ' H',Inv X pins σ' H' s'∧D.ct σ' H'
 | .ret u=>∃v σ' H',Inv X pins σ' H' s'∧ZG v u∧D.rt v H'
noncomputable def PE(X:Cx)(e:Expr)(t:TE):Prop :=
 ∀ (pins:List (Addr×Obj)) (s:Shared) (σ:St) (H:Hp) (Q:VK),Inv X pins σ H s→t σ H Q→wpAny (model X.prog X.w) X.A (eval e X.env) (EP X pins σ Q) X.xe s
noncomputable def PT(X:Cx)(e:Expr)(t:TT):Prop :=
 ∀ (pins:List (Addr×Obj)) (s:Shared) (σ:St) (H:Hp) (Q:Bool→Hp→Prop),Inv X pins σ H s→t σ H Q→wpAny (model X.prog X.w) X.A (isTrue e X.env (eval e X.env)) (TP X pins σ Q) X.xe s
noncomputable def PW(X:Cx)(e:Expr)(t:TT):Prop :=
 ∀ (whole:Sem Value) (pins:List (Addr×Obj)) (s:Shared) (σ:St) (H:Hp) (Q:Bool→Hp→Prop),Inv X pins σ H s→t σ H Q→wpAny (model X.prog X.w) X.A (isTrue e X.env whole) (TP X pins σ Q) X.xe s
theorem PW.pt{X:Cx}{e:Expr}{t:TT}(h:PW X e t):PT X e t:=h _
noncomputable def PA(X:Cx)(es:List Expr)(t:TA):Prop :=
 ∀ (pos:Pos) (pins:List (Addr×Obj)) (s:Shared) (σ:St) (H:Hp) (Q:List V→Hp→Prop),Inv X pins σ H s→t σ H Q→wpAny (model X.prog X.w) X.A (spliced (backTo pos (starEach es X.env))) (AP X pins σ Q) X.xe s
noncomputable def PS(X:Cx)(st:Stmt)(t:TS):Prop :=
 ∀ (pins:List (Addr×Obj)) (s:Shared) (σ:St) (H:Hp) (D:Zfh),Inv X pins σ H s→t D σ H→wpAny (model X.prog X.w) X.A (exec st X.env) (SP X pins D) X.xe s
noncomputable def PSs(X:Cx)(st:List Stmt)(t:TS):Prop :=
 ∀ (pins:List (Addr×Obj)) (s:Shared) (σ:St) (H:Hp) (D:Zfh),Inv X pins σ H s→t D σ H→wpAny (model X.prog X.w) X.A (execs st X.env) (SP X pins D) X.xe s
theorem thn{α:Type}{t:Sem α}{Q Q':α→Shared→Prop}{M:Model}{A:Around}{E:Value→Shared→Prop}{s:Shared}(h:wpAny M A t Q E s)(hQ:∀a s,Q a s→Q' a s):wpAny M A t Q' E s:=wpAny_mono h hQ fun _ _ x=>x
section
variable {X:Cx}
noncomputable def Zn2(i:Nat):TE:=fun σ H Q=>∃v,σ[i]? = some (some v)∧Q v H
noncomputable def tC(v:V):TE:=fun _ H Q=>Q v H
theorem ZiA{i:Nat}{x:Str}{pos:Pos}(hN:X.N[i]? = some x)(hv:Vis X.env.scope x)(hd:(x == ("__debug__" : Str))=false:=by decide)(hcd:(x == ("__classdict__" : Str))=false:=by decide):PE X (.Name x pos) (Zn2 i):=by
 intro pins s σ H Q I h
 obtain⟨v,e,h⟩:=h
 obtain⟨m,hn,hl⟩:=I.loc
 obtain⟨u,r,l⟩:=hl i x v hN e hv
 have fin:EP X pins σ Q u s:=⟨v,H,I,r,h⟩
 rcases l with⟨hk,hm⟩|⟨hk,c,hc,hcell⟩
 ·exact wpAny_Name (wpAny_loadName_local I.ok.kind hk hn hm fin) hd
 ·rcases hk with hk|hk
  ·exact wpAny_Name (wpAny_loadName_cell I.ok.kind hk hc hcell fin) hd
  ·exact wpAny_Name (wpAny_loadName_free I.ok.kind hk hc hcell fin hcd) hd
theorem Zi{i j pos}:PE X (.Constant (.int i) j pos) (tC (.int i)):=fun _ _ _ H _ I h=>wpAny_Constant_int ⟨.int i,H,I.tok _,⟨_,rfl⟩,h⟩
theorem Zdo{b j pos}:PE X (.Constant (.bool b) j pos) (tC (.bl b)):=fun _ _ _ H _ I h=>Constant_bool ⟨.bl b,H,I,rfl,h⟩
theorem ZaQ{j pos}:PE X (.Constant .none j pos) (tC .non):=fun _ _ _ H _ I h=>Constant_none ⟨.non,H,I,rfl,h⟩
theorem ZbA{x j pos}:PE X (.Constant (.str x) j pos) (tC (.str x)):=fun _ _ _ H _ I h=>Calls.Constant_str ⟨.str x,H,I.tok _,⟨_,rfl⟩,h⟩
noncomputable def Gl(X:Cx)(x:Str):Prop:=X.env.kindOf x=some .globalImplicit
theorem ZkK{E:Value→Shared→Prop}{pins:List (Addr×Obj)}{s:Shared}{σ:St}{H:Hp}{x:Str}{u:Value}{pos:Pos}{Q:Value→Shared→Prop}(I:Inv X pins σ H s)(hg:Gl X x)(hm:X.mg x=some u)(h:Q u s)
  (hd:(x == ("__debug__" : Str))=false:=by decide):wpAny (model X.prog X.w) X.A (eval (.Name x pos) X.env) Q E s :=
 Calls.Name_function_global I.ok.kind hg (Calls.loadGlobal_global (by rw[I.ok.glob];exact I.mod.glob.keeps I.bk) hm h) hd
theorem Zfm{E:Value→Shared→Prop}{pins:List (Addr×Obj)}{s:Shared}{σ:St}{H:Hp}{x:Str}{u:Value}{pos:Pos}{Q:Value→Shared→Prop}(I:Inv X pins σ H s)(hg:Gl X x)(hm:X.mg x=none)(hv:bootBuiltins x=some u)(h:Q u s)
  (hn:x ≠ "__name__":=by decide) (hd:(x == ("__debug__" : Str))=false:=by decide):wpAny (model X.prog X.w) X.A (eval (.Name x pos) X.env) Q E s:=by
 obtain⟨mb,h1,h2⟩:=I.mod.blt
 exact Calls.Name_function_global I.ok.kind hg (Calls.loadGlobal_builtin (by rw[I.ok.glob];exact I.mod.glob.keeps I.bk) hm (by rw[I.ok.blt];exact h1.keeps I.bk) ((h2 x hn).trans hv) h) hd
theorem Zp4{x:Str}{v:V}{u:Value}{pos:Pos}(hg:Gl X x)(hm:X.mg x=none)(hv:bootBuiltins x=some u)(r:ZG v u)(hn:x ≠ "__name__":=by decide)(hd:(x == ("__debug__" : Str))=false:=by decide):PE X (.Name x pos) (tC v) :=
 fun _ _ _ H _ I h=>Zfm I hg hm hv ⟨v,H,I,r,h⟩ hn hd
variable {a b:Expr} {ta tb:TE} {pos:Pos}
noncomputable def tB(t:TE):TT:=fun σ H Q=>t σ H fun x H1=>∃c,x=.bl c∧Q c H1
theorem Zet{e:Expr}{t:TE}(h:PE X e t)(he:∀whole,isTrue e X.env whole=(do let v ← whole;standAt e.pos;holding [v] (truthy v)):=by intro _;rfl):PT X e (tB t):=by
 intro pins s σ H Q I hw
 refine isTrue_plain (thn (h pins s σ H _ I hw) ?_) (he _)
 rintro v s1 ⟨x,H1,I1,r1,q1⟩
 obtain⟨d,rfl,q⟩:=q1
 cases r1
 exact wpAny_truthy_bool ⟨H1,I1,q⟩
variable {tA tB':TT} {rest:List Expr}
noncomputable def Zts(t u:TT):TT:=fun σ H Q=>t σ H fun c H1=>if c=true then u σ H1 Q else Q false H1
noncomputable def tOr(t u:TT):TT:=fun σ H Q=>t σ H fun c H1=>if c=true then Q true H1 else u σ H1 Q
noncomputable def Ztg(t:TT):TT:=fun σ H Q=>t σ H fun c H1=>Q (!c) H1
theorem Zeb(ha:PT X a tA):PW X (.BoolOp .And [a] pos) tA:=by
 intro wh pins s σ H Q I h
 refine isTrue_and (thn (ha pins s σ H Q I h) fun c s1 e=>?_)
 cases c with
 | true=>exact isTrue_and_nil e
 | false=>exact e
theorem Zfl(ha:PT X a tA):PW X (.BoolOp .Or [a] pos) tA:=by
 intro wh pins s σ H Q I h
 refine isTrue_or (thn (ha pins s σ H Q I h) fun c s1 e=>?_)
 cases c with
 | false=>exact isTrue_or_nil e
 | true=>exact e
theorem ZeA(ha:PT X a tA)(hb:PW X (.BoolOp .And (b::rest) pos) tB'):PW X (.BoolOp .And (a::b::rest) pos) (Zts tA tB'):=by
 intro wh pins s σ H Q I h
 refine isTrue_and (thn (ha pins s σ H _ I h) ?_)
 rintro c s1 ⟨H1,I1,q1⟩
 cases c with
 | true=>exact hb wh pins s1 σ H1 Q I1 q1
 | false=>exact⟨H1,I1,q1⟩
theorem Zf2(ha:PT X a tA)(hb:PW X (.BoolOp .Or (b::rest) pos) tB'):PW X (.BoolOp .Or (a::b::rest) pos) (tOr tA tB'):=by
 intro wh pins s σ H Q I h
 refine isTrue_or (thn (ha pins s σ H _ I h) ?_)
 rintro c s1 ⟨H1,I1,q1⟩
 cases c with
 | true=>exact⟨H1,I1,q1⟩
 | false=>exact hb wh pins s1 σ H1 Q I1 q1
theorem ZgL(ha:PT X a tA):PT X (.UnaryOp .Not a pos) (Ztg tA):=by
 intro pins s σ H Q I h
 exact isTrue_not (ha pins s σ H (fun c H1=>Q (!c) H1) I h)
noncomputable def Zss(ta tb:TE):TE:=fun σ H Q=>ta σ H fun x H1=>∃c,x=.bl c∧if c=true then tb σ H1 Q else Q (.bl false) H1
noncomputable def Zsx(ta:TE):TE:=fun σ H Q=>ta σ H fun x H1=>∃c,x=.bl c∧Q (.bl (!c)) H1
theorem ZkD{op}{t:TE}(h:PE X a t):PE X (.BoolOp op [a] pos) t:=fun pins s σ H Q I hw=>BoolOp_one (h pins s σ H Q I hw)
theorem Zkq(ha:PE X a ta)(hb:PE X (.BoolOp .And (b::rest) pos) tb):PE X (.BoolOp .And (a::b::rest) pos) (Zss ta tb):=by
 intro pins s σ H Q I h
 refine BoolOp_and (thn (ha pins s σ H _ I h) ?_)
 rintro v s1 ⟨x,H1,I1,r1,q1⟩
 obtain⟨c,rfl,q1⟩:=q1
 cases r1
 refine wpAny_truthy_bool ?_
 cases c with
 | true=>exact hb pins s1 σ H1 Q I1 q1
 | false=>exact⟨.bl false,H1,I1,rfl,q1⟩
theorem ZqE(ha:PE X a ta):PE X (.UnaryOp .Not a pos) (Zsx ta):=by
 intro pins s σ H Q I h
 refine UnaryOp_ (thn (ha pins s σ H _ I h) ?_)
 rintro v s1 ⟨x,H1,I1,r1,q1⟩
 obtain⟨c,rfl,q1⟩:=q1
 cases r1
 exact not_of (wpAny_truthy_bool ⟨.bl (!c),H1,I1,rfl,q1⟩)
noncomputable def tIf(t:TT)(ta tb:TE):TE:=fun σ H Q=>t σ H fun c H1=>if c=true then ta σ H1 Q else tb σ H1 Q
theorem Zbq{c:Expr}(hc:PT X c tA)(ha:PE X a ta)(hb:PE X b tb):PE X (.IfExp c a b pos) (tIf tA ta tb):=by
 intro pins s σ H Q I h
 refine wpAny_IfExp (thn (hc pins s σ H _ I h) ?_)
 rintro d s1 ⟨H1,I1,q1⟩
 cases d with
 | true=>exact ha pins s1 σ H1 Q I1 q1
 | false=>exact hb pins s1 σ H1 Q I1 q1
end
noncomputable def SqL(K:PySem.W.Frag)(H:Hp)(a:Addr)(xs:List V):Prop :=
 Rd H a (.lst xs) ∨
  ∃ (o:Obj) (its:Array Value) (n:Nat),K.lookup a=some o∧o.cls=.type "list"∧o.dict=none∧o.data=.seq its n∧its.size≤sizeLine∧Zw xs its.toList
noncomputable def SqT(K:PySem.W.Frag)(H:Hp)(a:Addr)(xs:List V):Prop :=
 Rd H a (.tup xs) ∨
  ∃ (o:Obj) (its:Array Value) (n:Nat),K.lookup a=some o∧o.cls=.type "tuple"∧o.data=.seq its n∧its.size≤sizeLine∧Zw xs its.toList
noncomputable def Ztu:Value→Option V
 | .none=>some .non
 | .bool b=>some (.bl b)
 | .int i _=>some (.int i)
 | .str x _=>some (.str x)
 | .bytes b _=>some (.byt b)
 | .float b _=>some (.flt b)
 | .ref a=>some (.ref a)
 | .type n=>some (.ty n)
 | _=>none
theorem ZG.abs{x:V}{u:Value}(r:ZG x u):Ztu u=some x:=by
 cases x with
 | non=>cases r;rfl
 | bl _=>cases r;rfl
 | int _=>obtain⟨t,rfl⟩:=r;rfl
 | str _=>obtain⟨t,rfl⟩:=r;rfl
 | byt _=>obtain⟨t,rfl⟩:=r;rfl
 | flt _=>obtain⟨t,rfl⟩:=r;rfl
 | ref _=>cases r;rfl
 | ty _=>cases r;rfl
theorem ZG.inj{x y:V}{u:Value}(r:ZG x u)(q:ZG y u):x=y:=Qr (r.abs.symm.trans q.abs)
theorem Zw.inj:∀ {xs ys:List V} {us:List Value},Zw xs us→Zw ys us→xs=ys
 | _,_,_,.nil,.nil=>rfl
 | _,_,_,.cons r t,.cons r' t'=>by rw[r.inj r',Zw.inj t t']
section
variable {X:Cx} {pins:List (Addr×Obj)} {σ:St} {H:Hp} {s:Shared} {a:Addr} {xs ys:List V}
theorem SqL.of{K:PySem.W.Frag}(h:H a=some (.lst xs)):SqL K H a xs:=.inl (.inl h)
theorem SqT.of{K:PySem.W.Frag}(h:H a=some (.tup xs)):SqT K H a xs:=.inl (.inl h)
theorem Inv.list(I:Inv X pins σ H s)(h:SqL X.K H a xs):∃its:List Value,Zw xs its∧PlainL s.heap a its.toArray∧xs.length≤sizeLine:=by
 rcases h with h|⟨o,its,n,hk,hc,hd,hs,hz,r⟩
 ·obtain⟨z,its,n,r,e⟩:=h.ok I.hok
  exact⟨its,r,⟨_,n,e,rfl,rfl,rfl⟩,z⟩
 ·refine⟨its.toList,r,⟨o,n,I.kIn a o hk,hc,hd,by simpa using hs⟩,?_⟩
  have e:=r.length
  simp only[Array.length_toList]at e
  omega
theorem Inv.tuple(I:Inv X pins σ H s)(h:SqT X.K H a xs):∃its:List Value,Zw xs its∧IsTup s.heap a its.toArray∧xs.length≤sizeLine:=by
 rcases h with h|⟨o,its,n,hk,hc,hs,hz,r⟩
 ·obtain⟨z,its,r,p⟩:=h.ok I.hok
  exact⟨its,r,p,z⟩
 ·refine⟨its.toList,r,⟨o,I.kIn a o hk,hc,n,by simpa using hs⟩,?_⟩
  have e:=r.length
  simp only[Array.length_toList]at e
  omega
theorem Inv.list_inj(I:Inv X pins σ H s)(h:SqL X.K H a xs)(h':SqL X.K H a ys):xs=ys:=by
 obtain⟨its,r,⟨o,n,e,_,_,d⟩,_⟩:=I.list h
 obtain⟨its',r',⟨o',n',e',_,_,d'⟩,_⟩:=I.list h'
 rw[e]at e';cases e'
 rw[d]at d'
 injection d' with d1 _
 have:its=its':=by simpa using congrArg Array.toList d1
 subst this
 exact r.inj r'
theorem Inv.tuple_inj(I:Inv X pins σ H s)(h:SqT X.K H a xs)(h':SqT X.K H a ys):xs=ys:=by
 obtain⟨its,r,⟨o,e,_,n,d⟩,_⟩:=I.tuple h
 obtain⟨its',r',⟨o',e',_,n',d'⟩,_⟩:=I.tuple h'
 rw[e]at e';cases e'
 rw[d]at d'
 injection d' with d1 _
 have:its=its':=by simpa using congrArg Array.toList d1
 subst this
 exact r.inj r'
end
noncomputable abbrev Cx.wish(X:Cx)(E:Value→Shared→Prop):Cx:={ X with xe:=E }
noncomputable abbrev Cx.nox(X:Cx):Cx:=X.wish fun _ _=>False
theorem Cx.Ok.wish{X:Cx}(ok:X.Ok)(E:Value→Shared→Prop):(X.wish E).Ok :=
 ⟨ok.mod,ok.kind,ok.glob,ok.blt,ok.above,ok.inj,ok.has,ok.cab,ok.hd,ok.frames,ok.stk,ok.exf,ok.bs,ok.bsz,ok.noex,ok.exfs,ok.funs,ok.frf⟩
theorem Cx.Ok.unwish{X:Cx}{E:Value→Shared→Prop}(ok:(X.wish E).Ok):X.Ok :=
 ⟨ok.mod,ok.kind,ok.glob,ok.blt,ok.above,ok.inj,ok.has,ok.cab,ok.hd,ok.frames,ok.stk,ok.exf,ok.bs,ok.bsz,ok.noex,ok.exfs,ok.funs,ok.frf⟩
section
variable {X:Cx} {pins:List (Addr×Obj)} {σ:St} {H:Hp} {s:Shared} {E:Value→Shared→Prop}
theorem Inv.wish(I:Inv X pins σ H s)(E:Value→Shared→Prop):Inv (X.wish E) pins σ H s:=⟨I.ok.wish E,I.os,I.bare,I.base,I.loc,I.cell,I.free,I.freeC,I.pin,I.hok,I.len⟩
theorem Inv.unwish(I:Inv (X.wish E) pins σ H s):Inv X pins σ H s:=⟨I.ok.unwish,I.os,I.bare,I.base,I.loc,I.cell,I.free,I.freeC,I.pin,I.hok,I.len⟩
theorem SP.unwish{D:Zfh}{f:Flow}{s':Shared}(h:SP (X.wish E) pins D f s'):SP X pins D f s':=by
 cases f with
 | next=>obtain⟨σ',H',I,q⟩:=h;exact⟨σ',H',I.unwish,q⟩
 | brk=>obtain⟨σ',H',I,q⟩:=h;exact⟨σ',H',I.unwish,q⟩
 | cont=>obtain⟨σ',H',I,q⟩:=h;exact⟨σ',H',I.unwish,q⟩
 | ret u=>obtain⟨v,σ',H',I,r,q⟩:=h;exact⟨v,σ',H',I.unwish,r,q⟩
theorem PSs.nox{st:List Stmt}{t:TS}(h:PSs X.nox st t):PSs X st t:=fun pins s σ H D I hw =>
 wpAny_mono (h pins s σ H D (I.wish _) hw) (fun _ _ q=>q.unwish) fun _ _ z=>False.elim z
end
section
variable {X:Cx} {st:Stmt} {rest:List Stmt} {t u:TS} {e:Expr} {te:TE} {pos:Pos}
noncomputable def Zsl:TS:=fun D σ H=>D.nx σ H
noncomputable def Ztz(t u:TS):TS:=fun D σ H=>t { D with nx:=u D } σ H
theorem ZD:PSs X [] Zsl:=fun _ _ σ H _ I h=>wpAny_execs_nil ⟨σ,H,I,h⟩
theorem Zg(h1:PS X st t)(h2:PSs X rest u):PSs X (st::rest) (Ztz t u):=by
 intro pins s σ H D I h
 refine wpAny_execs_cons (thn (h1 pins s σ H { D with nx:=u D } I h) fun f s1 q=>?_)
 cases f with
 | next =>
  obtain⟨σ',H',I',q⟩:=q
  exact h2 pins s1 σ' H' D I' q
 | ret v=>exact q
 | brk=>exact q
 | cont=>exact q
theorem Zj(h1:PS X st t):PSs X [st] t:=by
 intro pins s σ H D I h
 refine wpAny_execs_cons (thn (h1 pins s σ H D I h) fun f s1 q=>?_)
 cases f with
 | next=>exact wpAny_execs_nil q
 | ret v=>exact q
 | brk=>exact q
 | cont=>exact q
theorem Inv.quiet{pins:List (Addr×Obj)}{σ:St}{H:Hp}{s:Shared}(I:Inv X pins σ H s):interactive X.env=false:=by simp[interactive,I.ok.kind]
noncomputable def ZsM(te:TE):TS:=fun D σ H=>te σ H fun _ H1=>D.nx σ H1
theorem ZaO(he:PE X e te)(hs:swapsWith e none pos.line X.env=pure false:=by rfl):PS X (.Expr e pos) (ZsM te):=by
 intro pins s σ H D I h
 exact wpAny_Expr_any (thn (he pins s σ H _ I h) fun v s1 ⟨x,H1,I1,r1,q1⟩=>⟨σ,H1,I1,q1⟩) I.quiet hs
noncomputable def Zte(te:TE):TS:=fun D σ H=>te σ H D.rt
theorem Zm(he:PE X e te):PS X (.Return (some e) pos) (Zte te):=by
 intro pins s σ H D I h
 exact wpAny_Return_some (thn (he pins s σ H _ I h) fun v s1 ⟨x,H1,I1,r1,q1⟩=>⟨x,σ,H1,I1,r1,q1⟩)
noncomputable def Zti(c:TT)(t u:TS):TS:=fun D σ H=>c σ H fun b H1=>if b=true then t D σ H1 else u D σ H1
theorem ZZ{c:Expr}{a b:List Stmt}{tc:TT}(hc:PT X c tc)(ha:PSs X a t)(hb:PSs X b u):PS X (.If c a b pos) (Zti tc t u):=by
 intro pins s σ H D I h
 refine wpAny_If (thn (hc pins s σ H _ I h) ?_)
 rintro d s1 ⟨H1,I1,q1⟩
 cases d with
 | true=>exact ha pins s1 σ H1 D I1 q1
 | false=>exact hb pins s1 σ H1 D I1 q1
end
noncomputable abbrev TG:=V→St→Hp→(St→Hp→Prop)→Prop
noncomputable abbrev TGs:=List V→St→Hp→(St→Hp→Prop)→Prop
noncomputable def PG(X:Cx)(target:Expr)(t:TG):Prop :=
 ∀ (pins:List (Addr×Obj)) (s:Shared) (σ:St) (H:Hp) (v:V) (u:Value) (Q:St→Hp→Prop),Inv X pins σ H s→ZG v u→t v σ H Q →
  wpAny (model X.prog X.w) X.A (assign target X.env u) (fun _ s'=>∃σ' H',Inv X pins σ' H' s'∧Q σ' H') X.xe s
noncomputable def PGs(X:Cx)(ts:List Expr)(t:TGs):Prop :=
 ∀ (pins:List (Addr×Obj)) (s:Shared) (σ:St) (H:Hp) (vs:List V) (us:List Value) (Q:St→Hp→Prop),Inv X pins σ H s→Zw vs us→t vs σ H Q →
  wpAny (model X.prog X.w) X.A (assignInOrder ((assignEach ts X.env).map (·.2)) us) (fun _ s'=>∃σ' H',Inv X pins σ' H' s'∧Q σ' H') X.xe s
noncomputable abbrev ZmC:=V→V→V→Hp→(Hp→Prop)→Prop
noncomputable def Zn5(X:Cx)(t:ZmC):Prop :=
 ∀ (pins:List (Addr×Obj)) (s:Shared) (σ:St) (H:Hp) (o i v:V) (ov iv u:Value) (Q:Hp→Prop),Inv X pins σ H s→ZG o ov→ZG i iv→ZG v u→t o i v H Q →
  wpAny (model X.prog X.w) X.A (setItem ov iv u) (fun _ s'=>∃H',Inv X pins σ H' s'∧Q H') X.xe s
noncomputable abbrev TIp:=V→V→Hp→VK→Prop
noncomputable def PIp(X:Cx)(op:Operator)(t:TIp):Prop :=
 ∀ (pins:List (Addr×Obj)) (s:Shared) (σ:St) (H:Hp) (x y:V) (v u:Value) (Q:VK),Inv X pins σ H s→ZG x v→ZG y u→t x y H Q →
  wpAny (model X.prog X.w) X.A (inplaceOp op v u) (EP X pins σ Q) X.xe s
section
variable {X:Cx} {pos:Pos}
noncomputable def Zjv(i:Nat):TG:=fun v σ H Q=>Q (σ.set i (some v)) H
theorem ZA{i:Nat}{x:Str}(hN:X.N.Nodup)(hi:X.N[i]? = some x)(hx:Loc X.env.scope x)(hf:X.fn x=true∨X.env.scope.names.lookup x=some .local:=by first|exact .inl rfl|exact .inr rfl|assumption):PG X (.Name x pos) (Zjv i):=by
 intro pins s σ H v u Q I r h
 exact wpAny_assign_Name (Zgq I hN hi hx r (fun s' I'=>⟨_,H,I',h⟩) hf)
noncomputable def Ztp:TGs:=fun vs σ H Q=>vs=[]∧Q σ H
noncomputable def Zr3(t:TG)(u:TGs):TGs:=fun vs σ H Q=>∃v r,vs=v::r∧t v σ H fun σ' H'=>u r σ' H' Q
theorem ZaE:PGs X [] Ztp:=by
 intro pins s σ H vs us Q I r h
 obtain⟨e,h⟩:=h
 subst e
 cases r
 exact assignInOrder_nil ⟨σ,H,I,h⟩
theorem Zv{e:Expr}{es:List Expr}{t:TG}{u:TGs}(h1:PG X e t)(h2:PGs X es u)
  (hs:(assignEach (e::es) X.env).map (·.2)=assign e X.env::(assignEach es X.env).map (·.2):=by rfl):PGs X (e::es) (Zr3 t u):=by
 intro pins s σ H vs us Q I r h
 obtain⟨v,vr,e1,h⟩:=h
 subst e1
 cases r with
 | cons r rr =>
  rw[hs]
  refine assignInOrder_cons (thn (h1 pins s σ H _ _ _ I r h) ?_)
  rintro _ s1 ⟨σ1,H1,I1,q1⟩
  exact h2 pins s1 σ1 H1 _ _ Q I1 rr q1
noncomputable def Zr4(K:PySem.W.Frag)(n:Nat)(t:TGs):TG:=fun v σ H Q=>∃a xs,v=.ref a∧SqT K H a xs∧xs.length=n∧t xs σ H Q
theorem Zrw{es:List Expr}{k:Nat}{t:TGs}{n:Nat}(hc:X.calm=true)(h:PGs X es t)
  (hn:(assignEach es X.env).length=n:=by rfl) (hst:(assignEach es X.env).findIdx? (·.1)=none:=by rfl):PG X (.Tuple es k pos) (Zr4 X.K n t):=by
 intro pins s σ H v u Q I r hw
 obtain⟨a,xs,e1,hq,hl,hw⟩:=hw
 subst e1
 cases r
 obtain⟨its,rv,ht,hz⟩:=I.tuple hq
 refine assign_Tuple_tuple (I.ok.hd hc) ht (by simp[hn,← hl,rv.length]) hst fun h' hx=>?_
 have I1:Inv X pins σ H { s with heap:=h' }:=I.kept (t':=s.toks) fun b o e=>hx b o (QV (Qz e)) e
 exact h pins _ σ H xs _ Q I1 (by simpa using rv) hw
noncomputable def Zs3(to ti:TE)(t:ZmC):TG:=fun v σ H Q=>to σ H fun o H1=>ti σ H1 fun i H2=>t o i v H2 fun H3=>Q σ H3
theorem ZdC{o i:Expr}{to ti:TE}{t:ZmC}(ho:PE X o to)(hi:PE X i ti)(hs:Zn5 X t)
  (ha:∀v,assign (.Subscript o i pos) X.env v=(do
   let ov ← holding [v] (eval o X.env)
   let iv ← holding [v,ov] (eval i X.env)
   standAt pos
   holding [v,ov,iv] (setItem ov iv v)
   release [v,ov,iv] []):=by intro _;rfl):PG X (.Subscript o i pos) (Zs3 to ti t):=by
 intro pins s σ H v u Q I r h
 rw[ha]
 refine wpAny_bind (wpAny_holding (thn (ho pins s σ H _ I h) ?_))
 rintro ov s1 ⟨x,H1,I1,r1,q1⟩
 refine wpAny_bind (wpAny_holding (thn (hi pins s1 σ H1 _ I1 q1) ?_))
 rintro iv s2 ⟨y,H2,I2,r2,q2⟩
 refine wpAny_bind (wpAny_standAt (wpAny_bind (wpAny_holding (thn (hs pins s2 σ H2 x y v ov iv u _ I2 r1 r2 r q2) ?_))))
 rintro _ s3 ⟨H3,I3,q3⟩
 exact wpAny_release ⟨σ,H3,I3,q3⟩
noncomputable def ZrK(te:TE)(g:TG):TS:=fun D σ H=>te σ H fun x H1=>g x σ H1 D.nx
theorem ZaZ{tg e:Expr}{te:TE}{g:TG}(he:PE X e te)(hg:PG X tg g)(hs:swapsWithSole [tg] e pos.line X.env=pure false:=by rfl)(hw:swappedStores [tg] e X.env=pure none:=by rfl)
  (h1:(assignEach [tg] X.env).map (·.2)=[assign tg X.env]:=by rfl):PS X (.Assign [tg] e pos) (ZrK te g):=by
 intro pins s σ H D I h
 refine wpAny_Assign_stores (thn (he pins s σ H _ I h) ?_) hs hw
 rintro v s1 ⟨x,H1,I1,r1,q1⟩
 rw[h1]
 exact thn (hg pins s1 σ H1 x v _ I1 r1 q1) fun _ s2 q=>q
theorem Zy{i:Nat}{x:Str}{e:Expr}{te:TE}{pos':Pos}(hN:X.N.Nodup)(hi:X.N[i]? = some x)(hx:Loc X.env.scope x)(he:PE X e te)(hs:swapsWith e (some (.Name x pos')) pos.line X.env=pure false:=by rfl)(hf:X.fn x=true∨X.env.scope.names.lookup x=some .local:=by first|exact .inl rfl|exact .inr rfl|assumption) :
  PS X (.Assign [.Name x pos'] e pos) (ZrK te (Zjv i)):=by
 intro pins s σ H D I h
 refine wpAny_Assign_Name (thn (he pins s σ H _ I h) ?_) hs
 rintro v s1 ⟨y,H1,I1,r1,q1⟩
 exact Zgq I1 hN hi hx r1 (fun s2 I2=>⟨_,H1,I2,q1⟩) hf
noncomputable def Zs5(i:Nat)(te:TE)(ti:TIp):TS:=fun D σ H=>∃x,σ[i]? = some (some x)∧te σ H fun y H1=>ti x y H1 fun z H2=>D.nx (σ.set i (some z)) H2
theorem Zm0{i:Nat}{x:Str}{e:Expr}{te:TE}{op:Operator}{ti:TIp}{pos':Pos}(hN:X.N.Nodup)(hi:X.N[i]? = some x)(hx:Loc X.env.scope x)(he:PE X e te)(ho:PIp X op ti)(hf:X.fn x=true∨X.env.scope.names.lookup x=some .local:=by first|exact .inl rfl|exact .inr rfl|assumption) :
  PS X (.AugAssign (.Name x pos') op e pos) (Zs5 i te ti):=by
 intro pins s σ H D I h
 obtain⟨v,e1,h⟩:=h
 obtain⟨m,hn,hl⟩:=I.loc
 have vis:Vis X.env.scope x:=by rcases hx with k|k;exact .inl k;exact .inr (.inl k)
 obtain⟨u,r,l⟩:=hl i x v hi e1 vis
 refine wpAny_AugAssign_Name ?_
 have go:wpAny (model X.prog X.w) X.A (eval e X.env) (fun w s₂=>wpAny (model X.prog X.w) X.A (inplaceOp op u w) (fun r s₃=>wpAny (model X.prog X.w) X.A (storeName X.env x r) (fun _=>SP X pins D .next) X.xe s₃) X.xe s₂) X.xe s:=by
  refine thn (he pins s σ H _ I h) ?_
  rintro w s1 ⟨y,H1,I1,r1,q1⟩
  refine thn (ho pins s1 σ H1 v y u w _ I1 r r1 q1) ?_
  rintro z s2 ⟨zv,H2,I2,r2,q2⟩
  exact Zgq I2 hN hi hx r2 (fun s3 I3=>⟨_,H2,I3,q2⟩) hf
 rcases l with⟨hk,hm⟩|⟨hk,c,hc,hcell⟩
 ·exact wpAny_loadName_local I.ok.kind hk hn hm go
 ·rcases hk with hk|hk
  ·exact wpAny_loadName_cell I.ok.kind hk hc hcell go
  ·rcases hx with k|k
   ·have:X.env.scope.names.lookup x=some .free:=hk
    rw[k]at this;cases this
   ·have:X.env.scope.names.lookup x=some .free:=hk
    rw[k]at this;cases this
noncomputable def ipI(f:Int→Int→Int):TIp:=fun x y H Q=>∃i j,x=.int i∧y=.int j∧Q (.int (f i j)) H
theorem Zog:PIp X .Add (ipI fun i j=>i+j):=by
 intro pins s σ H x y v u Q I r1 r2 h
 obtain⟨i,j,e1,e2,q⟩:=h
 subst e1;subst e2
 obtain⟨t,rfl⟩:=r1
 obtain⟨t',rfl⟩:=r2
 exact iadd_int ⟨.int _,H,I.tok _,⟨_,rfl⟩,q⟩
end
section
variable {X:Cx} {pos:Pos}
noncomputable def Zrx(c:TT)(tb:TS):TS:=fun D σ H=>∃W:Nat→St→Hp→Prop,(∃m,W m σ H)∧∀m σ H,W m σ H →
 c σ H fun b H1=>if b=true then ∃N:St→Hp→Prop,(∀σ' H',N σ' H'→∃m',m'<m∧W m' σ' H')∧tb { D with nx:=N,ct:=N,bk:=D.nx } σ H1 else D.nx σ H1
theorem ZdN{c:Expr}{body:List Stmt}{tc:TT}{tb:TS}(hp:PassesOwn (model X.prog X.w) X.A X.env X.xe)(hc:PT X c tc)(hb:PSs X body tb):PS X (.While c body [] pos) (Zrx tc tb):=by
 intro pins s σ H D I h
 obtain⟨W,⟨m0,w0⟩,turn⟩:=h
 refine wpAny_While (codeAny_whileLoop (fun n s'=>∃σ' H',Inv X pins σ' H' s'∧W n σ' H') ?_ m0 ⟨σ,H,I,w0⟩)
 rintro n s1 ⟨σ1,H1,I1,w1⟩
 refine wpAny_passesOwn hp (thn (hc pins s1 σ1 H1 _ I1 (turn n σ1 H1 w1)) ?_)
 rintro b s2 ⟨H2,I2,q2⟩
 cases b with
 | true =>
  obtain⟨N,hN,q2⟩:=q2
  rw[if_pos rfl]
  refine wpAny_passesOwn hp (thn (hb pins s2 σ1 H2 _ I2 q2) fun f s3 q3=>?_)
  cases f with
  | next =>
   obtain⟨σ3,H3,I3,n3⟩:=q3
   obtain⟨m',hm,w3⟩:=hN σ3 H3 n3
   exact⟨m',hm,σ3,H3,I3,w3⟩
  | cont =>
   obtain⟨σ3,H3,I3,n3⟩:=q3
   obtain⟨m',hm,w3⟩:=hN σ3 H3 n3
   exact⟨m',hm,σ3,H3,I3,w3⟩
  | brk=>exact q3
  | ret v=>exact q3
 | false =>
  rw[if_neg QC]
  exact wpAny_execs_nil ⟨σ1,H2,I2,q2⟩
end
structure It where
 go:Nat→Hp→Prop
 yld:Nat→Hp→V→Hp→Prop
 stop:Nat→Hp→Prop
noncomputable def ZfW(X:Cx)(pins:List (Addr×Obj))(H:Hp)(b:Addr):Prop :=
 H b=none∧b≠X.env.locals∧b ∉ X.fs∧(b∈X.ex∨X.s₀.heap.objs.size≤b)∧(∀x c,X.env.cells.lookup x=some c→c≠b)∧∀p∈X.pn++pins,p.1≠b
theorem Inv.fpOk{X:Cx}{pins:List (Addr×Obj)}{σ:St}{H H':Hp}{s:Shared}{b:Addr}(I:Inv X pins σ H s)(hb:s.heap.objs.size≤b)(hn:H' b=none):ZfW X pins H' b:=by
 refine⟨hn,QaP (QF I.lt hb),I.nofs hb,.inr (QJ I.sz hb),fun x c e z=>?_,fun p hp z=>?_⟩
 ·obtain⟨v,q⟩:=I.cell x c e
  exact absurd (QF q.lt (by rw[z];exact hb)) (Qas _)
 ·exact absurd (QF (Qz (I.pin p hp).1) (by rw[z];exact hb)) (Qas _)
structure ZmS (P:Program) (w:World) (K:PySem.W.Frag) (tg:Expr) (J:It) (fp:List Addr) (it:Addr) (tn:Nat→Heap→Prop):Prop where
 mem:it∈fp
 obj:∀i h,tn i h→∀b∈fp,∃o,h.get? b=some o∧∀v,o.data≠.cell v
 keep:∀i h h',tn i h→(∀b∈fp,∀o,h.get? b=some o→h'.get? b=some o)→tn i h'
 item:∀ (X:Cx),X.prog=P→X.w=w→X.K=K→X.calm=true→∀ (i:Nat) (pins:List (Addr×Obj)) (s:Shared) (σ:St) (H:Hp) (E:Value→Shared→Prop),Inv X pins σ H s→(∀b∈fp,ZfW X pins H b)→tn i s.heap→J.go i H →
  wpAny (model P w) X.A (pyNext (.ref it)) (fun r s1=>∃u,r=some u ∧
   wpAny (model P w) X.A (letOwnedTupleGo tg (.ref it) u) (fun _ s2=>∃x H',Inv X pins σ H' s2∧ZG x u∧J.yld i H x H'∧tn (i+1) s2.heap∧∀b∈fp,H' b=none) E s1) E s
 done:∀ (X:Cx),X.prog=P→X.w=w→X.K=K→X.calm=true→∀ (i:Nat) (pins:List (Addr×Obj)) (s:Shared) (σ:St) (H:Hp) (E:Value→Shared→Prop),Inv X pins σ H s→(∀b∈fp,ZfW X pins H b)→tn i s.heap→J.stop i H →
  wpAny (model P w) X.A (pyNext (.ref it)) (fun r s1=>r=none∧Inv X pins σ H s1) E s
 self:∀ (A:Around) (i:Nat) (s:Shared) (Q:Value→Shared→Prop) (E:Value→Shared→Prop),tn i s.heap→Q (.ref it) s→wpAny (model P w) A (pyIter (.ref it)) Q E s
noncomputable abbrev TI:=St→Hp→(It→Hp→Prop)→Prop
noncomputable def PIE(X:Cx)(pins:List (Addr×Obj))(σ:St)(tg:Expr)(R:It→Hp→Prop)(itv:Value)(s2:Shared):Prop :=
 ∃ (it:Addr) (fp:List Addr) (tn:Nat→Heap→Prop) (J:It) (H':Hp),itv=.ref it∧Inv X pins σ H' s2∧ZmS X.prog X.w X.K tg J fp it tn∧tn 0 s2.heap∧(∀b∈fp,ZfW X pins H' b)∧R J H'
noncomputable def PI(X:Cx)(tg iter:Expr)(wi:TI):Prop :=
 ∀ (pins:List (Addr×Obj)) (s:Shared) (σ:St) (H:Hp) (R:It→Hp→Prop),Inv X pins σ H s→wi σ H R →
  wpAny (model X.prog X.w) X.A (eval iter X.env) (fun v s1=>wpAny (model X.prog X.w) X.A (pyIter v) (PIE X pins σ tg R) X.xe s1) X.xe s
theorem ZoE{M:Model}{A:Around}{E:Value→Shared→Prop}{s:Shared}{tg:Expr}{it:Addr}{u:Value}{o:Obj}{n:String}{vs:Array Value}{Q:Unit→Shared→Prop}(ho:s.heap.get? it=some o)(hc:o.cls=.type n)(hd:o.data=.fields vs)
  (hn:["enumerate", "zip", "dict_itemiterator", "dict_reverseitemiterator", "odict_iterator", "itertools.zip_longest", "itertools.pairwise"].contains n=false) (hQ:Q () s):wpAny M A (letOwnedTupleGo tg (.ref it) u) Q E s:=by
 unfold letOwnedTupleGo
 cases tg<;>first
  | exact wpAny_pure hQ
  | (cases u<;>first
    | exact wpAny_pure hQ
    | (refine wpAny_bind (wpAny_load ho ?_);rw[hc,hd];show wpAny M A (if (["enumerate", "zip", "dict_itemiterator", "dict_reverseitemiterator", "odict_iterator", "itertools.zip_longest", "itertools.pairwise"].contains n&&vs[0]? == some (rawInt _))=true then _ else _) Q E s;rw[if_neg (by intro h;rw[hn,Bool.false_and]at h;cases h)];exact wpAny_pure hQ))
noncomputable def Itl(K:PySem.W.Frag)(a:Addr):It :=
 ⟨fun i H=>∃xs x,SqL K H a xs∧xs[i]? = some x,fun i H x H'=>H'=H∧∀xs,SqL K H a xs→xs[i]? = some x,fun i H=>∃xs,SqL K H a xs∧xs.length≤i⟩
noncomputable def Itt(K:PySem.W.Frag)(a:Addr):It :=
 ⟨fun i H=>∃xs x,SqT K H a xs∧xs[i]? = some x,fun i H x H'=>H'=H∧∀xs,SqT K H a xs→xs[i]? = some x,fun i H=>∃xs,SqT K H a xs∧xs.length≤i⟩
noncomputable def Itr(lo:Int)(n:Nat):It:=⟨fun i _=>i<n,fun i H x H'=>H'=H∧x=.int (lo+i),fun i _=>n≤i⟩
theorem ZlP{P:Program}{w:World}{K:PySem.W.Frag}{tg:Expr}(a it:Addr):ZmS P w K tg (Itl K a) [it] it (fun i h=>h.IsListIter it a i) where
 mem:=by simp
 obj:=fun i h st b hb=>by
  have e:b=it:=by simpa using hb
  subst e
  obtain⟨o,e,c,d⟩:=st
  exact⟨o,e,fun v z=>by rw[d]at z;cases z⟩
 keep:=fun i h h' st k=>st.at fun o e=>k it (by simp) o e
 item:=by
  intro X hP hw hK hc i pins s σ H E I hf st hg
  subst hP hw hK
  obtain⟨xs,x,hq,hx⟩:=hg
  obtain⟨its,rv,p,hz⟩:=I.list hq
  obtain⟨u,hu,ru⟩:=rv.get hx
  obtain⟨f0,f1,f2,f3,f4,f5⟩:=hf it (by simp)
  refine wpAny_pyNext_list_item st p.isList (x:=u) (by simpa using hu) fun h' st' sb=>?_
  have I1:Inv X pins σ H { s with heap:=h' }:=I.turned (t':=s.toks) (fun b o hb e=>(sb.2 b hb).trans e) f0 f1 f3 f4 f5
  obtain⟨o,e,c,d⟩:=id st'
  exact⟨u,rfl,ZoE (s:={ s with heap:=h' }) e c d (by decide) ⟨x,H,I1,ru,⟨rfl,fun ys hy=>by rw[I.list_inj hy hq];exact hx⟩,st',fun b hb=>(hf b hb).1⟩⟩
 done:=by
  intro X hP hw hK hc i pins s σ H E I hf st hg
  subst hP hw hK
  obtain⟨xs,hq,hx⟩:=hg
  obtain⟨its,rv,p,hz⟩:=I.list hq
  obtain⟨f0,f1,f2,f3,f4,f5⟩:=hf it (by simp)
  have hl:=rv.length
  exact wpAny_pyNext_list_end (I.ok.hd hc) st p.isList (by simp;omega) fun h' eb=>⟨rfl,I.turned (t':=s.toks) (fun b o hb e=>eb b o hb e) f0 f1 f3 f4 f5⟩
 self:=fun _ _ _ _ _ st h=>wpAny_pyIter_listiter st h
theorem Zka{P:Program}{w:World}{K:PySem.W.Frag}{tg:Expr}(a it:Addr):ZmS P w K tg (Itt K a) [it] it (fun i h=>h.IsTupleIter it a i) where
 mem:=by simp
 obj:=fun i h st b hb=>by
  have e:b=it:=by simpa using hb
  subst e
  obtain⟨o,e,c,d⟩:=st
  exact⟨o,e,fun v z=>by rw[d]at z;cases z⟩
 keep:=fun i h h' st k=>st.at fun o e=>k it (by simp) o e
 item:=by
  intro X hP hw hK hc i pins s σ H E I hf st hg
  subst hP hw hK
  obtain⟨xs,x,hq,hx⟩:=hg
  obtain⟨its,rv,p,hz⟩:=I.tuple hq
  obtain⟨u,hu,ru⟩:=rv.get hx
  obtain⟨f0,f1,f2,f3,f4,f5⟩:=hf it (by simp)
  refine wpAny_pyNext_tuple_item st (show s.heap.IsTuple a its.toArray from p) (x:=u) (by simpa using hu) fun h' st' sb=>?_
  have I1:Inv X pins σ H { s with heap:=h' }:=I.turned (t':=s.toks) (fun b o hb e=>(sb.2 b hb).trans e) f0 f1 f3 f4 f5
  obtain⟨o,e,c,d⟩:=id st'
  exact⟨u,rfl,ZoE (s:={ s with heap:=h' }) e c d (by decide) ⟨x,H,I1,ru,⟨rfl,fun ys hy=>by rw[I.tuple_inj hy hq];exact hx⟩,st',fun b hb=>(hf b hb).1⟩⟩
 done:=by
  intro X hP hw hK hc i pins s σ H E I hf st hg
  subst hP hw hK
  obtain⟨xs,hq,hx⟩:=hg
  obtain⟨its,rv,p,hz⟩:=I.tuple hq
  obtain⟨f0,f1,f2,f3,f4,f5⟩:=hf it (by simp)
  have hl:=rv.length
  exact wpAny_pyNext_tuple_end (I.ok.hd hc) st (show s.heap.IsTuple a its.toArray from p) (by simp;omega) fun h' eb=>⟨rfl,I.turned (t':=s.toks) (fun b o hb e=>eb b o hb e) f0 f1 f3 f4 f5⟩
 self:=fun _ _ _ _ _ st h=>wpAny_pyIter_tupleiter st h
theorem Zj5{P:Program}{w:World}{K:PySem.W.Frag}{tg:Expr}(it:Addr)(lo:Int)(n:Nat):ZmS P w K tg (Itr lo n) [it] it (fun i h=>IsRangeIter h it (lo+(i:Nat)*1) ((n:Int)-(i:Nat)) 1) where
 mem:=by simp
 obj:=fun i h st b hb=>by
  have e:b=it:=by simpa using hb
  subst e
  exact⟨_,st,fun v z=>by
   have z':Data.fields _=Data.cell v:=z
   cases z'⟩
 keep:=fun i h h' st k=>k it (by simp) _ st
 item:=by
  intro X hP hw hK hc i pins s σ H E I hf st hg
  subst hP hw hK
  obtain⟨f0,f1,f2,f3,f4,f5⟩:=hf it (by simp)
  have W:=Walks.range (prog:=X.prog) (w:=X.w) (I.ok.hd hc) it lo 1 n
  refine W.item i s _ _ hg st fun v h' tk hv st' kk=>?_
  obtain⟨t,rfl⟩:=hv
  have I1:Inv X pins σ H { s with heap:=h',toks:=tk }:=I.turned (fun b o hb e=>kk b o (by simpa using hb) e) f0 f1 f3 f4 f5
  refine⟨_,rfl,ZoE (s:={ s with heap:=h',toks:=tk }) (n := "range_iterator") st' rfl rfl (by decide) ⟨.int (lo+i),H,I1,⟨t,?_⟩,⟨rfl,rfl⟩,st',fun b hb=>(hf b hb).1⟩⟩
  rw[Int.mul_one]
 done:=by
  intro X hP hw hK hc i pins s σ H E I hf st hg
  subst hP hw hK
  obtain⟨f0,f1,f2,f3,f4,f5⟩:=hf it (by simp)
  exact wpAny_pyNext_range_end (I.ok.hd hc) st (by have:n≤i:=hg;omega) fun h' eb=>⟨rfl,I.turned (t':=s.toks) (fun b o hb e=>eb b o hb e) f0 f1 f3 f4 f5⟩
 self:=fun _ _ _ _ _ st h=>wpAny_pyIter_rangeiter st h
section
variable {X:Cx} {tg:Expr}
noncomputable def Zqf(K:PySem.W.Frag)(tl:TE):TI:=fun σ H R=>tl σ H fun x H1=>∃a,x=.ref a∧(∃xs,SqL K H1 a xs)∧R (Itl K a) H1
noncomputable def Zsz(K:PySem.W.Frag)(tl:TE):TI:=fun σ H R=>tl σ H fun x H1=>∃a,x=.ref a∧(∃xs,SqT K H1 a xs)∧R (Itt K a) H1
theorem Zpk{l:Expr}{tl:TE}(hl:PE X l tl):PI X tg l (Zqf X.K tl):=by
 intro pins s σ H R I h
 refine thn (hl pins s σ H _ I h) ?_
 rintro v s1 ⟨x,H1,I1,r1,q1⟩
 obtain⟨a,e,⟨xs,hq⟩,q⟩:=q1
 subst e
 cases r1
 obtain⟨its,rv,p,hz⟩:=I1.list hq
 refine wpAny_pyIter_list p.isList ?_
 refine⟨s1.heap.objs.size,[s1.heap.objs.size],_,_,H1,rfl,I1.kept (t':=s1.toks) fun b o e=>Qj _ e,ZlP a _,⟨_,QD _ rfl,rfl,rfl⟩,fun b hb=>?_,q⟩
 have e:b=s1.heap.objs.size:=by simpa using hb
 subst e
 exact I1.fpOk (Qg _) (I1.hok.fresh (Qg _))
theorem Zrc{l:Expr}{tl:TE}(hl:PE X l tl):PI X tg l (Zsz X.K tl):=by
 intro pins s σ H R I h
 refine thn (hl pins s σ H _ I h) ?_
 rintro v s1 ⟨x,H1,I1,r1,q1⟩
 obtain⟨a,e,⟨xs,hq⟩,q⟩:=q1
 subst e
 cases r1
 obtain⟨its,rv,p,hz⟩:=I1.tuple hq
 refine wpAny_pyIter_tuple (show s1.heap.IsTuple a its.toArray from p) ?_
 refine⟨s1.heap.objs.size,[s1.heap.objs.size],_,_,H1,rfl,I1.kept (t':=s1.toks) fun b o e=>Qj _ e,Zka a _,⟨_,QD _ rfl,rfl,rfl⟩,fun b hb=>?_,q⟩
 have e:b=s1.heap.objs.size:=by simpa using hb
 subst e
 exact I1.fpOk (Qg _) (I1.hok.fresh (Qg _))
theorem ZiO{pins:List (Addr×Obj)}{σ:St}{H:Hp}{s:Shared}{R:It→Hp→Prop}{E:Value→Shared→Prop}{lo hi:Int}{t u v:Tok}{tk:Nat}(I:Inv X pins σ H s)(h1:-(2 ^ 62)≤lo)(h2:lo<2 ^ 62)(h3:-(2 ^ 62)≤hi)(h4:hi<2 ^ 62)
  (q:R (Itr lo (hi-lo).toNat) H):wpAny (model X.prog X.w) X.A (pyIter (.ref s.heap.objs.size)) (PIE X pins σ tg R) E { s with heap:=s.heap.push { cls:=.type "range",data:=.fields #[.int lo t,.int hi u,.int 1 v] },toks:=tk }:=by
 refine wpAny_pyIter_range (IsRange.new ..) (small_one h1 h2 h3 h4) ?_
 have I1:Inv X pins σ H { s with heap:=s.heap.push { cls:=.type "range",data:=.fields #[.int lo t,.int hi u,.int 1 v] },toks:=tk }:=I.kept fun b o e=>Qj _ e
 refine⟨(s.heap.push { cls:=.type "range",data:=.fields #[.int lo t,.int hi u,.int 1 v] }).objs.size,[(s.heap.push { cls:=.type "range",data:=.fields #[.int lo t,.int hi u,.int 1 v] }).objs.size],_,_,H,rfl,
  I1.kept (t':=tk) fun b o e=>Qj _ e,Zj5 _ lo (hi-lo).toNat,?_,fun b hb=>?_,q⟩
 ·have e1:lo+((0:Nat):Int)*1=lo:=by simp
  have e2:(((hi-lo).toNat:Nat):Int)-((0:Nat):Int)=Builtin.Range.rangeSize lo hi 1:=by rw[rangeSize_one];split<;>omega
  show IsRangeIter _ _ (lo+((0:Nat):Int)*1) ((((hi-lo).toNat:Nat):Int)-((0:Nat):Int)) 1
  rw[e1,e2]
  exact QD _ rfl
 ·have e:b=(s.heap.push { cls:=.type "range",data:=.fields #[.int lo t,.int hi u,.int 1 v] }).objs.size:=by simpa using hb
  subst e
  exact I1.fpOk (Qg _) (I1.hok.fresh (Qg _))
noncomputable def ZsA(ta:TA):TI:=fun σ H R=>ta σ H fun vs H1=>∃j:Int,vs=[.int j] ∧ -(2 ^ 62)≤j∧j<2 ^ 62∧R (Itr 0 j.toNat) H1
noncomputable def Zr8(ta:TA):TI:=fun σ H R=>ta σ H fun vs H1=>∃i j:Int,vs=[.int i,.int j]∧(-(2 ^ 62)≤i∧i<2 ^ 62 ∧ -(2 ^ 62)≤j∧j<2 ^ 62)∧R (Itr i (j-i).toNat) H1
theorem Zbu{a:Expr}{ta:TA}{p pos:Pos}(hg:Gl X "range")(hm:X.mg "range" = none)(ha:PA X [a] ta)(hs:starEach [a] X.env=[(false,eval a X.env)]:=by rfl):PI X tg (.Call (.Name "range" p) [a] [] pos) (ZsA ta):=by
 intro pins s σ H R I h
 refine Call_ (Zfm I hg hm boot_range (Qal (thn (ha pos pins s σ H _ I h) ?_) hs rfl))
 rintro us s1 ⟨vs,H1,I1,r1,q1⟩
 obtain⟨j,e,q1,q2,q⟩:=q1
 subst e
 cases r1 with
 | cons r rr =>
  cases rr
  obtain⟨t,rfl⟩:=r
  exact call_range_1 (ZiO I1 (by omega) (by omega) q1 q2 (by simpa using q))
theorem Zc8{a b:Expr}{ta:TA}{p pos:Pos}(hg:Gl X "range")(hm:X.mg "range" = none)(ha:PA X [a,b] ta)(hs:starEach [a,b] X.env=[(false,eval a X.env),(false,eval b X.env)]:=by rfl)(hs2:starEach [b] X.env=[(false,eval b X.env)]:=by rfl) :
  PI X tg (.Call (.Name "range" p) [a,b] [] pos) (Zr8 ta):=by
 intro pins s σ H R I h
 refine Call_ (Zfm I hg hm boot_range (Qal (thn (ha pos pins s σ H _ I h) ?_) (by rw[hs,hs2]) (by rw[hs2];rfl)))
 rintro us s1 ⟨vs,H1,I1,r1,q1⟩
 obtain⟨i,j,e,⟨q1,q2,q3,q4⟩,q⟩:=q1
 subst e
 cases r1 with
 | cons r rr =>
  cases rr with
  | cons r' rr =>
   cases rr
   obtain⟨t,rfl⟩:=r
   obtain⟨t',rfl⟩:=r'
   exact call_range_2 (ZiO I1 q1 q2 q3 q4 q)
noncomputable def Ztf(wi:TI)(g:TG)(tb:TS):TS:=fun D σ H=>wi σ H fun J H1=>∃W:Nat→Nat→St→Hp→Prop,(∃m,W 0 m σ H1)∧∀i m σ H,W i m σ H →
 (J.stop i H∧D.nx σ H)∨(J.go i H∧∃N:St→Hp→Prop,(∀σ' H',N σ' H'→∃m',m'<m∧W (i+1) m' σ' H')∧∀x H',J.yld i H x H'→g x σ H' fun σ2 H2=>tb { D with nx:=N,ct:=N,bk:=D.nx } σ2 H2)
noncomputable def Zf1(fp:List Addr)(h:Heap):List (Addr×Obj):=fp.filterMap fun b=>(h.get? b).map fun o=>(b,o)
theorem Zdf{fp:List Addr}{h:Heap}{b:Addr}{o:Obj}(hb:b∈fp)(e:h.get? b=some o):(b,o)∈Zf1 fp h:=List.mem_filterMap.mpr ⟨b,hb,by rw[e];rfl⟩
theorem Zms{fp:List Addr}{h:Heap}{p:Addr×Obj}(hp:p∈Zf1 fp h):p.1∈fp∧h.get? p.1=some p.2:=by
 obtain⟨b,hb,e⟩:=List.mem_filterMap.mp hp
 cases q:h.get? b with
 | none=>rw[q]at e;cases e
 | some o =>
  rw[q]at e
  have e':(b,o)=p:=Qr e
  subst e'
  exact⟨hb,q⟩
theorem Inv.pinned{pins:List (Addr×Obj)}{σ:St}{H:Hp}{s:Shared}{fp:List Addr}(I:Inv X pins σ H s)(hf:∀b∈fp,ZfW X pins H b)(ho:∀b∈fp,∃o,s.heap.get? b=some o∧∀v,o.data≠.cell v):Inv X (pins++Zf1 fp s.heap) σ H s :=
 I.pins_of fun p hp=>(Qh.mp hp).elim (fun z=>I.pin p (Qn _ z)) fun z=>by
  obtain⟨hb,e⟩:=Zms z
  obtain⟨f0,f1,f2,_⟩:=hf p.1 hb
  obtain⟨o,e',d⟩:=ho p.1 hb
  rw[e]at e';cases e'
  exact⟨e,f0,f1,f2,d⟩
theorem Inv.unpinned{pins pl:List (Addr×Obj)}{σ:St}{H:Hp}{s:Shared}(I:Inv X (pins++pl) σ H s):Inv X pins σ H s:=I.pins_of fun p hp=>I.pin p (Qn _ (Qs _ hp))
theorem Zbt{iter:Expr}{body:List Stmt}{wi:TI}{g:TG}{tb:TS}{pos:Pos}(hp:PassesOwn (model X.prog X.w) X.A X.env X.xe)(hc:X.calm=true)(hi:PI X tg iter wi)(hg:PG X tg g)(hb:PSs X body tb)
  (hs:∀x,foldedSetIterable iter X.env x=pure x:=by intro _;rfl):PS X (.For tg iter body [] pos) (Ztf wi g tb):=by
 intro pins s σ H D I h
 refine wpAny_For (thn (hi pins s σ H _ I h) fun v s1 h1=>thn h1 fun itv s2 h2=>?_) hs
 obtain⟨it,fp,tn,J,H2,e,I2,T,st2,f2,W,⟨m0,w0⟩,turn⟩:=h2
 subst e
 have stat:∀ {H':Hp},(∀b∈fp,H' b=none)→∀b∈fp,ZfW X pins H' b:=fun hn b hb=>⟨hn b hb,(f2 b hb).2⟩
 refine codeAny_forLoop_any (fun n s'=>∃i σ' H',Inv X pins σ' H' s'∧tn i s'.heap∧(∀b∈fp,H' b=none)∧W i n σ' H') ?_ m0 ⟨0,σ,H2,I2,st2,fun b hb=>(f2 b hb).1,w0⟩
 rintro n s3 ⟨i,σ3,H3,I3,st3,fr3,w3⟩
 rcases turn i n σ3 H3 w3 with⟨stop,qn⟩|⟨go,N,hN,step⟩
 ·refine wpAny_passesOwn hp (thn (T.done X rfl rfl rfl hc i pins s3 σ3 H3 X.xe I3 (stat fr3) st3 stop) ?_)
  rintro r s4 ⟨hr,I4⟩
  subst hr
  exact wpAny_execs_nil ⟨σ3,H3,I4,qn⟩
 ·refine wpAny_passesOwn hp (thn (T.item X rfl rfl rfl hc i pins s3 σ3 H3 X.xe I3 (stat fr3) st3 go) ?_)
  rintro r s4 ⟨u,hr,h4⟩
  subst hr
  refine wpAny_passesOwn hp (thn h4 ?_)
  rintro _ s5 ⟨x,H5,I5,r5,y5,st5,fr5⟩
  have I5':=I5.pinned (stat fr5) (T.obj _ _ st5)
  refine wpAny_passesOwn hp (thn (hg _ s5 σ3 H5 x u _ I5' r5 (step x H5 y5)) ?_)
  rintro _ s6 ⟨σ6,H6,I6,q6⟩
  refine wpAny_passesOwn hp (thn (hb _ s6 σ6 H6 _ I6 q6) fun f s7 q7=>?_)
  have again:∀ {σ7:St} {H7:Hp},Inv X (pins++Zf1 fp s5.heap) σ7 H7 s7→N σ7 H7→∃m,m<n∧∃i σ' H',Inv X pins σ' H' s7∧tn i s7.heap∧(∀b∈fp,H' b=none)∧W i m σ' H':=fun {σ7 H7} I7 n7=>by
   obtain⟨m',hm,w7⟩:=hN σ7 H7 n7
   refine⟨m',hm,i+1,σ7,H7,I7.unpinned,T.keep _ _ _ st5 fun b hb o e=>(I7.pin (b,o) (Qn _ (Qn _ (Zdf hb e)))).1,fun b hb=>?_,w7⟩
   obtain⟨o,e,d⟩:=T.obj _ _ st5 b hb
   exact(I7.pin (b,o) (Qn _ (Qn _ (Zdf hb e)))).2.1
  cases f with
  | next=>obtain⟨σ7,H7,I7,n7⟩:=q7;exact again I7 n7
  | cont=>obtain⟨σ7,H7,I7,n7⟩:=q7;exact again I7 n7
  | brk=>obtain⟨σ7,H7,I7,q7⟩:=q7;exact⟨σ7,H7,I7.unpinned,q7⟩
  | ret v=>obtain⟨x7,σ7,H7,I7,r7,q7⟩:=q7;exact⟨x7,σ7,H7,I7.unpinned,r7,q7⟩
end
theorem Zgt{K:PySem.W.Frag}{a:Addr}{xs:List V}{g:TG}{tb:TS}{D:Zfh}{σ:St}{H:Hp}(Pv:Nat→St→Hp→Prop)(h0:Pv 0 σ H)(hl:∀i σ H,i≤xs.length→Pv i σ H→SqL K H a xs)
  (hs:∀i x σ H,xs[i]? = some x→Pv i σ H→g x σ H fun σ2 H2=>tb { D with nx:=Pv (i+1),ct:=Pv (i+1),bk:=D.nx } σ2 H2) (hd:∀σ H,Pv xs.length σ H→D.nx σ H) :
  ∃W:Nat→Nat→St→Hp→Prop,(∃m,W 0 m σ H)∧∀i m σ H,W i m σ H →
   ((Itl K a).stop i H∧D.nx σ H)∨((Itl K a).go i H∧∃N:St→Hp→Prop,(∀σ' H',N σ' H'→∃m',m'<m∧W (i+1) m' σ' H')∧∀x H',(Itl K a).yld i H x H'→g x σ H' fun σ2 H2=>tb { D with nx:=N,ct:=N,bk:=D.nx } σ2 H2):=by
 refine⟨fun i m σ H=>m=xs.length-i∧i≤xs.length∧Pv i σ H,⟨xs.length,by simp,Qv _,h0⟩,?_⟩
 rintro i m σ H ⟨rfl,hi,p⟩
 have q:=hl i σ H hi p
 by_cases hlt:i<xs.length
 ·refine .inr ⟨⟨xs,xs[i],q,by simp[hlt]⟩,Pv (i+1),fun σ' H' p'=>⟨xs.length-(i+1),by omega,rfl,hlt,p'⟩,fun x H' y=>?_⟩
  obtain⟨e,y⟩:=y
  subst e
  exact hs i x σ _ (y xs q) p
 ·have e:i=xs.length:=by omega
  subst e
  exact .inl ⟨⟨xs,q,Qg _⟩,hd σ H p⟩
theorem ZoZ{K:PySem.W.Frag}{a:Addr}{xs:List V}{g:TG}{tb:TS}{D:Zfh}{σ:St}{H:Hp}(Pv:Nat→St→Hp→Prop)(h0:Pv 0 σ H)(hl:∀i σ H,i≤xs.length→Pv i σ H→SqT K H a xs)
  (hs:∀i x σ H,xs[i]? = some x→Pv i σ H→g x σ H fun σ2 H2=>tb { D with nx:=Pv (i+1),ct:=Pv (i+1),bk:=D.nx } σ2 H2) (hd:∀σ H,Pv xs.length σ H→D.nx σ H) :
  ∃W:Nat→Nat→St→Hp→Prop,(∃m,W 0 m σ H)∧∀i m σ H,W i m σ H →
   ((Itt K a).stop i H∧D.nx σ H)∨((Itt K a).go i H∧∃N:St→Hp→Prop,(∀σ' H',N σ' H'→∃m',m'<m∧W (i+1) m' σ' H')∧∀x H',(Itt K a).yld i H x H'→g x σ H' fun σ2 H2=>tb { D with nx:=N,ct:=N,bk:=D.nx } σ2 H2):=by
 refine⟨fun i m σ H=>m=xs.length-i∧i≤xs.length∧Pv i σ H,⟨xs.length,by simp,Qv _,h0⟩,?_⟩
 rintro i m σ H ⟨rfl,hi,p⟩
 have q:=hl i σ H hi p
 by_cases hlt:i<xs.length
 ·refine .inr ⟨⟨xs,xs[i],q,by simp[hlt]⟩,Pv (i+1),fun σ' H' p'=>⟨xs.length-(i+1),by omega,rfl,hlt,p'⟩,fun x H' y=>?_⟩
  obtain⟨e,y⟩:=y
  subst e
  exact hs i x σ _ (y xs q) p
 ·have e:i=xs.length:=by omega
  subst e
  exact .inl ⟨⟨xs,q,Qg _⟩,hd σ H p⟩
theorem Zbb{lo:Int}{n:Nat}{g:TG}{tb:TS}{D:Zfh}{σ:St}{H:Hp}(Pv:Nat→St→Hp→Prop)(h0:Pv 0 σ H)
  (hs:∀i σ H,i<n→Pv i σ H→g (.int (lo+i)) σ H fun σ2 H2=>tb { D with nx:=Pv (i+1),ct:=Pv (i+1),bk:=D.nx } σ2 H2) (hd:∀σ H,Pv n σ H→D.nx σ H) :
  ∃W:Nat→Nat→St→Hp→Prop,(∃m,W 0 m σ H)∧∀i m σ H,W i m σ H →
   ((Itr lo n).stop i H∧D.nx σ H)∨((Itr lo n).go i H∧∃N:St→Hp→Prop,(∀σ' H',N σ' H'→∃m',m'<m∧W (i+1) m' σ' H')∧∀x H',(Itr lo n).yld i H x H'→g x σ H' fun σ2 H2=>tb { D with nx:=N,ct:=N,bk:=D.nx } σ2 H2):=by
 refine⟨fun i m σ H=>m=n-i∧i≤n∧Pv i σ H,⟨n,by simp,Qv _,h0⟩,?_⟩
 rintro i m σ H ⟨rfl,hi,p⟩
 by_cases hlt:i<n
 ·refine .inr ⟨hlt,Pv (i+1),fun σ' H' p'=>⟨n-(i+1),by omega,rfl,hlt,p'⟩,fun x H' y=>?_⟩
  obtain⟨e,y⟩:=y
  subst e y
  exact hs i σ _ hlt p
 ·have e:i=n:=by omega
  subst e
  exact .inl ⟨Qg _,hd σ H p⟩
noncomputable abbrev R2:=V→V→Hp→VK→Prop
noncomputable def OpR(X:Cx)(f:Value→Value→Sem Value)(r:R2):Prop :=
 ∀ (pins:List (Addr×Obj)) (s:Shared) (σ:St) (H:Hp) (x y:V) (v u:Value) (Q:VK),Inv X pins σ H s→ZG x v→ZG y u→r x y H Q →
  wpAny (model X.prog X.w) X.A (f v u) (EP X pins σ Q) X.xe s
noncomputable def UnR(X:Cx)(f:Value→Sem Value)(r:V→Hp→VK→Prop):Prop :=
 ∀ (pins:List (Addr×Obj)) (s:Shared) (σ:St) (H:Hp) (x:V) (v:Value) (Q:VK),Inv X pins σ H s→ZG x v→r x H Q →
  wpAny (model X.prog X.w) X.A (f v) (EP X pins σ Q) X.xe s
noncomputable def Zae(X:Cx)(f:Value)(r:List V→Hp→VK→Prop):Prop :=
 ∀ (pins:List (Addr×Obj)) (s:Shared) (σ:St) (H:Hp) (xs:List V) (us:List Value) (Q:VK),Inv X pins σ H s→Zw xs us→r xs H Q →
  wpAny (model X.prog X.w) X.A (call f us) (EP X pins σ Q) X.xe s
noncomputable def tOp(r:R2)(ta tb:TE):TE:=fun σ H Q=>ta σ H fun x H1=>tb σ H1 fun y H2=>r x y H2 Q
noncomputable def tUn(r:V→Hp→VK→Prop)(ta:TE):TE:=fun σ H Q=>ta σ H fun x H1=>r x H1 Q
noncomputable def rI(C:Int→Int→Prop)(g:Int→Int→V):R2:=fun x y H Q=>∃i j,x=.int i∧y=.int j∧C i j∧Q (g i j) H
noncomputable def rI0(g:Int→Int→V):R2:=fun x y H Q=>∃i j,x=.int i∧y=.int j∧Q (g i j) H
noncomputable def rU(g:Int→V):V→Hp→VK→Prop:=fun x H Q=>∃i,x=.int i∧Q (g i) H
section
variable {X:Cx} {a b c:Expr} {ta tb tc:TE} {pos:Pos}
theorem ZqV(ha:PE X a ta)(hb:PE X b tb){pins:List (Addr×Obj)}{s:Shared}{σ:St}{H:Hp}{R:V→V→Hp→Prop}(I:Inv X pins σ H s)
  (h:ta σ H fun x H1=>tb σ H1 fun y H2=>R x y H2) {Q:Value→Shared→Prop} {f:Value→Value→Sem Value}
  (hf:∀v u s2 x y H2,Inv X pins σ H2 s2→ZG x v→ZG y u→R x y H2→wpAny (model X.prog X.w) X.A (f v u) Q X.xe s2) :
  wpAny (model X.prog X.w) X.A (eval a X.env) (fun v s₁=>wpAny (model X.prog X.w) X.A (eval b X.env) (fun u s₂=>wpAny (model X.prog X.w) X.A (f v u) Q X.xe s₂) X.xe s₁) X.xe s:=by
 refine thn (ha pins s σ H _ I h) ?_
 rintro v s1 ⟨x,H1,I1,r1,q1⟩
 refine thn (hb pins s1 σ H1 _ I1 q1) ?_
 rintro u s2 ⟨y,H2,I2,r2,q2⟩
 exact hf v u s2 x y H2 I2 r1 r2 q2
theorem ZF{op:Operator}{r:R2}(ho:OpR X (binaryOp op) r)(ha:PE X a ta)(hb:PE X b tb):PE X (.BinOp a op b pos) (tOp r ta tb):=by
 intro pins s σ H Q I h
 exact wpAny_BinOp (ZqV ha hb I h fun v u s2 x y H2 I2 rx ry q=>ho pins s2 σ H2 x y v u Q I2 rx ry q)
theorem ZhS{op:UnaryOp}{r:V→Hp→VK→Prop}(ho:UnR X (unaryOp op) r)(ha:PE X a ta):PE X (.UnaryOp op a pos) (tUn r ta):=by
 intro pins s σ H Q I h
 exact UnaryOp_ (thn (ha pins s σ H _ I h) fun v s1 ⟨x,H1,I1,r1,q1⟩=>ho pins s1 σ H1 x v Q I1 r1 q1)
theorem opI{f:Value→Value→Sem Value}{C:Int→Int→Prop}{g:Int→Int→Int}
  (rule:∀ (i j:Int) (t u:Tok) (s:Shared) (Q:Value→Shared→Prop) (E:Value→Shared→Prop),C i j→Q (.int (g i j) s.toks) { s with toks:=s.toks+1 }→wpAny (model X.prog X.w) X.A (f (.int i t) (.int j u)) Q E s) :
  OpR X f (rI C fun i j=>.int (g i j)):=by
 intro pins s σ H x y v u Q I rx ry h
 obtain⟨i,j,rfl,rfl,hc,q⟩:=h
 obtain⟨t,rfl⟩:=rx
 obtain⟨t',rfl⟩:=ry
 exact rule i j t t' s _ _ hc ⟨.int (g i j),H,I.tok _,⟨_,rfl⟩,q⟩
theorem ZsO{f:Value→Value→Sem Value}{g:Int→Int→Int}
  (rule:∀ (i j:Int) (t u:Tok) (s:Shared) (Q:Value→Shared→Prop) (E:Value→Shared→Prop),Q (.int (g i j) s.toks) { s with toks:=s.toks+1 }→wpAny (model X.prog X.w) X.A (f (.int i t) (.int j u)) Q E s) :
  OpR X f (rI0 fun i j=>.int (g i j)):=by
 intro pins s σ H x y v u Q I rx ry h
 obtain⟨i,j,rfl,rfl,q⟩:=h
 obtain⟨t,rfl⟩:=rx
 obtain⟨t',rfl⟩:=ry
 exact rule i j t t' s _ _ ⟨.int (g i j),H,I.tok _,⟨_,rfl⟩,q⟩
theorem Zqe{f:Value→Value→Sem Value}{g:Int→Int→Bool}
  (rule:∀ (i j:Int) (t u:Tok) (s:Shared) (Q:Value→Shared→Prop) (E:Value→Shared→Prop),Q (.bool (g i j)) s→wpAny (model X.prog X.w) X.A (f (.int i t) (.int j u)) Q E s) :
  OpR X f (rI0 fun i j=>.bl (g i j)):=by
 intro pins s σ H x y v u Q I rx ry h
 obtain⟨i,j,rfl,rfl,q⟩:=h
 obtain⟨t,rfl⟩:=rx
 obtain⟨t',rfl⟩:=ry
 exact rule i j t t' s _ _ ⟨.bl (g i j),H,I,rfl,q⟩
noncomputable def Ztr(i j:Int):Prop:=0<j∧j<1073741824
noncomputable def Zsw(i j:Int):Prop:=0≤j∧j≤1000000∧i.natAbs<2 ^ 64
noncomputable def Zra(i j:Int):Prop:=(-(2 ^ 64)<i∧i<2 ^ 64)∨(-(2 ^ 64)<j∧j<2 ^ 64)
theorem Zra.ok{i j:Int}(h:Zra i j):IntMulOk i j:=by
 rcases h with⟨h1,h2⟩|⟨h1,h2⟩
 ·exact .of_left (intBits_le_64 h1 h2)
 ·exact .of_right (intBits_le_64 h1 h2)
theorem Zac:OpR X (binaryOp .Add) (rI0 fun i j=>.int (i+j)):=ZsO fun _ _ _ _ _ _ _ q=>add_int q
theorem Zby:OpR X (binaryOp .Sub) (rI0 fun i j=>.int (i-j)):=ZsO fun _ _ _ _ _ _ _ q=>sub_int q
theorem ZeB:OpR X (binaryOp .Mult) (rI Zra fun i j=>.int (i*j)):=opI fun _ _ _ _ _ _ _ hc q=>mul_int q hc.ok
theorem ZeK:OpR X (binaryOp .FloorDiv) (rI Ztr fun i j=>.int (i / j)):=opI fun i j _ _ _ _ _ hc q=>by
 have h1:(0:Int)<j:=hc.1
 have h2:j<1073741824:=hc.2
 exact floordiv_int (by omega) (by rw[Int.fdiv_eq_ediv_of_nonneg i (by omega)];exact q) (.inl (PyProof.noPylong_small (by omega)))
theorem Zgn:OpR X (binaryOp .Mod) (rI (fun _ j=>0<j) fun i j=>.int (i % j)):=opI fun i j _ _ _ _ _ hc q=>by
 have h1:(0:Int)<j:=hc
 exact mod_int' (by omega) (by rw[Int.fmod_eq_emod_of_nonneg i (by omega)];exact q)
theorem ZrS:OpR X (binaryOp .Pow) (rI Zsw fun i j=>.int (i ^ j.toNat)):=opI fun _ _ _ _ _ _ _ hc q=>pow_int_small hc.1 hc.2.1 hc.2.2 q
theorem unI{f:Value→Sem Value}{g:Int→Int}
  (rule:∀ (i:Int) (t:Tok) (s:Shared) (Q:Value→Shared→Prop) (E:Value→Shared→Prop),Q (.int (g i) s.toks) { s with toks:=s.toks+1 }→wpAny (model X.prog X.w) X.A (f (.int i t)) Q E s) :
  UnR X f (rU fun i=>.int (g i)):=by
 intro pins s σ H x v Q I rx h
 obtain⟨i,rfl,q⟩:=h
 obtain⟨t,rfl⟩:=rx
 exact rule i t s _ _ ⟨.int (g i),H,I.tok _,⟨_,rfl⟩,q⟩
theorem Ze2:UnR X (unaryOp .USub) (rU fun i=>.int (-i)):=unI fun _ _ _ _ _ q=>neg_int q
end
noncomputable def ZsZ:V→V→Bool
 | .non,.non=>true|.non,.int _=>true|.int _,.non=>true|.non,.bl _=>true|.bl _,.non=>true|.non,.str _=>true|.str _,.non=>true
 | .int _,.int _=>true|.bl _,.bl _=>true|.str _,.str _=>true|.byt _,.byt _=>true
 | .int _,.str _=>true|.str _,.int _=>true|.bl _,.str _=>true|.str _,.bl _=>true
 | _,_=>false
noncomputable def rEq:R2:=fun x y H Q=>ZsZ x y=true∧Q (.bl (decide (x=y))) H
theorem Zph{i j:Int}:decide (V.int i=V.int j)=(i == j):=by
 rw[QaN]
 simp
theorem ZqT{i j:Bool}:decide (V.bl i=V.bl j)=(i == j):=by
 rw[QaN]
 simp
theorem Zpz{i j:Str}:decide (V.str i=V.str j)=(i == j):=by
 rw[QaN]
 simp
theorem ZoU{i j:Array UInt8}:decide (V.byt i=V.byt j)=(i.toList == j.toList):=by
 rw[QaN]
 cases i
 cases j
 simp
section
variable {X:Cx} {a b c:Expr} {ta tb tc:TE} {pos:Pos}
theorem ZaV{pins:List (Addr×Obj)}{σ:St}{H:Hp}{s:Shared}{Q:VK}{k k':Bool}(I:Inv X pins σ H s)(q:Q (.bl k) H)(e:k=k'):EP X pins σ Q (.bool k') s:=by
 subst e
 exact⟨.bl k,H,I,rfl,q⟩
theorem Zbf:OpR X (compareOp .Eq) rEq:=by
 intro pins s σ H x y v u Q I rx ry h
 obtain⟨hs,q⟩:=h
 cases x with
 | non =>
  cases rx
  cases y with
  | non=>cases ry;exact PySem.EqNone.eq_none_none (ZaV I q (by simp))
  | bl j=>cases ry;exact PySem.EqNone.eq_none_bool (ZaV I q (by simp))
  | int j=>obtain⟨t',rfl⟩:=ry;exact PySem.EqNone.eq_none_int (ZaV I q (by simp))
  | str j=>obtain⟨t',rfl⟩:=ry;exact PySem.EqNone.eq_none_str (ZaV I q (by simp))
  | _=>exact absurd (show false=true from hs) QC
 | bl i =>
  cases rx
  cases y with
  | non=>cases ry;exact PySem.EqNone.eq_bool_none (ZaV I q (by simp))
  | bl j=>cases ry;exact eq_bool (ZaV I q ZqT)
  | str j=>obtain⟨t',rfl⟩:=ry;exact PySem.EqMixed.eq_bool_str (ZaV I q (by simp))
  | _=>exact absurd (show false=true from hs) QC
 | int i =>
  obtain⟨t,rfl⟩:=rx
  cases y with
  | non=>cases ry;exact PySem.EqNone.eq_int_none (ZaV I q (by simp))
  | int j=>obtain⟨t',rfl⟩:=ry;exact eq_int (ZaV I q Zph)
  | str j=>obtain⟨t',rfl⟩:=ry;exact PySem.EqMixed.eq_int_str (ZaV I q (by simp))
  | _=>exact absurd (show false=true from hs) QC
 | str i =>
  obtain⟨t,rfl⟩:=rx
  cases y with
  | non=>cases ry;exact PySem.EqNone.eq_str_none (ZaV I q (by simp))
  | bl j=>cases ry;exact PySem.EqMixed.eq_str_bool (ZaV I q (by simp))
  | int j=>obtain⟨t',rfl⟩:=ry;exact PySem.EqMixed.eq_str_int (ZaV I q (by simp))
  | str j=>obtain⟨t',rfl⟩:=ry;exact eq_str (ZaV I q Zpz)
  | _=>exact absurd (show false=true from hs) QC
 | byt i =>
  obtain⟨t,rfl⟩:=rx
  cases y with
  | byt j=>obtain⟨t',rfl⟩:=ry;exact PySem.W.eq_bytes (ZaV I q ZoU)
  | _=>exact absurd (show false=true from hs) QC
 | _=>cases y<;>exact absurd (show false=true from hs) QC
theorem Zdq:OpR X (compareOp .Lt) (rI0 fun i j=>.bl (decide (i<j))):=Zqe fun _ _ _ _ _ _ _ q=>lt_int q
theorem ZsH:OpR X (compareOp .LtE) (rI0 fun i j=>.bl (decide (i≤j))):=Zqe fun _ _ _ _ _ _ _ q=>le_int q
theorem ZfE:OpR X (compareOp .Gt) (rI0 fun i j=>.bl (decide (j<i))):=Zqe fun _ _ _ _ _ _ _ q=>gt_int q
theorem Znc:OpR X (compareOp .GtE) (rI0 fun i j=>.bl (decide (j≤i))):=Zqe fun _ _ _ _ _ _ _ q=>ge_int q
theorem Zmf:OpR X (compareOp .Lt) (fun x y H Q=>∃i j,x=.str i∧y=.str j∧Q (.bl (decide (i.cps.toList<j.cps.toList))) H):=by
 intro pins s σ H x y v u Q I rx ry h
 obtain⟨i,j,rfl,rfl,q⟩:=h
 obtain⟨t,rfl⟩:=rx
 obtain⟨t',rfl⟩:=ry
 exact lt_str (ZaV I q rfl)
theorem ZdK:OpR X (compareOp .Is) (fun x y H Q=>y=.non∧Q (.bl (decide (x=.non))) H):=by
 intro pins s σ H x y v u Q I rx ry h
 obtain⟨rfl,q⟩:=h
 cases ry
 refine is_none_gen (ZaV I q ?_)
 cases x<;>first
  | (cases rx;rfl)
  | (obtain⟨t,rfl⟩:=rx;rfl)
theorem Zif:OpR X (compareOp .IsNot) (fun x y H Q=>y=.non∧Q (.bl (!decide (x=.non))) H):=by
 intro pins s σ H x y v u Q I rx ry h
 obtain⟨rfl,q⟩:=h
 cases ry
 refine isnot_none_gen (ZaV I q ?_)
 cases x<;>first
  | (cases rx;rfl)
  | (obtain⟨t,rfl⟩:=rx;rfl)
theorem Zs(b:Expr){op:CmpOp}(h:op≠.In:=by decide)(h2:op≠.NotIn:=by decide):behindInMarks op b=false:=by
 have e1:(op == CmpOp.In)=false:=by cases op<;>first|rfl|exact absurd rfl h
 have e2:(op == CmpOp.NotIn)=false:=by cases op<;>first|rfl|exact absurd rfl h2
 cases b<;>simp[behindInMarks,e1,e2]
theorem ZeU{op:CmpOp}{r:R2}(ho:OpR X (compareOp op) r)(ha:PE X a ta)(hb:PE X b tb)(hm:behindInMarks op b=false):PE X (.Compare a [op] [b] pos) (tOp r ta tb):=by
 intro pins s σ H Q I h
 exact wpAny_Compare1 (ZqV ha hb I h fun v u s2 x y H2 I2 rx ry q=>ho pins s2 σ H2 x y v u Q I2 rx ry q) hm
noncomputable def ZsF(t:TE):TT:=fun σ H Q=>t σ H fun x H'=>∃k,x=.bl k∧Q k H'
theorem Zn{op:CmpOp}{r:R2}(ho:OpR X (compareOp op) r)(ha:PE X a ta)(hb:PE X b tb)(hm:behindInMarks op b=false):PT X (.Compare a [op] [b] pos) (ZsF (tOp r ta tb)):=by
 intro pins s σ H Q I h
 refine wpAny_isTrue_Compare1 (thn (ha pins s σ H _ I h) fun v s1 ⟨x,H1,I1,r1,q1⟩=>thn (hb pins s1 σ H1 _ I1 q1) fun u s2 ⟨y,H2,I2,r2,q2⟩=>
  thn (ho pins s2 σ H2 x y v u _ I2 r1 r2 q2) fun c s3 ⟨z,H3,I3,r3,k,e,q3⟩=>?_) hm
 subst e
 cases r3
 exact wpAny_truthy_bool ⟨H3,I3,q3⟩
noncomputable def Zrp(r r':R2)(ta tb tc:TE):TE:=fun σ H Q=>ta σ H fun x H1=>tb σ H1 fun y H2=>r x y H2 fun z H3=>∃k,z=.bl k ∧
 (if k=true then tc σ H3 fun w' H4=>r' y w' H4 Q else Q (.bl false) H3)
theorem Zns{op op':CmpOp}{r r':R2}(ho:OpR X (compareOp op) r)(ho':OpR X (compareOp op') r')(ha:PE X a ta)(hb:PE X b tb)(hc:PE X c tc)
  (hm:lastMarks [op,op'] [b,c]=false:=by with_unfolding_all rfl):PE X (.Compare a [op,op'] [b,c] pos) (Zrp r r' ta tb tc):=by
 intro pins s σ H Q I h
 refine Compare_chain (thn (ha pins s σ H _ I h) fun v s1 ⟨x,H1,I1,r1,q1⟩=>chain_link (thn (hb pins s1 σ H1 _ I1 q1) fun u s2 ⟨y,H2,I2,r2,q2⟩=>
  thn (ho pins s2 σ H2 x y v u _ I2 r1 r2 q2) fun d s3 ⟨z,H3,I3,r3,k,e,q3⟩=>?_)) hm
 subst e
 cases r3
 refine wpAny_truthy_bool ?_
 cases k with
 | false=>exact ite_ff ⟨.bl false,H3,I3,rfl,q3⟩
 | true=>exact ite_tt (chain_last (thn (hc pins s3 σ H3 _ I3 q3) fun w' s4 ⟨z',H4,I4,r4,q4⟩=>ho' pins s4 σ H4 y z' u w' Q I4 r2 r4 q4))
theorem Ze6:(sizeLine:Nat)<2 ^ 63:=by rw[sizeLine_eq];decide
theorem Zkt:OpR X (binaryOp .Add) (fun x y H Q=>∃i j,x=.str i∧y=.str j∧i.length+j.length≤sizeLine∧Q (.str (i++j)) H):=by
 intro pins s σ H x y v u Q I rx ry h
 obtain⟨i,j,rfl,rfl,hz,q⟩:=h
 obtain⟨t,rfl⟩:=rx
 obtain⟨t',rfl⟩:=ry
 exact add_str (fun t' tk=>⟨.str (i++j),H,I.tok _,⟨_,rfl⟩,q⟩) hz
theorem ZbJ{x:V}{us:List Value}(r:Zw [x] us):∃u,us=[u]∧ZG x u:=by
 cases r with
 | cons r1 r2=>cases r2;exact⟨_,rfl,r1⟩
theorem ZnN{x y:V}{us:List Value}(r:Zw [x,y] us):∃u w',us=[u,w']∧ZG x u∧ZG y w':=by
 cases r with
 | cons r1 r2 =>
  cases r2 with
  | cons r3 r4=>cases r4;exact⟨_,_,rfl,r1,r3⟩
theorem Zi2:Zae X (.builtin "abs") (fun xs H Q=>∃i,xs=[.int i]∧Q (.int (if i<0 then -i else i)) H):=by
 intro pins s σ H xs us Q I r h
 obtain⟨i,rfl,q⟩:=h
 obtain⟨u,rfl,t,rfl⟩:=ZbJ r
 exact call_abs_int fun u tk=>⟨.int (if i<0 then -i else i),H,I.tok _,⟨_,rfl⟩,q⟩
theorem Zhf(hc:X.calm=true):Zae X (.builtin "max") (fun xs H Q=>∃i j,xs=[.int i,.int j]∧Q (.int (if j>i then j else i)) H):=by
 intro pins s σ H xs us Q I r h
 obtain⟨i,j,rfl,q⟩:=h
 obtain⟨u,w',rfl,⟨t,rfl⟩,⟨t',rfl⟩⟩:=ZnN r
 refine max_two_ints (I.ok.hd hc) fun h' tk k=>⟨_,H,I.kept k,?_,q⟩
 by_cases hj:j>i
 ·rw[if_pos hj,if_pos hj];exact⟨_,rfl⟩
 ·rw[if_neg hj,if_neg hj];exact⟨_,rfl⟩
theorem Zeh(hc:X.calm=true):Zae X (.builtin "min") (fun xs H Q=>∃i j,xs=[.int i,.int j]∧Q (.int (if j<i then j else i)) H):=by
 intro pins s σ H xs us Q I r h
 obtain⟨i,j,rfl,q⟩:=h
 obtain⟨u,w',rfl,⟨t,rfl⟩,⟨t',rfl⟩⟩:=ZnN r
 refine min_two_ints (I.ok.hd hc) fun h' tk k=>⟨_,H,I.kept k,?_,q⟩
 by_cases hj:j<i
 ·rw[if_pos hj,if_pos hj];exact⟨_,rfl⟩
 ·rw[if_neg hj,if_neg hj];exact⟨_,rfl⟩
theorem ZhX:Zae X (.type "int") (fun xs H Q=>(∃i,xs=[.int i]∧Q (.int i) H)∨∃k,xs=[.bl k]∧Q (.int (if k then 1 else 0)) H):=by
 intro pins s σ H xs us Q I r h
 rcases h with⟨i,rfl,q⟩|⟨k,rfl,q⟩
 ·obtain⟨u,rfl,t,rfl⟩:=ZbJ r
  exact call_int_int ⟨.int i,H,I,⟨_,rfl⟩,q⟩
 ·obtain⟨u,rfl,r1⟩:=ZbJ r
  cases r1
  exact call_int_bool ⟨.int (if k then 1 else 0),H,I.tok _,⟨_,rfl⟩,q⟩
end
structure Zkl (h:Heap) (x dx C:Addr) (mA:Str→Option Value):Prop where
 obj:h.get? x=some (PySem.W.instObj C dx)
 ns:h.Ns1 dx mA
 ne:dx≠x
theorem ZlY{h:Heap}{dx:Addr}{mA:Str→Option Value}(n:h.Ns1 dx mA):∃od,h.get? dx=some od∧∀name,PySem.W.lookIn name od=some (mA name):=by
 obtain⟨o,es,ep,ho,hd,hk,_,hm⟩:=n
 refine⟨o,ho,fun name=>?_⟩
 have e:=hm name
 unfold nsFind findBy at e
 rw[← Array.find?_toList]at e
 unfold PySem.W.lookIn
 rw[hd]
 dsimp only
 split
 ·rename_i y q
  rw[q]at e
  exact congrArg some e
 ·rename_i q
  rw[q]at e
  have a:es.toList.any (·.refKey)=false:=by
   rw[List.any_eq_false]
   intro y hy
   obtain⟨z,t,hkey⟩:=hk y (Array.mem_toList_iff.mp hy)
   simp[DictEntry.refKey,hkey]
  have a':¬ es.toList.any (·.refKey)=true:=by rw[a];exact QC
  rw[if_neg a']
  exact congrArg some e
theorem Zkl.look{h:Heap}{x dx C:Addr}{mA:Str→Option Value}(I:Zkl h x dx C mA):∃od,PySem.W.InstAt h x (PySem.W.instObj C dx) C (some od)∧∀name,PySem.W.lookIn name od=some (mA name) :=
 let ⟨od,ho,hl⟩:=ZlY I.ns
 ⟨od,⟨I.obj,rfl,rfl,ho⟩,hl⟩
section
variable {prog:Program} {w:World} {A:Around} {E:Value→Shared→Prop} {s:Shared} {K:PySem.W.Frag} {x dx C f:Addr} {mA:Str→Option Value} {name:Str} {v:Value}
theorem Zp6{expr:Bool}{Q:Value→Shared→Prop}(X:K.In s.heap)(I:Zkl s.heap x dx C mA)(hg:PySem.W.plainGet K C name=true)(hh:PySem.W.hasDictIn K C=true)
  (ha:PySem.W.findIn K (.ref C) name=some none) (hv:mA name=some v) (hv':PySem.W.handedIn v=true) (h:Q v { s with toks:=s.toks+1 }) :
  wpAny (model prog w) A (getAttr (.ref x) name expr) Q E s:=by
 obtain⟨od,J,hl⟩:=I.look
 exact PySem.W.get_value X J (PySem.W.plainGet_of hg).1 (PySem.W.findObj_own hh ha rfl (by rw[hl,hv])) hv' h
theorem ZnA{pl:Sem Bool}{Q:Value×List Value→Shared→Prop}(X:K.In s.heap)(I:Zkl s.heap x dx C mA)(hg:PySem.W.plainGet K C name=true)
  (hf:PySem.W.findIn K (.ref C) name=some (some (.ref f))) (ht:PySem.W.isFn K (.ref f)=true) (hv:mA name=none) (h:Q (.ref f,[.ref x]) s) :
  wpAny (model prog w) A (getMethod (.ref x) name pl) Q E s:=by
 obtain⟨od,J,hl⟩:=I.look
 exact PySem.W.method_fn X J (PySem.W.plainGet_of hg).1 (PySem.W.plainGet_of hg).2 hf (beq_iff_eq.mp ht) (by show (PySem.W.lookIn name od).map (·.isSome)=some false;rw[hl,hv];rfl) h
theorem ZpL{ns:List Str}{Q:Unit→Shared→Prop}(X:K.In s.heap)(I:Zkl s.heap x dx C mA)
  (hs:PySem.W.findIn K (.ref C) "__setattr__" = some (some (.builtin "object.__setattr__"))) (hp:PySem.W.plainOver K C=true) (ht:PySem.W.takerIn K C name=some none) (hh:PySem.W.hasDictIn K C=true)
  (hw:PySem.Within mA ns) (hsz:ns.length≤sizeLine)
  (h:∀h',Zkl h' x dx C (fun y=>if y=name then some v else mA y)→Heap.SameBut dx s.heap h'→Q () { s with heap:=h',toks:=s.toks+2 }) :
  wpAny (model prog w) A (setAttr (.ref x) name v) Q E s:=by
 obtain⟨od,J,hl⟩:=I.look
 refine PySem.W.set_plain X J hs (PySem.W.osa_open (s:={ s with toks:=s.toks+1 }) (r:=none) X J hp ht fun b=>?_)
 obtain⟨cd,hc,hd'⟩:=PySem.W.any_some hh
 have hx:s.heap.get? x=some ⟨.ref C,some dx,.plain,#[]⟩:=I.obj
 refine wpAny_bind (wpAny_pure (wpAny_bind (wpAny_bind (wpAny_loadPart hx (wpAny_bind (PySem.W.Looks.here (s:={ s with toks:=s.toks+1 }) (PySem.W.looks_clsIn X hc) ?_))))))
 rw[hd']
 refine wpAny_pure (a:=some dx) (wpAny_bind (wpAny_pure (wpAny_bind ?_)))
 refine wpAny_nsSet1 (s:={ s with toks:=s.toks+1 }) I.ns fun h' hn2 hs2=>?_
 obtain⟨oD,esD,epD,hoD,hdD,hcD⟩:=hn2.count (PySem.Within.cons name v hw)
 refine wpAny_bind (wpAny_lookBehind hoD (by rw[hdD];exact pastItsLine_dict (QJ hcD (by rw[QE];omega))) ?_)
 exact wpAny_pure (h _ ⟨(hs2.2 _ (Ne.symm I.ne)).trans I.obj,hn2,I.ne⟩ hs2)
theorem ZnL{R:Result→Shared→Prop}{vs:List Value}{kw:List (Str×Value)}(X:K.In s.heap)(hm:PySem.W.makesIn K C=true)
  (hi:PySem.W.findIn K (.ref C) "__init__" = some (some (.ref f))) (hf:PySem.W.typeIn K (.ref f)=some (.type "function"))
  (h:codeAny (model prog w) (A.under (.builtin "type.__call__" ⟨.ref C::vs,kw⟩)) (.call (.ref f) ⟨.ref (s.heap.objs.size+1)::vs,kw⟩) (PySem.W.InitBack (s.heap.objs.size+1) R)
   { s with heap:=(s.heap.push PySem.W.emptyDict).push (PySem.W.instObj C s.heap.objs.size) }) :
  codeAny (model prog w) A (.call (.ref C) ⟨vs,kw⟩) R s:=by
 obtain⟨hh,g,d,t,os⟩:=s
 exact PySem.W.make_core (PySem.W.makes_of X hm) (PySem.W.looks_findIn X hi) (fun self=>PySem.W.bind_fn X self hf) (.inl rfl) h
end
noncomputable def Zr(f:Str)(v:V):List (Str×V)→List (Str×V)
 | []=>[(f,v)]
 | (g,x)::r=>if g=f then (g,v)::r else (g,x)::Zr f v r
theorem Zo(f g:Str)(v:V):∀fs:List (Str×V),(Zr f v fs).lookup g=if g=f then some v else fs.lookup g
 | []=>by
  show List.lookup g [(f,v)]=_
  by_cases h:g=f
  ·have hb:(g == f)=true:=beq_iff_eq.mpr h
   simp only[List.lookup,hb,if_pos h]
  ·have hb:(g == f)=false:=beq_eq_false_iff_ne.mpr h
   simp only[List.lookup,hb,if_neg h]
 | (k,x)::r=>by
  have ih:=Zo f g v r
  rw[show Zr f v ((k,x)::r)=(if k=f then (k,v)::r else (k,x)::Zr f v r) from rfl]
  by_cases hk:k=f
  ·rw[if_pos hk]
   by_cases h:g=k
   ·have hb:(g == k)=true:=beq_iff_eq.mpr h
    simp only[List.lookup,hb,if_pos (h.trans hk)]
   ·have hb:(g == k)=false:=beq_eq_false_iff_ne.mpr h
    simp only[List.lookup,hb,if_neg (fun e:g=f=>h (e.trans hk.symm))]
  ·rw[if_neg hk]
   by_cases h:g=k
   ·have hb:(g == k)=true:=beq_iff_eq.mpr h
    simp only[List.lookup,hb,if_neg (fun e:g=f=>hk (h.symm.trans e))]
   ·have hb:(g == k)=false:=beq_eq_false_iff_ne.mpr h
    simp only[List.lookup,hb]
    exact ih
theorem Ze4(f:Str)(v:V):∀fs:List (Str×V),f∈(Zr f v fs).map (·.1)∧∀g,g∈fs.map (·.1)→g∈(Zr f v fs).map (·.1)
 | []=>⟨by simp[Zr],fun g h=>by simp at h⟩
 | (k,x)::r=>by
  obtain⟨i1,i2⟩:=Ze4 f v r
  rw[show Zr f v ((k,x)::r)=(if k=f then (k,v)::r else (k,x)::Zr f v r) from rfl]
  by_cases hk:k=f
  ·rw[if_pos hk]
   subst hk
   exact⟨by simp,fun g h=>by simpa using h⟩
  ·rw[if_neg hk]
   refine⟨?_,fun g h=>?_⟩
   ·rw[Ql]
    exact Qu _ i1
   ·rw[Ql]at h ⊢
    rcases QK.mp h with e|e
    ·exact List.mem_cons.mpr (.inl e)
    ·exact Qu _ (i2 g e)
theorem Zfu(f:Str)(v:V):∀fs:List (Str×V),(Zr f v fs).length≤fs.length+1
 | []=>by simp[Zr]
 | (k,x)::r=>by
  have ih:=Zfu f v r
  rw[show Zr f v ((k,x)::r)=(if k=f then (k,v)::r else (k,x)::Zr f v r) from rfl]
  by_cases hk:k=f
  ·rw[if_pos hk,QE,QE];omega
  ·rw[if_neg hk,QE,QE];omega
theorem Zdu.some_of{v:V}{o:Option Value}(r:Zdu (some v) o):∃u,o=some u∧ZG v u:=by
 cases o with
 | none=>exact(show False from r).elim
 | some u=>exact⟨u,rfl,r⟩
theorem Zdu.none_of{o:Option Value}(r:Zdu none o):o=none:=by
 cases o with
 | none=>rfl
 | some u=>exact(show False from r).elim
theorem ZlA{v:V}{u:Value}(r:ZG v u):PySem.W.handedIn u=true:=by
 cases v with
 | non=>cases (show u=Value.none from r);rfl
 | bl b=>cases (show u=Value.bool b from r);rfl
 | int i=>obtain⟨t,e⟩:=(show ∃t,u=Value.int i t from r);cases e;rfl
 | str x=>obtain⟨t,e⟩:=(show ∃t,u=Value.str x t from r);cases e;rfl
 | byt b=>obtain⟨t,e⟩:=(show ∃t,u=Value.bytes b t from r);cases e;rfl
 | flt b=>obtain⟨t,e⟩:=(show ∃t,u=Value.float b t from r);cases e;rfl
 | ref a=>cases (show u=Value.ref a from r);rfl
 | ty n=>cases (show u=Value.type n from r);rfl
section
variable {P:Program} {w:World} {H H':Hp} {h h':Heap} {a C dx:Addr} {fs fs':List (Str×V)}
theorem ZfS(hok:HOk P w H h)(e:H a=some (.ins C dx fs)):∃mA,Zkl h a dx C mA∧(∀f,Zdu (fs.lookup f) (mA f))∧PySem.Within mA (fs.map (·.1))∧fs.length≤1000∧H dx=some (.own a):=by
 obtain⟨d,z,ne,ob,mA,n,r,q⟩:=(show Zap P w H h a (.ins C dx fs) from hok a _ e)
 exact⟨mA,⟨ob,n,ne⟩,r,q,z,d⟩
end
structure Cls (K:PySem.W.Frag) (C:Addr):Prop where
 pg:PySem.W.plainGet K C Str.empty=true
 hd:PySem.W.hasDictIn K C=true
 po:PySem.W.plainOver K C=true
 sa:PySem.W.findIn K (.ref C) "__setattr__" = some (some (.builtin "object.__setattr__"))
theorem Cls.get{K:PySem.W.Frag}{C:Addr}(c:Cls K C)(f:Str):PySem.W.plainGet K C f=true:=c.pg
noncomputable def Zbh(K:PySem.W.Frag)(C:Addr)(f:Str):Prop:=PySem.W.findIn K (.ref C) f=some none
theorem Zbh.taker{K:PySem.W.Frag}{C:Addr}{f:Str}(n:Zbh K C f):PySem.W.takerIn K C f=some none:=by
 unfold PySem.W.takerIn
 rw[show PySem.W.findIn K (.ref C) f=some none from n]
 rfl
structure Con (K:PySem.W.Frag) (C:Addr) (f:Str) (v:V) (u:Value):Prop where
 at_:PySem.W.findIn K (.ref C) f=some (some u)
 rel:ZG v u
 get:PySem.W.specialIn K u "__get__" = some none
 cp:PySem.W.copiedNames.contains f=false
structure Zoz (K:PySem.W.Frag) (C:Addr) (m:Str) (f:Addr):Prop where
 at_:PySem.W.findIn K (.ref C) m=some (some (.ref f))
 fn:PySem.W.isFn K (.ref f)=true
 kp:PySem.W.keepIn K (.ref f)=true
section
variable {X:Cx} {pins:List (Addr×Obj)} {σ:St} {H:Hp} {s:Shared} {a C dx:Addr} {fs:List (Str×V)} {f:Str} {v:V} {A:Around} {E:Value→Shared→Prop}
theorem Zgk{b:Bool}{Q:Value→Shared→Prop}(I:Inv X pins σ H s)(e:H a=some (.ins C dx fs))(c:Cls X.K C)(n:Zbh X.K C f)(l:fs.lookup f=some v)
  (h:∀u s',Inv X pins σ H s'→ZG v u→Q u s'):wpAny (model X.prog X.w) A (getAttr (.ref a) f b) Q E s:=by
 obtain⟨mA,O,r,_,_,_⟩:=ZfS I.hok e
 obtain⟨u,hu,ru⟩:=Zdu.some_of (v:=v) (o:=mA f) (by rw[← l];exact r f)
 exact Zp6 I.kIn O (c.get f) c.hd n hu (ZlA ru) (h u _ (I.tok _) ru)
theorem Zgg{m:Str}{g:Addr}{pl:Sem Bool}{Q:Value×List Value→Shared→Prop}(I:Inv X pins σ H s)(e:H a=some (.ins C dx fs))(c:Cls X.K C)(k:Zoz X.K C m g)(l:fs.lookup m=none)
  (h:Q (.ref g,[.ref a]) s):wpAny (model X.prog X.w) A (getMethod (.ref a) m pl) Q E s:=by
 obtain⟨mA,O,r,_,_,_⟩:=ZfS I.hok e
 have hn:mA m=none:=Zdu.none_of (by rw[← l];exact r m)
 exact ZnA I.kIn O (c.get m) k.at_ k.fn hn h
theorem ZgG{y:V}{u:Value}{Q:Unit→Shared→Prop}(I:Inv X pins σ H s)(e:H a=some (.ins C dx fs))(c:Cls X.K C)(n:Zbh X.K C f)(hl:fs.length<1000)(ry:ZG y u)
  (h:∀s',Inv X pins σ (upd H a (.ins C dx (Zr f y fs))) s'→Q () s'):wpAny (model X.prog X.w) A (setAttr (.ref a) f u) Q E s:=by
 obtain⟨mA,O,r,wi,_,ho⟩:=ZfS I.hok e
 have hz:(fs.map (·.1)).length≤sizeLine:=by rw[Qa,sizeLine_eq];omega
 refine ZpL I.kIn O c.sa c.po n.taker c.hd wi hz fun h' O' sb=>h _ ?_
 have hd:∃o,h'.get? dx=some o:=let ⟨o,_,_,e',_⟩:=O'.ns;⟨o,e'⟩
 refine I.write (x:=a) (e:=dx) (by rw[e];exact True.intro) (.inr ho) (fun b q hb z=>(sb.2 b hb).trans z) hd ?_
 refine⟨by rw[Ze O.ne];exact ho,?_,O.ne,O'.obj,_,O'.ns,fun g=>?_,fun g hg=>?_⟩
 ·have:=Zfu f y fs;omega
 ·show Zdu ((Zr f y fs).lookup g) (if g=f then some u else mA g)
  rw[Zo]
  by_cases q:g=f
  ·rw[if_pos q,if_pos q];exact ry
  ·rw[if_neg q,if_neg q];exact r g
 ·by_cases q:g=f
  ·rw[q];exact(Ze4 f y fs).1
  ·refine(Ze4 f y fs).2 g (wi g fun z=>hg ?_)
   show (if g=f then some u else mA g)=none
   rw[if_neg q];exact z
theorem Inv.made(I:Inv X pins σ H s):Inv X pins σ (upd (upd H s.heap.objs.size (.own (s.heap.objs.size+1))) (s.heap.objs.size+1) (.ins C s.heap.objs.size []))
  { s with heap:=(s.heap.push PySem.W.emptyDict).push (PySem.W.instObj C s.heap.objs.size) }:=by
 have e1:(s.heap.push PySem.W.emptyDict).get? s.heap.objs.size=some PySem.W.emptyDict:=QD s.heap rfl
 have e2:((s.heap.push PySem.W.emptyDict).push (PySem.W.instObj C s.heap.objs.size)).get? (s.heap.objs.size+1)=some (PySem.W.instObj C s.heap.objs.size):=by
  have:=QD (s.heap.push PySem.W.emptyDict) (o:=PySem.W.instObj C s.heap.objs.size) rfl
  rwa [QaA]at this
 have e3:(s.heap.push PySem.W.emptyDict).Ns s.heap.objs.size (fun _=>none):=⟨PySem.W.emptyDict,#[],_,e1,rfl,(fun e he=>absurd he (by simp)),fun _=>rfl⟩
 have I1:=I.laid (a:=s.heap.objs.size) (o:=.own (s.heap.objs.size+1)) (h':=s.heap.push PySem.W.emptyDict) (t':=s.toks) (fun b u q=>Qj _ q) (Qg _) ⟨_,e1⟩
 refine I1.laid (a:=s.heap.objs.size+1) (o:=.ins C s.heap.objs.size []) (t':=s.toks) (fun b u q=>Qj _ q) (Nat.le_of_eq (QaA _ _)) ?_
 have ne:s.heap.objs.size≠s.heap.objs.size+1:=QV (Nat.lt_succ_self _)
 refine⟨by rw[Ze ne,Zb],Qv _,ne,e2,fun _=>none,(Heap.Ns1.of_empty e3).at fun o q=>Qj _ q,fun _=>True.intro,fun y hy=>absurd rfl hy⟩
theorem ZpD{prog:Program}{w:World}{env:Env}{e:Expr}{f:Str}{pos:Pos}{s:Shared}{Q:Value→Shared→Prop}(hb:attributeBase e f env (eval e env)=eval e env)
  (h:wpAny (model prog w) A (eval e env) (fun o s₁=>wpAny (model prog w) A (getAttr o f true) Q E s₁) E s):wpAny (model prog w) A (eval (.Attribute e f pos) env) Q E s :=
 Attribute_any_ h (by rw[arm_eval_Attribute,hb])
end
noncomputable def Ztv(K:PySem.W.Frag)(ta:TE)(f:Str):TE:=fun σ H Q=>ta σ H fun x H1=>∃a C dx fs v,x=.ref a∧H1 a=some (.ins C dx fs)∧Cls K C∧Zbh K C f∧fs.lookup f=some v∧Q v H1
noncomputable def Zs0(K:PySem.W.Frag)(ta tv:TE)(f:Str):TS:=fun D σ H=>tv σ H fun y H1=>ta σ H1 fun x H2=>∃a C dx fs,x=.ref a∧H2 a=some (.ins C dx fs)∧Cls K C∧Zbh K C f∧fs.length<1000 ∧
 D.nx σ (upd H2 a (.ins C dx (Zr f y fs)))
noncomputable def ZsL(X:Cx)(op:Operator)(rd:V→V→Hp→VK→Prop):Prop :=
 ∀ (pins:List (Addr×Obj)) (s:Shared) (σ:St) (H:Hp) (x y:V) (u v:Value) (Q:VK),Inv X pins σ H s→ZG x u→ZG y v→rd x y H Q→wpAny (model X.prog X.w) X.A (inplaceOp op u v) (EP X pins σ Q) X.xe s
noncomputable def ZoW(K:PySem.W.Frag)(ta tv:TE)(rd:V→V→Hp→VK→Prop)(f:Str):TS:=fun D σ H=>ta σ H fun x H1=>∃a C dx fs v,x=.ref a∧H1 a=some (.ins C dx fs)∧Cls K C∧Zbh K C f∧fs.lookup f=some v ∧
 tv σ H1 fun y H2=>rd v y H2 fun z H3=>∃dx' fs',H3 a=some (.ins C dx' fs')∧fs'.length<1000∧D.nx σ (upd H3 a (.ins C dx' (Zr f z fs')))
section
variable {X:Cx} {o e value:Expr} {f:Str} {pos pos' tpos:Pos} {ta tv:TE}
theorem Zad(he:PE X e ta)(hb:attributeBase e f X.env (eval e X.env)=eval e X.env):PE X (.Attribute e f pos) (Ztv X.K ta f):=by
 intro pins s σ H Q I h
 refine ZpD hb (thn (he pins s σ H _ I h) ?_)
 rintro u s1 ⟨x,H1,I1,rx,a,C,dx,fs,v,ex,ea,c,n,l,q⟩
 subst ex
 obtain rfl:u=Value.ref a:=rx
 exact Zgk I1 ea c n l fun u' s2 I2 ru=>⟨v,H1,I2,ru,q⟩
theorem Zb6(ha:PE X o ta)(hv:PE X value tv)(hs:swapsWith value (some (.Attribute o f pos')) pos.line X.env=pure false):PS X (.Assign [.Attribute o f pos'] value pos) (Zs0 X.K ta tv f):=by
 intro pins s σ H D I h
 refine plainObj_wpAny_Assign_Attribute (thn (hv pins s σ H _ I h) fun u s1 ⟨y,H1,I1,ry,q⟩=>thn (ha pins s1 σ H1 _ I1 q) ?_) hs
 rintro ov s2 ⟨x,H2,I2,rx,a,C,dx,fs,ex,ea,c,n,l,q2⟩
 subst ex
 obtain rfl:ov=Value.ref a:=rx
 exact ZgG I2 ea c n l ry fun s3 I3=>⟨σ,_,I3,q2⟩
theorem Zd5{op:Operator}{rd:V→V→Hp→VK→Prop}(ha:PE X o ta)(hv:PE X value tv)(hop:ZsL X op rd):PS X (.AugAssign (.Attribute o f tpos) op value pos) (ZoW X.K ta tv rd f):=by
 intro pins s σ H D I h
 refine wpAny_AugAssign_AttributeAny (thn (ha pins s σ H _ I h) ?_)
 rintro ov s1 ⟨x,H1,I1,rx,a,C,dx,fs,v,ex,ea,c,n,l,q⟩
 subst ex
 obtain rfl:ov=Value.ref a:=rx
 refine Zgk I1 ea c n l fun u s2 I2 ru=>thn (hv pins s2 σ H1 _ I2 q) fun w3 s3 ⟨y,H2,I3,ry,q3⟩=>thn (hop pins s3 σ H2 v y u w3 _ I3 ru ry q3) ?_
 rintro w4 s4 ⟨z,H3,I4,rz,dx',fs',ea',l',q4⟩
 exact ZgG I4 ea' c n l' rz fun s5 I5=>⟨σ,_,I5,q4⟩
noncomputable def Ztk:V→V→Hp→VK→Prop:=fun x y H Q=>∃i j,x=.int i∧y=.int j∧Q (.int (i+j)) H
theorem ZiF:ZsL X .Add Ztk:=by
 rintro pins s σ H x y u v Q I rx ry ⟨i,j,rfl,rfl,q⟩
 obtain⟨t,rfl⟩:=(show ∃t,u=Value.int i t from rx)
 obtain⟨t',rfl⟩:=(show ∃t',v=Value.int j t' from ry)
 exact PyProof.Rows.iadd_int ⟨.int (i+j),H,I.tok _,⟨_,rfl⟩,q⟩
end
section
variable {X:Cx} {pins:List (Addr×Obj)} {σ:St} {H:Hp} {s:Shared} {A:Around} {E:Value→Shared→Prop} {Q:Value→Shared→Prop} {c:Value} {b:Bool}
inductive Zfs (K:PySem.W.Frag) (H:Hp):V→Value→Prop where
 | non:Zfs K H .non (.type "NoneType")
 | bl (x:Bool):Zfs K H (.bl x) (.type "bool")
 | int (i:Int):Zfs K H (.int i) (.type "int")
 | str (x:Str):Zfs K H (.str x) (.type "str")
 | flt (x:UInt64):Zfs K H (.flt x) (.type "float")
 | lst {a:Addr} {xs:List V} (e:H a=some (.lst xs)):Zfs K H (.ref a) (.type "list")
 | frz {a:Addr} {o:Obj} {xs:List V} (e:H a=some (.frz o (.lst xs))):Zfs K H (.ref a) (.type "list")
 | tup {a:Addr} {xs:List V} (e:H a=some (.tup xs)):Zfs K H (.ref a) (.type "tuple")
 | dK {a:Addr} {kvs:List (Key×V)} (e:H a=some (.dK kvs)):Zfs K H (.ref a) (.type "dict")
 | dT {a:Addr} {kvs:List (List Key×V)} (e:H a=some (.dT kvs)):Zfs K H (.ref a) (.type "dict")
 | ins {a C dx:Addr} {fs:List (Str×V)} (e:H a=some (.ins C dx fs)) (cl:Cls K C) (ha:PySem.W.findIn K (.ref C) "__class__" = some (some (.builtin "object.__class__")))
   (hn:PySem.W.specialIn K (.builtin "object.__class__") "__get__" = some (some (.builtin "getset_descriptor.__get__"))) (htk:PySem.W.takesIn K (.builtin "object.__class__")=some true)
   (hm:PySem.W.mroIn K C (.type "object")=some true):Zfs K H (.ref a) (.ref C)
theorem Zl2{x:V}{u t:Value}(I:Inv X pins σ H s)(rx:ZG x u)(ty:Zfs X.K H x t)(e:PySem.W.kitOne X.K t c=some b)(h:∀tk,Q (.bool b) { s with toks:=tk }) :
  wpAny (model X.prog X.w) A (call (.builtin "isinstance") [u,c]) Q E s:=by
 cases ty with
 | non=>cases (show u=Value.none from rx);exact Q7 PySem.W.kitx_none I.kIn True.intro e (fun z=>nomatch z) h
 | bl y=>cases (show u=Value.bool y from rx);exact Q7 PySem.W.kitx_bool I.kIn True.intro e (fun z=>nomatch z) h
 | int i=>obtain⟨t,q⟩:=(show ∃t,u=Value.int i t from rx);cases q;exact Q7 PySem.W.kitx_int I.kIn True.intro e (fun z=>nomatch z) h
 | str y=>obtain⟨t,q⟩:=(show ∃t,u=Value.str y t from rx);cases q;exact Q7 PySem.W.kitx_str I.kIn True.intro e (fun z=>nomatch z) h
 | flt y=>obtain⟨t,q⟩:=(show ∃t,u=Value.float y t from rx);cases q;exact Q7 PySem.W.kitx_float I.kIn True.intro e (fun z=>nomatch z) h
 | @lst a xs ea =>
  cases (show u=Value.ref a from rx)
  obtain⟨_,_,n,_,h1⟩:=(show Zap X.prog X.w H s.heap a (.lst xs) from I.hok a _ ea)
  exact Q7 PySem.W.kitx_list I.kIn ⟨_,h1,rfl⟩ e (fun z=>nomatch z) h
 | @frz a ob xs ea =>
  cases (show u=Value.ref a from rx)
  obtain⟨_,_,_,n,_,h1⟩:=(show Zap X.prog X.w H s.heap a (.frz ob (.lst xs)) from I.hok a _ ea)
  exact Q7 PySem.W.kitx_list I.kIn ⟨_,h1,rfl⟩ e (fun z=>nomatch z) h
 | @tup a xs ea =>
  cases (show u=Value.ref a from rx)
  obtain⟨_,_,_,p⟩:=(show Zap X.prog X.w H s.heap a (.tup xs) from I.hok a _ ea)
  obtain⟨o,h1,h2,_⟩:=p
  exact Q7 PySem.W.kitx_tuple I.kIn ⟨o,h1,h2⟩ e (fun z=>nomatch z) h
 | @dK a kvs ea =>
  cases (show u=Value.ref a from rx)
  obtain⟨_,_,vs,_,p⟩:=(show Zap X.prog X.w H s.heap a (.dK kvs) from I.hok a _ ea)
  obtain⟨o,es,ep,h1,h2,_⟩:=p
  exact Q7 PySem.W.kitx_dict I.kIn ⟨o,h1,h2.1⟩ e (fun z=>nomatch z) h
 | @dT a kvs ea =>
  cases (show u=Value.ref a from rx)
  obtain⟨_,_,xs,_,o,es,ep,h1,h2,_⟩:=(show Zap X.prog X.w H s.heap a (.dT kvs) from I.hok a _ ea)
  exact Q7 PySem.W.kitx_dict I.kIn ⟨o,h1,h2.1⟩ e (fun z=>nomatch z) h
 | @ins a C dx fs ea cl ha hn htk hm =>
  cases (show u=Value.ref a from rx)
  obtain⟨mA,O,_⟩:=ZfS I.hok ea
  obtain⟨od,J,_⟩:=O.look
  exact Q7 (PySem.W.kitx_own (cl.get _) cl.hd ha hn htk hm) I.kIn J e (fun z=>nomatch z) h
end
structure ZaN (k:Nat) (A:Around):Prop where
 hd:A.handled=none
 dp:A.depth+3*k+5<recursionLimit
 un:A.units+16*k+200<cLine
 gd:A.guards=some []
theorem ZaN.mono{j k:Nat}{A:Around}(r:ZaN k A)(h:j≤k):ZaN j A:=⟨r.hd,by have:=r.dp;omega,by have:=r.un;omega,r.gd⟩
theorem ZaN.deeper{k:Nat}{A:Around}(r:ZaN (k+1) A)(env:Env):ZaN k (A.deeper env) :=
 ⟨r.hd,by have:=r.dp;show A.depth+1+3*k+5<_;omega,by have:=r.un;show A.units+3+16*k+200<_;omega,r.gd⟩
theorem Zkn{A:Around}{C:Addr}{us:List Value}{kw:List (Str×Value)}:(A.under (.builtin "type.__call__" ⟨.ref C::us,kw⟩)).depth=A.depth+1:=by
 first|rfl|simp[Around.under,Code.weight,Code.isCreation,Code.isGuard,Code.isCaller,Code.frames,Code.isFrame,guardIds]
theorem Zkp{A:Around}{C:Addr}{us:List Value}{kw:List (Str×Value)}:(A.under (.builtin "type.__call__" ⟨.ref C::us,kw⟩)).units=A.units+1:=by
 first|rfl|simp[Around.under,Code.cUnits,Code.frames,Code.isFrame]
theorem ZaN.make{k:Nat}{A:Around}(r:ZaN (k+1) A)(C:Addr)(us:List Value)(kw:List (Str×Value)):ZaN k (A.under (.builtin "type.__call__" ⟨.ref C::us,kw⟩)) :=
 ⟨r.hd,by have:=r.dp;rw[Zkn];omega,by have:=r.un;rw[Zkp];omega,by rw[show (A.under (.builtin "type.__call__" ⟨.ref C::us,kw⟩)).guards=A.guards from by first|rfl|simp[Around.under,pushGuards,Code.guards,Code.isGuard,guardIds]];exact r.gd⟩
theorem ZaN.depth{k:Nat}{A:Around}(r:ZaN k A):A.depth<recursionLimit:=by have:=r.dp;omega
theorem ZaN.units{k:Nat}{A:Around}(r:ZaN k A):A.units+64<cLine:=by have:=r.un;omega
noncomputable def ZrQ:TA:=fun _ H Q=>Q [] H
noncomputable def Zr7(ta:TE)(tr:TA):TA:=fun σ H Q=>ta σ H fun x H1=>tr σ H1 fun xs H2=>Q (x::xs) H2
section
variable {X:Cx} {e:Expr} {es:List Expr} {te:TE} {t:TA} {pos:Pos}
theorem Zc:PA X [] ZrQ:=fun _ _ _ _ H Q I h=>Calls.spliced_nil ⟨[],H,I,.nil,h⟩
theorem Za(ha:PE X e te)(hr:PA X es t)(hs:starEach (e::es) X.env=(false,eval e X.env)::starEach es X.env:=by rfl):PA X (e::es) (Zr7 te t):=by
 intro pos pins s σ H Q I h
 rw[hs]
 show wpAny _ _ (spliced ((false,eval e X.env)::backTo pos (starEach es X.env))) _ _ s
 refine Calls.spliced_cons (thn (ha pins s σ H _ I h) ?_)
 rintro u s1 ⟨x,H1,I1,r1,q1⟩
 exact thn (hr pos pins s1 σ H1 _ I1 q1) fun us s2 ⟨xs,H2,I2,r2,q2⟩=>⟨x::xs,H2,I2,.cons r1 r2,q2⟩
noncomputable def Ztb(t:TA):TE:=fun σ H Q=>t σ H fun xs H1=>xs.length≤sizeLine∧∀p,H1 p=none→Q (.ref p) (upd H1 p (.tup xs))
noncomputable def Ztt(t:TA):TE:=fun σ H Q=>t σ H fun xs H1=>xs.length≤sizeLine∧∀p,H1 p=none→Q (.ref p) (upd H1 p (.lst xs))
theorem ZT{x1}(h:PA X es t):PE X (.Tuple es x1 pos) (Ztb t):=by
 intro pins s σ H Q I hq
 refine wpAny_Tuple_spliced (thn (h pos pins s σ H _ I hq) fun us s1 ⟨xs,H1,I1,r,z,q⟩=>⟨by rw[← r.length];exact z,?_⟩)
 have hf:H1 s1.heap.objs.size=none:=I1.hok.fresh (Qg _)
 refine⟨.ref s1.heap.objs.size,upd H1 s1.heap.objs.size (.tup xs),I1.laid (t':=s1.toks) (fun b u e=>Qj _ e) (Qg _) ?_,rfl,q _ hf⟩
 exact⟨z,us,r,⟨_,QD _ rfl,rfl,_,rfl⟩⟩
theorem Zbg(h:PA X es t):PE X (.List es pos) (Ztt t):=by
 intro pins s σ H Q I hq
 refine wpAny_List_spliced (thn (h pos pins s σ H _ I hq) fun us s1 ⟨xs,H1,I1,r,z,q⟩=>⟨by rw[← r.length];exact z,?_⟩)
 have hf:H1 s1.heap.objs.size=none:=I1.hok.fresh (Qg _)
 refine⟨.ref s1.heap.objs.size,upd H1 s1.heap.objs.size (.lst xs),I1.laid (t':=s1.toks) (fun b u e=>Qj _ e) (Qg _) ?_,rfl,q _ hf⟩
 exact⟨z,us,0,r,QD _ rfl⟩
end
noncomputable abbrev Sp:=List V→Hp→VK→XK→Prop
noncomputable abbrev CXT:=List Env→Hp→Shared→XK→Value→Shared→Prop
structure Zj3 (P:Program) (w:World) (K:PySem.W.Frag) (mg:Str→Option Value) (base:Heap) (A:Around) (outer:List Env) (s:Shared) (H:Hp):Prop where
 frames:A.frames=some outer
 mod:Mod K mg base
 bs:∀b o,base.get? b=some o→s.heap.get? b=some o∧H b=none
 bsz:base.objs.size≤s.heap.objs.size
 funs:s.heap.FunFrames base outer
 frf:∀b∈frs outer,H b=none
 hok:HOk P w H s.heap
 bare:AllBare s.gens
noncomputable def CE(outer:List Env)(P:Program)(w:World)(H:Hp)(s:Shared)(Q:VK)(u:Value)(s':Shared):Prop :=
 ∃v H',s'.os=s.os∧AllBare s'.gens∧Un (frs outer) [] H H' s.heap s'.heap∧HOk P w H' s'.heap∧ZG v u∧Q v H'
noncomputable def CR(CX:CXT)(outer:List Env)(P:Program)(w:World)(H:Hp)(s:Shared)(Q:VK)(E:XK)(r:Result)(s':Shared):Prop :=
 match r with
 | .ok (.ret u)=>CE outer P w H s Q u s'
 | .ok _=>False
 | .error e=>CX outer H s E e s'
structure Zem (P:Program) (w:World) (K:PySem.W.Frag) (mg:Str→Option Value) (base:Heap) (CX:CXT) (k:Nat) (f:Addr) (fd:FuncData) (ps:List Str) (sp:Sp):Prop where
 len:∀vs H Q E,sp vs H Q E→vs.length=ps.length
 run:∀ (A:Around) (outer:List Env) (s:Shared) (H:Hp) (args:Args) (us:List Value) (vs:List V) (Q:VK) (E:XK),ZaN k A→Zj3 P w K mg base A outer s H→BindsTo s fd args (ps.zip us)→Zw vs us→sp vs H Q E →
  codeAny (model P w) A (.call (.ref f) args) (CR CX outer P w H s Q E) s
theorem Zj3.make{P:Program}{w:World}{K:PySem.W.Frag}{mg:Str→Option Value}{base:Heap}{A:Around}{outer:List Env}{s:Shared}{H:Hp}(e:Zj3 P w K mg base A outer s H)(C:Addr)(us:List Value)(kw:List (Str×Value)) :
  Zj3 P w K mg base (A.under (.builtin "type.__call__" ⟨.ref C::us,kw⟩)) outer s H:=⟨by first|exact e.frames|(simpa [Around.under,Code.envs,Code.isFrame,pushEnvs] using e.frames),e.mod,e.bs,e.bsz,e.funs,e.frf,e.hok,e.bare⟩
section
variable {X:Cx} {pins:List (Addr×Obj)} {σ:St} {H:Hp} {s s':Shared}
theorem Inv.env0(I:Inv X pins σ H s):Zj3 X.prog X.w X.K X.mg X.base X.A X.stack s H :=
 ⟨I.ok.frames,I.ok.mod,I.bs,QJ I.ok.bsz I.sz,I.stack,I.stkFree,I.hok,I.bare⟩
theorem Inv.after{Q:VK}{u:Value}(I:Inv X pins σ H s)(h:CE X.stack X.prog X.w H s Q u s'):EP X pins σ Q u s':=by
 obtain⟨v,H',os,bare,un,hok,r,q⟩:=h
 obtain⟨hh,g,d,t,os'⟩:=s'
 obtain rfl:os'=s.os:=os
 exact⟨v,H',I.call (h':=hh) (g':=g) (d':=d) (t':=t) (ch:=[]) un hok bare (fun b z=>absurd z (by simp)),r,q⟩
end
noncomputable def Zqs(sp:Sp)(dvs:List V)(E:XK)(t:TA):TE:=fun σ H Q=>t σ H fun vs H1=>sp (vs++dvs) H1 Q E
noncomputable def Zk4(C:Addr)(m:Str)(sp:Sp)(dvs:List V)(E:XK)(ta:TE)(t:TA):TE:=fun σ H Q=>ta σ H fun x H1=>∃a dx fs,x=.ref a∧H1 a=some (.ins C dx fs)∧fs.lookup m=none ∧
 t σ H1 fun vs H2=>sp (x::(vs++dvs)) H2 Q E
noncomputable def Zqg(C:Addr)(sp:Sp)(dvs:List V)(E:XK)(t:TA):TE:=fun σ H Q=>t σ H fun vs H1=>∀x dx,H1 x=none→H1 dx=none→dx≠x →
 sp (.ref x::(vs++dvs)) (upd (upd H1 dx (.own x)) x (.ins C dx [])) (fun v H2=>v=.non∧Q (.ref x) H2) E
noncomputable def Zcp(K:PySem.W.Frag)(fd:FuncData)(ps:List Str)(ds:List Value):Prop :=
 ∀ (s:Shared) (us:List Value),K.In s.heap→(us++ds).length=ps.length→BindsTo s fd ⟨us,[]⟩ (ps.zip (us++ds))
theorem Zcp.all{K:PySem.W.Frag}{fd:FuncData}{ps:List Str}(h:∀us:List Value,us.length=ps.length→bindArgs fd ⟨us,[]⟩=pure (ps.zip us)):Zcp K fd ps []:=fun s us _ hl=>by
 rw[QL]at hl ⊢
 exact .of_eq (h us hl)
noncomputable def Zey(CX:CXT)(X:Cx)(E:XK):Prop:=∀ (pins:List (Addr×Obj)) (σ:St) (H:Hp) (s:Shared) (e:Value) (s':Shared),Inv X pins σ H s→CX X.stack H s E e s'→X.xe e s'
section
variable {X:Cx} {CX:CXT} {k:Nat} {f C:Addr} {fd:FuncData} {ps:List Str} {sp:Sp} {dvs:List V} {ds:List Value} {E:XK} {x m:Str} {p pos apos:Pos} {e o:Expr} {es:List Expr} {ta:TE} {t:TA}
theorem Zkf{pins:List (Addr×Obj)}{σ:St}{H:Hp}{s:Shared}{Q:VK}{us:List Value}{vs:List V}(F:Zem X.prog X.w X.K X.mg X.base CX k f fd ps sp)(hr:ZaN k X.A)(hb:Zcp X.K fd ps ds)(hd:Zw dvs ds)(hx:Zey CX X E)
  (I:Inv X pins σ H s) (r:Zw vs us) (h:sp (vs++dvs) H Q E):wpAny (model X.prog X.w) X.A (call (.ref f) us) (EP X pins σ Q) X.xe s:=by
 have r2:Zw (vs++dvs) (us++ds):=r.append hd
 have hl:(us++ds).length=ps.length:=by rw[← r2.length];exact F.len _ _ _ _ h
 refine wpAny_call (codeAny_mono (F.run X.A X.stack s H ⟨us,[]⟩ (us++ds) (vs++dvs) Q E hr I.env0 (hb s us I.kIn hl) r2 h) fun r s' hq=>?_)
 cases r with
 | error e=>exact hx pins σ H s e s' I hq
 | ok fl =>
  cases fl with
  | ret u=>exact I.after hq
  | next=>exact False.elim hq
  | brk=>exact False.elim hq
  | cont=>exact False.elim hq
theorem Zo6(F:Zem X.prog X.w X.K X.mg X.base CX k f fd ps sp)(hr:ZaN k X.A)(hg:Gl X x)(hm:X.mg x=some (.ref f))(hk:PySem.W.keepIn X.K (.ref f)=true)(hb:Zcp X.K fd ps ds)(hd:Zw dvs ds)(hx:Zey CX X E)
  (ha:PA X (e::es) t) (hdb:(x == ("__debug__" : Str))=false:=by decide) (he:starEach (e::es) X.env=(false,eval e X.env)::starEach es X.env:=by rfl) (hpl:(backTo pos (starEach es X.env)).any (·.1)=false:=by rfl) :
  PE X (.Call (.Name x p) (e::es) [] pos) (Zqs sp dvs E t):=by
 intro pins s σ H Q I h
 refine wpAny_Call_Name_kw (ZkK I hg hm ?_ hdb)
 refine PySem.W.callWith_K (h₀:=X.base) I.ok.mod.kin hk (thn (ha pos pins s σ H _ I h) fun us s1 ⟨vs,H1,I1,r,q⟩=>⟨I1.kIn,?_⟩) he hpl
 exact Zkf F hr hb hd hx I1 r q
theorem Zpa{pl:Sem Bool}(he:PE X o ta)(c:Cls X.K C)(hm:Zoz X.K C m f)(F:Zem X.prog X.w X.K X.mg X.base CX k f fd ps sp)(hr:ZaN k X.A)(hb:Zcp X.K fd ps ds)(hd:Zw dvs ds)(hx:Zey CX X E)(ha:PA X (e::es) t)
  (hst:starEach (e::es) X.env=(false,eval e X.env)::starEach es X.env:=by rfl) (hpl:(backTo pos (starEach es X.env)).any (·.1)=false:=by rfl)
  (ht:eval (.Call (.Attribute o m apos) (e::es) [] pos) X.env=(do
   let ov ← eval o X.env
   standAt apos.atName
   let (f,first) ← holding [ov] (getMethod ov m pl)
   callWith pos f first (backTo pos (starEach (e::es) X.env)) (backToKw pos (keywordEach [] X.env))):=by rfl) :
  PE X (.Call (.Attribute o m apos) (e::es) [] pos) (Zk4 C m sp dvs E ta t):=by
 intro pins s σ H Q I h
 refine PySem.W.methodCall_KW (pl:=pl) (thn (he pins s σ H _ I h) ?_) ht
 rintro u s1 ⟨x,H1,I1,rx,a,dx,fs,ex,ea,l,q⟩
 subst ex
 obtain rfl:u=Value.ref a:=rx
 refine Zgg I1 ea c hm l ?_
 refine PySem.W.callWith_K (first:=[.ref a]) (h₀:=X.base) I.ok.mod.kin hm.kp (thn (ha pos pins s1 σ H1 _ I1 q) fun us s2 ⟨vs,H2,I2,r,q2⟩=>⟨I2.kIn,?_⟩) hst hpl
 exact Zkf (us:=.ref a::us) (vs:=.ref a::vs) F hr hb hd hx I2 (.cons rfl r) q2
theorem Zno{pl:Sem Bool}(he:PE X o ta)(c:Cls X.K C)(hm:Zoz X.K C m f)(F:Zem X.prog X.w X.K X.mg X.base CX k f fd ps sp)(hr:ZaN k X.A)(hb:Zcp X.K fd ps ds)(hd:Zw dvs ds)(hx:Zey CX X E)
  (ht:eval (.Call (.Attribute o m apos) [] [] pos) X.env=(do
   let ov ← eval o X.env
   standAt apos.atName
   let (f,first) ← holding [ov] (getMethod ov m pl)
   callWith pos f first (backTo pos (starEach [] X.env)) (backToKw pos (keywordEach [] X.env))):=by rfl) :
  PE X (.Call (.Attribute o m apos) [] [] pos) (Zk4 C m sp dvs E ta ZrQ):=by
 intro pins s σ H Q I h
 refine PySem.W.methodCall_KW (pl:=pl) (thn (he pins s σ H _ I h) ?_) ht
 rintro u s1 ⟨x,H1,I1,rx,a,dx,fs,ex,ea,l,q⟩
 subst ex
 obtain rfl:u=Value.ref a:=rx
 refine Zgg I1 ea c hm l ?_
 exact PySem.W.callWith_K0 (first:=[.ref a]) I1.kIn hm.kp (Zkf (us:=[.ref a]) (vs:=[.ref a]) F hr hb hd hx I1 (.cons rfl .nil) q)
structure Mk (K:PySem.W.Frag) (C f:Addr):Prop where
 makes:PySem.W.makesIn K C=true
 init:PySem.W.findIn K (.ref C) "__init__" = some (some (.ref f))
 fn:PySem.W.isFn K (.ref f)=true
 kp:PySem.W.keepIn K (.ref C)=true
theorem ZmU{pins:List (Addr×Obj)}{σ:St}{H:Hp}{s:Shared}{Q:VK}{us:List Value}{vs:List V}(M:Mk X.K C f)(F:Zem X.prog X.w X.K X.mg X.base CX k f fd ps sp)(hr:ZaN (k+1) X.A)(hb:Zcp X.K fd ps ds)(hd:Zw dvs ds)
  (hx:Zey CX X E) (I:Inv X pins σ H s) (r:Zw vs us)
  (h:∀x dx,H x=none→H dx=none→dx≠x→sp (.ref x::(vs++dvs)) (upd (upd H dx (.own x)) x (.ins C dx [])) (fun v H2=>v=.non∧Q (.ref x) H2) E) :
  wpAny (model X.prog X.w) X.A (call (.ref C) us) (EP X pins σ Q) X.xe s:=by
 have hq:=h (s.heap.objs.size+1) s.heap.objs.size (I.hok.fresh (Q4 _)) (I.hok.fresh (Qg _)) (QV (Nat.lt_succ_self _))
 have I2:=Inv.made (C:=C) I
 have r2:Zw (V.ref (s.heap.objs.size+1)::(vs++dvs)) (Value.ref (s.heap.objs.size+1)::(us++ds)):=.cons rfl (r.append hd)
 have hl:(Value.ref (s.heap.objs.size+1)::us++ds).length=ps.length:=by
  have e:=r2.length
  rw[F.len _ _ _ _ hq]at e
  exact e.symm
 refine wpAny_call (ZnL (f:=f) I.kIn M.makes M.init (beq_iff_eq.mp M.fn) (codeAny_mono (F.run _ X.stack _ _ ⟨Value.ref (s.heap.objs.size+1)::us,[]⟩ (Value.ref (s.heap.objs.size+1)::(us++ds)) _ _ E (hr.make C us [])
  (I2.env0.make C us []) (hb _ (Value.ref (s.heap.objs.size+1)::us) I2.kIn hl) r2 hq) fun r s' hq'=>?_))
 cases r with
 | error e=>exact hx pins σ _ _ e s' I2 hq'
 | ok fl =>
  cases fl with
  | ret u =>
   obtain⟨v,H',I3,rv,ev,q3⟩:=I2.after hq'
   subst ev
   exact⟨rv,⟨V.ref (s.heap.objs.size+1),H',I3,rfl,q3⟩⟩
  | next=>exact False.elim hq'
  | brk=>exact False.elim hq'
  | cont=>exact False.elim hq'
theorem Zo9(M:Mk X.K C f)(F:Zem X.prog X.w X.K X.mg X.base CX k f fd ps sp)(hr:ZaN (k+1) X.A)(hg:Gl X x)(hm:X.mg x=some (.ref C))(hb:Zcp X.K fd ps ds)(hd:Zw dvs ds)(hx:Zey CX X E)
  (ha:PA X (e::es) t) (hdb:(x == ("__debug__" : Str))=false:=by decide) (he:starEach (e::es) X.env=(false,eval e X.env)::starEach es X.env:=by rfl) (hpl:(backTo pos (starEach es X.env)).any (·.1)=false:=by rfl) :
  PE X (.Call (.Name x p) (e::es) [] pos) (Zqg C sp dvs E t):=by
 intro pins s σ H Q I h
 refine wpAny_Call_Name_kw (ZkK I hg hm ?_ hdb)
 refine PySem.W.callWith_K (h₀:=X.base) I.ok.mod.kin M.kp (thn (ha pos pins s σ H _ I h) fun us s1 ⟨vs,H1,I1,r,q⟩=>⟨I1.kIn,?_⟩) he hpl
 exact ZmU M F hr hb hd hx I1 r q
end
section
variable {X:Cx} {CX:CXT} {k:Nat} {f C:Addr} {fd:FuncData} {ps ks:List Str} {sp:Sp} {E:XK} {x m:Str} {p pos apos kpos:Pos} {e o:Expr} {es:List Expr} {kws:List Keyword} {te ta:TE} {t tk:TA} {nm:Option Str}
structure KBinds (K:PySem.W.Frag) (fd:FuncData) (ps ks:List Str) (g:List Value→List Value→List Value) (gV:List V→List V→List V):Prop where
 to:∀ (s:Shared) (us ws:List Value),K.In s.heap→(g us ws).length=ps.length→BindsTo s fd ⟨us,ks.zip ws⟩ (ps.zip (g us ws))
 rel:∀ {vs:List V} {us:List Value} {zs:List V} {ws:List Value},Zw vs us→Zw zs ws→Zw (gV vs zs) (g us ws)
variable {g:List Value→List Value→List Value} {gV:List V→List V→List V}
end
structure Zq (N P:List Str) (sc:Scope):Prop where
 kind:sc.kind=.function
 co:sc.isCoroutine=false
 gen:sc.isGenerator=false
 nd:N.Nodup
 pre:N.take P.length=P
 par:∀x∈P,sc.names.lookup x=some .local∨sc.names.lookup x=some .cell
 nofree:∀y∈sc.names,y.2≠.free
theorem Zhd{kindOf:Str→Option NameKind}{x:Str}:∀ {binds:List (Str×Value)} {m:Str→Option Value},(∀v,(x,v) ∉ binds)→bindL kindOf binds m x=m x
 | [],_,_=>rfl
 | (n,v)::r,m,h=>by
  unfold bindL
  rw[Zhd fun w hw=>h w (Qu _ hw)]
  split
  ·have:x≠n:=by rintro rfl;exact h v Q1
   simp[this]
  ·rfl
theorem Zhp{kindOf:Str→Option NameKind}{x:Str}:∀ {binds:List (Str×Value)} {m:Str→Option Value},(∀v,(x,v) ∉ binds)→bindC kindOf binds m x=m x
 | [],_,_=>rfl
 | (n,v)::r,m,h=>by
  unfold bindC
  rw[Zhp fun w hw=>h w (Qu _ hw)]
  split
  ·rfl
  ·have:x≠n:=by rintro rfl;exact h v Q1
   simp[this]
theorem Zhv{kindOf:Str→Option NameKind}{x:Str}{v:Value}:∀ {P:List Str} {vs:List Value} {i:Nat} {m:Str→Option Value},P.Nodup→P[i]? = some x→vs[i]? = some v→kindOf x=some .local →
  bindL kindOf (P.zip vs) m x=some v
 | [],_,_,_,_,h,_,_=>by simp at h
 | _::_,[],_,_,_,_,h,_=>by simp at h
 | p::P,w::vs,0,m,nd,h1,h2,hk=>by
  simp at h1 h2;subst h1;subst h2
  show bindL kindOf ((p,w)::P.zip vs) m p=_
  unfold bindL
  rw[Zhd fun v hv=>(QY.mp nd).1 (List.of_mem_zip hv).1,if_pos hk]
  simp
 | p::P,w::vs,i+1,m,nd,h1,h2,hk=>by
  show bindL kindOf ((p,w)::P.zip vs) m x=_
  unfold bindL
  exact Zhv (i:=i) (QY.mp nd).2 (by simpa using h1) (by simpa using h2) hk
theorem ZhF{kindOf:Str→Option NameKind}{x:Str}{v:Value}:∀ {P:List Str} {vs:List Value} {i:Nat} {m:Str→Option Value},P.Nodup→P[i]? = some x→vs[i]? = some v→kindOf x≠some .local →
  bindC kindOf (P.zip vs) m x=some v
 | [],_,_,_,_,h,_,_=>by simp at h
 | _::_,[],_,_,_,_,h,_=>by simp at h
 | p::P,w::vs,0,m,nd,h1,h2,hk=>by
  simp at h1 h2;subst h1;subst h2
  show bindC kindOf ((p,w)::P.zip vs) m p=_
  unfold bindC
  rw[Zhp fun v hv=>(QY.mp nd).1 (List.of_mem_zip hv).1,if_neg hk]
  simp
 | p::P,w::vs,i+1,m,nd,h1,h2,hk=>by
  show bindC kindOf ((p,w)::P.zip vs) m x=_
  unfold bindC
  exact ZhF (i:=i) (QY.mp nd).2 (by simpa using h1) (by simpa using h2) hk
noncomputable def ZdS(N:List Str)(vs:List V):St:=vs.map some++List.replicate (N.length-vs.length) none
noncomputable def Zix(CX:CXT)(P:Program)(w:World)(K:PySem.W.Frag)(mg:Str→Option Value)(base:Heap)(N:List Str)(qual:Str)(scope:Scope)(f:Addr)(cd:Value)(A:Around)(outer:List Env)(s:Shared)(H:Hp)(E:XK):Cx where
 prog:=P
 w:=w
 K:=K
 mg:=mg
 base:=base
 A:=A.deeper (envOfC qual scope s.heap.objs.size f cd)
 N:=N
 s₀:=s
 H₀:=H
 env:=envOfC qual scope s.heap.objs.size f cd
 outer:=outer
 stack:=envOfC qual scope s.heap.objs.size f cd::outer
 ex:=[]
 calm:=true
 fn:=fun _=>true
 pn:=[]
 xe:=fun e s'=>wpAny (model P w) (A.deeper (envOfC qual scope s.heap.objs.size f cd)) (leaving (envOfC qual scope s.heap.objs.size f cd) e) (fun _ s''=>CX outer H s E e s'') (fun e' s''=>CX outer H s E e' s'') s'
theorem ZgJ{sc:Scope}{n:Nat}{x:Str}(h:sc.names.lookup x=some .cell):∃c,(cellsFrom n sc.names []).lookup x=some c:=by
 have q:=PySem.W.cellsFrom_some sc.names n [] (.inl h)
 exact Option.isSome_iff_exists.mp q
theorem Zmn{CX:CXT}{P:Program}{w:World}{K:PySem.W.Frag}{mg:Str→Option Value}{base:Heap}{N ps:List Str}{qual:Str}{scope:Scope}{f:Addr}{cd:Value}{A:Around}{outer:List Env}{s s1:Shared}{H:Hp}{E:XK}{us:List Value}{vs:List V}
  (S:Zq N ps scope) (hd:A.handled=none) (e0:Zj3 P w K mg base A outer s H) (hl:vs.length=ps.length) (r:Zw vs us)
  (x:InCallC s s.heap.objs.size (bindL (envOfC qual scope s.heap.objs.size f cd).kindOf (ps.zip us) fun _=>none) (cellsFrom (s.heap.objs.size+1) scope.names []) (bindC (envOfC qual scope s.heap.objs.size f cd).kindOf (ps.zip us) fun _=>none) s1) :
  Inv (Zix CX P w K mg base N qual scope f cd A outer s H E) [] (ZdS N vs) H s1:=by
 have hpl:ps.length≤N.length:=by have:=congrArg List.length S.pre;rw[Qx]at this;omega
 obtain⟨h1,tk,rfl,hk⟩:=x.done
 have noA:∀b:Addr,b ∉ (Zix CX P w K mg base N qual scope f cd A outer s H E).ex:=fun b z=>absurd (show b∈([]:List Addr) from z) (by simp)
 refine⟨⟨e0.mod,S.kind,rfl,rfl,Qg _,fun y z c h1 h2=>?_,fun y hy=>?_,fun y c _ h=>?_,fun _=>hd,Around.frames_deeper e0.frames,.inr ⟨rfl,rfl⟩,fun b z=>absurd z (noA b),e0.bs,e0.bsz,fun b _ _=>noA b,fun b z=>absurd z (noA b),e0.funs,e0.frf⟩,
  rfl,e0.bare,Un.kept hk,⟨_,x.toInCall.ns,fun i y v h1 h2 h3=>?_⟩,fun y c h=>⟨_,x.cell y c h⟩,e0.hok.fresh (Qg _),fun y c h=>?_,fun p hp=>absurd (show p∈([]:List (Addr×Obj)) from hp) (by simp),e0.hok.kept hk,?_⟩
 ·exact name_of_addr x.apart (Qab h1) (Qab h2)
 ·have hy:scope.names.lookup y=some .cell∨scope.names.lookup y=some .free:=hy
  rcases hy with hy|hy
  ·exact ZgJ hy
  ·exact absurd rfl (S.nofree _ (Qab hy))
 ·exact Qav (x.above y c (Qab h))
 ·have hi:i<vs.length:=by
   unfold ZdS at h2
   by_cases hi:i<vs.length
   ·exact hi
   ·rw[QW (by simpa using hi)]at h2
    rw[List.getElem?_replicate]at h2
    split at h2<;>cases h2
  have ha:vs[i]? = some v:=by
   unfold ZdS at h2
   rw[QX (by simpa using hi),Qi]at h2
   cases e:vs[i]? with
   | none=>rw[e]at h2;cases h2
   | some a=>rw[e]at h2;cases h2;rfl
  obtain⟨u,hu,rv⟩:=r.get ha
  have hp:ps[i]? = some y:=by
   rw[← S.pre,List.getElem?_take_of_lt (by omega)];exact h1
  have ndP:ps.Nodup:=by rw[← S.pre];exact S.nd.sublist (List.take_sublist _ _)
  refine⟨u,rv,?_⟩
  rcases S.par y (Qo hp) with k|k
  ·exact .inl ⟨k,Zhv ndP hp hu k⟩
  ·obtain⟨c,e⟩:=ZgJ (n:=s.heap.objs.size+1) k
   refine .inr ⟨.inl k,c,e,?_⟩
   have q:=x.cell y c e
   rw[ZhF ndP hp hu (by show scope.names.lookup y≠_;rw[k];decide)]at q
   exact q
 ·exact e0.hok.fresh (Qav (x.above y c (Qab h)))
 ·unfold ZdS
  show _=N.length
  rw[Qe,Qa,List.length_replicate]
  omega
theorem ZsS{CX:CXT}{P:Program}{w:World}{K:PySem.W.Frag}{mg:Str→Option Value}{base:Heap}{k:Nat}{f:Addr}{name qual:Str}{params:Arguments}{body:List Stmt}{scope:Scope}{dV kV doc pm cdv ct oc:Value}{an od:Option Addr}
  {osl:Array (Option Value)} {N ps:List Str} {sp:Sp} (lk:K.lookup f=some ⟨oc,od,.func (PySem.W.fnOf name qual params body scope dV kV doc pm an cdv ct),osl⟩) (hcd:PySem.W.codeIn K cdv qual=true) (S:Zq N ps scope)
  (len:∀vs H Q E,sp vs H Q E→vs.length=ps.length)
  (hbody:∀ (A:Around) (outer:List Env) (s:Shared) (H:Hp) (vs:List V) (Q:VK) (E:XK),ZaN k (A.deeper (envOfC qual scope s.heap.objs.size f cdv))→sp vs H Q E →
   ∃t,PSs (Zix CX P w K mg base N qual scope f cdv A outer s H E) body t∧t { nx:=fun _ H'=>Q .non H',rt:=Q } (ZdS N vs) H) :
  Zem P w K mg base CX (k+1) f (PySem.W.fnOf name qual params body scope dV kV doc pm an cdv ct) ps sp:=by
 refine⟨len,fun A outer s H args us vs Q E hr e0 hb r hsp=>?_⟩
 have hl:=len _ _ _ _ hsp
 have KX:K.In s.heap:=e0.mod.kin.keeps fun b o e=>(e0.bs b o e).1
 have lim:s.heap.NoLimit:=e0.mod.nolimit.keeps fun b o e=>(e0.bs b o e).1
 have hkind:∀y∈ps.zip us,scope.names.lookup y.1=some .local∨(scope.names.lookup y.1=some .cell∧((cellsFrom (s.heap.objs.size+1) scope.names []).lookup y.1).isSome=true):=fun ⟨n,v⟩ hy=>by
  rcases S.par n (List.of_mem_zip hy).1 with q|q
  ·exact .inl q
  ·exact .inr ⟨q,PySem.W.cellsFrom_some _ _ _ (.inl q)⟩
 refine codeAny_call_function hr.depth (KX _ _ lk) rfl S.co S.gen rfl (PySem.W.codeRec_of KX hcd) (hb _ _ _ _ ?_)
 refine wpAny_newFunctionEnv_cells S.kind hkind fun env he s1 x=>?_
 subst he
 refine⟨lim.keeps x.toInCall.keep,codeAny_func ?_⟩
 obtain⟨t,ht,hq⟩:=hbody A outer s H vs Q E (hr.deeper _) hsp
 have I:Inv (Zix CX P w K mg base N qual scope f cdv A outer s H E) [] (ZdS N vs) H s1:=Zmn S hr.hd e0 hl r x
 refine wpAny_mono (ht [] s1 (ZdS N vs) H _ I hq) (fun fl s' hs=>?_) fun e s' hs=>hs
 have fin:∀ {σ':St} {H':Hp} {v:V} {u:Value},Inv (Zix CX P w K mg base N qual scope f cdv A outer s H E) [] σ' H' s'→ZG v u→Q v H'→CE outer P w H s Q u s' :=
  fun {σ' H' v u} J rv q=>⟨v,H',J.os,J.bare,J.base,J.hok,rv,q⟩
 cases fl with
 | ret u =>
  obtain⟨v,σ',H',J,rv,q⟩:=hs
  exact fin J rv q
 | next =>
  obtain⟨σ',H',J,q⟩:=hs
  exact fin (v:=V.non) (u:=Value.none) J rfl q
 | brk =>
  obtain⟨_,_,_,q⟩:=hs
  exact False.elim q
 | cont =>
  obtain⟨_,_,_,q⟩:=hs
  exact False.elim q
section
variable {X:Cx} {x:Str} {p pos:Pos} {e:Expr} {es:List Expr} {t:TA} {id T:String} {r:List V→Hp→VK→Prop}
noncomputable def tCB(r:List V→Hp→VK→Prop)(t:TA):TE:=fun σ H Q=>t σ H fun vs H1=>r vs H1 Q
theorem Zk(hc:Zae X (.builtin id) r)(hg:Gl X x)(hm:X.mg x=none)(hv:bootBuiltins x=some (.builtin id))(ha:PA X (e::es) t)(hn:x ≠ "__name__":=by decide)(hdb:(x == ("__debug__" : Str))=false:=by decide)
  (he:starEach (e::es) X.env=(false,eval e X.env)::starEach es X.env:=by rfl) (hpl:(backTo pos (starEach es X.env)).any (·.1)=false:=by rfl):PE X (.Call (.Name x p) (e::es) [] pos) (tCB r t):=by
 intro pins s σ H Q I h
 refine wpAny_Call_Name_kw (Zfm I hg hm hv ?_ hn hdb)
 exact PyProof.Rows.callWith_builtin1 (thn (ha pos pins s σ H _ I h) fun us s1 ⟨vs,H1,I1,r1,q1⟩=>hc pins s1 σ H1 vs us Q I1 r1 q1) he hpl
theorem Z4(hc:Zae X (.type T) r)(hg:Gl X x)(hm:X.mg x=none)(hv:bootBuiltins x=some (.type T))(ha:PA X (e::es) t)(hn:x ≠ "__name__":=by decide)(hdb:(x == ("__debug__" : Str))=false:=by decide)
  (he:starEach (e::es) X.env=(false,eval e X.env)::starEach es X.env:=by rfl) (hpl:(backTo pos (starEach es X.env)).any (·.1)=false:=by rfl):PE X (.Call (.Name x p) (e::es) [] pos) (tCB r t):=by
 intro pins s σ H Q I h
 refine wpAny_Call_Name_kw (Zfm I hg hm hv ?_ hn hdb)
 exact Qal (thn (ha pos pins s σ H _ I h) fun us s1 ⟨vs,H1,I1,r1,q1⟩=>hc pins s1 σ H1 vs us Q I1 r1 q1) he hpl
end
end L2
namespace HT
open PySem PyProof.Rows
section
open PySem.SeqAt
open PySem.AutoSeq1 (wpAny_loadPart')
open PySem.MeetsSeq PySem.MeetsSeq2 PySem.MeetsSeq3
end
section
variable {prog:Program} {w:World} {A:Around} {E:Value→Shared→Prop} {s:Shared}
theorem cat_tup{t b:Addr}{vs ws:List Value}{Q:Value→Shared→Prop}(ht:IsTup s.heap t vs.toArray)(hb:IsTup s.heap b ws.toArray)(hv:vs≠[])
  (h1:ws=[]→Q (.ref t) s) (h2:ws≠[]→Q (.ref s.heap.objs.size) { s with heap:=s.heap.push { cls:=.type "tuple",data:=.seq (vs++ws).toArray } })
  (hsz:vs.length+ws.length≤sizeLine):wpAny (model prog w) A (binaryOp .Add (.ref t) (.ref b)) Q E s:=by
 obtain⟨⟨cls,dd,data,sl⟩,ho,hc,n,hd⟩:=id ht
 obtain⟨⟨cls2,dd2,data2,sl2⟩,ho2,hc2,n2,hd2⟩:=id hb
 simp only at hc hd hc2 hd2
 subst hc hd hc2 hd2
 have e:vs.toArray++ws.toArray=(vs++ws).toArray:=by simp
 by_cases hw:ws=[]
 ·exact concat_meets ⟨_,ho,rfl⟩ ⟨_,ho2,rfl⟩ noFill_tuple_add seq_tuple_add PySem.F.slot_tuple_add PySem.F.entry_tuple_add (PySem.F.args_tuple_add_2 _ _)
   (tuple_addW1 t b vs.toArray ws.toArray n n2 dd dd2 sl sl2 (by simpa using hv) (by simp[hw])) ⟨ho,ho2,h1 hw⟩
 ·refine concat_meets ⟨_,ho,rfl⟩ ⟨_,ho2,rfl⟩ noFill_tuple_add seq_tuple_add PySem.F.slot_tuple_add PySem.F.entry_tuple_add (PySem.F.args_tuple_add_2 _ _)
   (tuple_addW2 t b vs.toArray ws.toArray n n2 dd dd2 sl sl2 (by simpa using hv) (by simpa using hw) (by rw[Qt,Qt];exact hsz)) ⟨ho,ho2,?_⟩
  rw[e]
  exact h2 hw
noncomputable def sIx(n d:Nat):Option Int→Nat
 | none=>d
 | some v=>if v<0 then (v+(n:Int)).toNat else min v.toNat n
end
end HT
namespace L2
open PySem PySem.Spec PyProof.Rows
noncomputable abbrev TO:=St→Hp→(Option Int→Hp→Prop)→Prop
noncomputable def PO(X:Cx)(e:Option Expr)(t:TO):Prop :=
 ∀ (pins:List (Addr×Obj)) (s:Shared) (σ:St) (H:Hp) (Q:Option Int→Hp→Prop),Inv X pins σ H s→t σ H Q →
  wpAny (model X.prog X.w) X.A (evalPart e X.env) (fun u s'=>∃o H',Inv X pins σ H' s'∧IsPart u o∧Q o H') X.xe s
noncomputable def ZpH:TO:=fun _ H Q=>Q none H
noncomputable def Zsg(t:TE):TO:=fun σ H Q=>t σ H fun x H1=>∃i,x=.int i∧Q (some i) H1
theorem Zgb{ns:List Int}:∀ {us:List Value},Zw (ns.map V.int) us→IntsAre us ns:=by
 induction ns with
 | nil=>intro us r;rw[Qag]at r;cases r;exact .nil
 | cons n ns ih =>
  intro us r
  rw[Ql]at r
  cases r with
  | cons r1 r2 =>
   obtain⟨t,e⟩:=r1
   subst e
   exact .cons n t (ih r2)
section
variable {X:Cx} {e:Expr} {te:TE} {lo hi:Option Expr} {tl th:TO} {pos p2:Pos}
theorem Zd9:PO X none ZpH:=by
 intro pins s σ H Q I h
 rw[evalPart_none]
 exact wpAny_pure ⟨none,H,I,.none,h⟩
theorem ZbD(h:PE X e te):PO X (some e) (Zsg te):=by
 intro pins s σ H Q I hw
 rw[evalPart_some]
 refine thn (h pins s σ H _ I hw) ?_
 rintro u s1 ⟨x,H1,I1,r1,q1⟩
 obtain⟨i,rfl,q⟩:=q1
 obtain⟨t,rfl⟩:=r1
 exact⟨some i,H1,I1,.int i t,q⟩
noncomputable def SlR(X:Cx)(r:V→Option Int→Option Int→Hp→VK→Prop):Prop :=
 ∀ (pins:List (Addr×Obj)) (s:Shared) (σ:St) (H:Hp) (x:V) (v vl vu:Value) (lo hi:Option Int) (sl:Addr) (Q:VK),Inv X pins σ H s→ZG x v→s.heap.IsSliceOf sl vl vu .none→IsPart vl lo→IsPart vu hi→r x lo hi H Q →
  ∃T id,typeLookup (.type T) "__getitem__" = pure (some (.builtin id))∧s.TypeIs v T∧wpAny (model X.prog X.w) X.A (getItem v (.ref sl)) (EP X pins σ Q) X.xe s
noncomputable def tSl(r:V→Option Int→Option Int→Hp→VK→Prop)(te:TE)(tl th:TO):TE:=fun σ H Q=>te σ H fun x H1=>tl σ H1 fun l H2=>th σ H2 fun u H3=>r x l u H3 Q
theorem ZcL{r:V→Option Int→Option Int→Hp→VK→Prop}(hr:SlR X r)(he:PE X e te)(hl:PO X lo tl)(hu:PO X hi th):PE X (.Subscript e (.Slice lo hi none p2) pos) (tSl r te tl th):=by
 intro pins s σ H Q I h
 refine Subscript_ (thn (he pins s σ H _ I h) ?_)
 rintro v s1 ⟨x,H1,I1,r1,q1⟩
 refine wpAny_Slice (thn (hl pins s1 σ H1 _ I1 q1) fun vl s2 ⟨l,H2,I2,pl,q2⟩=>thn (hu pins s2 σ H2 _ I2 q2) ?_)
 rintro vu s3 ⟨u,H3,I3,pu,q3⟩
 rw[evalPart_none]
 refine wpAny_pure ?_
 have I4:Inv X pins σ H3 { s3 with heap:=s3.heap.push { cls:=.type "slice",data:=.fields #[vl,vu,.none] } }:=I3.kept (t':=s3.toks) fun b ob q=>Qj _ q
 obtain⟨T,id,hT,ht,hg⟩:=hr pins { s3 with heap:=s3.heap.push { cls:=.type "slice",data:=.fields #[vl,vu,.none] } } σ H3 x v vl vu l u s3.heap.objs.size Q I4 r1 (Heap.IsSliceOf.new ..) pl pu q3
 show wpAny (model X.prog X.w) X.A (subscriptTail e (.Slice lo hi none p2) v (.ref s3.heap.objs.size)) (EP X pins σ Q) X.xe { s3 with heap:=s3.heap.push { cls:=.type "slice",data:=.fields #[vl,vu,.none] } }
 exact tail_any (ops:=[.ref s3.heap.objs.size,v]) ht hT hg (by with_unfolding_all rfl)
noncomputable def ZeY(xs:List V)(lo hi:Option Int):List V:=(xs.drop (HT.sIx xs.length 0 lo)).take (HT.sIx xs.length xs.length hi-HT.sIx xs.length 0 lo)
theorem Zi1(xs:List V)(lo hi:Option Int):(ZeY xs lo hi).length≤xs.length:=by
 unfold ZeY
 rw[Qx,QR]
 omega
noncomputable def ZsC(K:PySem.W.Frag):R2:=fun x y H Q=>∃a b xs ys,x=.ref a∧y=.ref b∧SqT K H a xs∧SqT K H b ys∧xs≠[]∧xs.length+ys.length≤sizeLine ∧
 (ys=[]→Q (.ref a) H)∧(ys≠[]→∀p,H p=none→Q (.ref p) (upd H p (.tup (xs++ys))))
theorem Zw.nil_iff{xs:List V}{us:List Value}(r:Zw xs us):us=[]↔xs=[]:=by
 cases r with
 | nil=>simp
 | cons _ _=>simp
theorem Zpg:OpR X (binaryOp .Add) (ZsC X.K):=by
 intro pins s σ H x y v u Q I rx ry h
 obtain⟨a,b,xs,ys,rfl,rfl,ha,hb,hx,hz,q1,q2⟩:=h
 cases rx
 cases ry
 obtain⟨its,r1,p1,_⟩:=I.tuple ha
 obtain⟨its2,r2,p2,_⟩:=I.tuple hb
 refine HT.cat_tup p1 p2 (fun z=>hx (r1.nil_iff.mp z)) (fun z=>⟨.ref a,H,I,rfl,q1 (r2.nil_iff.mp z)⟩) (fun z=>?_) (by rw[← r1.length,← r2.length];exact hz)
 refine⟨.ref s.heap.objs.size,_,I.laid (t':=s.toks) (o:=.tup (xs++ys)) (fun b ob q=>Qj _ q) (Qg _) ?_,rfl,q2 (fun w=>z (r2.nil_iff.mpr w)) _ (I.hok.fresh (Qg _))⟩
 exact⟨by rw[Qe];exact hz,_,r1.append r2,IsTup.new _ _⟩
end
noncomputable def ixN(n:Nat)(i:Int):Option Nat:=if 0≤i then (if i<n then some i.toNat else none) else if -(n:Int)≤i then some (i+n).toNat else none
noncomputable def atI{α:Type}(xs:List α)(i:Int):Option α:=(ixN xs.length i).bind fun j=>xs[j]?
theorem ZkR{n:Nat}{i:Int}{j:Nat}(h:ixN n i=some j):seqIndex? i n=some j∧j<n ∧ -(n:Int)≤i∧i<n:=by
 unfold ixN at h
 by_cases h0:0≤i
 ·rw[if_pos h0]at h
  by_cases h1:i<n
  ·rw[if_pos h1]at h
   have e:i.toNat=j:=Qr h
   exact⟨by rw[seqIndex_of h0 h1,e],by omega,by omega,h1⟩
  ·rw[if_neg h1]at h;cases h
 ·rw[if_neg h0]at h
  by_cases h1:-(n:Int)≤i
  ·rw[if_pos h1]at h
   have e:(i+n).toNat=j:=Qr h
   exact⟨by rw[seqIndex_neg (by omega) h1,e],by omega,h1,by omega⟩
  ·rw[if_neg h1]at h;cases h
theorem ZiH{α:Type}{xs:List α}{i:Int}{v:α}(h:atI xs i=some v):∃j,seqIndex? i xs.length=some j∧xs[j]? = some v∧j<xs.length ∧ -(xs.length:Int)≤i∧i<xs.length:=by
 unfold atI at h
 cases e:ixN xs.length i with
 | none=>rw[e]at h;cases h
 | some j =>
  rw[e]at h
  obtain⟨h1,h2,h3,h4⟩:=ZkR e
  exact⟨j,h1,h,h2,h3,h4⟩
theorem ZX{α:Type}{xs:List α}{j:Nat}{v:α}(h:xs[j]? = some v):atI xs (j:Int)=some v:=by
 have hj:j<xs.length:=(Qc.mp h).1
 have e:ixN xs.length (j:Int)=some j:=by
  unfold ixN
  rw[if_pos (by omega),if_pos (by omega)];simp
 unfold atI;rw[e];exact h
theorem Zoo{α:Type}(xs:List α)(v:α):atI (xs++[v]) (-1)=some v:=by
 have hl:(xs++[v]).length=xs.length+1:=by simp
 have e:ixN (xs++[v]).length (-1)=some xs.length:=by
  unfold ixN
  rw[hl,if_neg (by decide),if_pos (by omega)]
  congr 1
  omega
 unfold atI
 rw[e]
 show (xs++[v])[xs.length]? = some v
 simp
noncomputable def Zo7(b:Expr):Prop:=∀o i,subscripted b false o i=operate [o,i] (getItem o i)
noncomputable def IxR(X:Cx)(r:R2):Prop :=
 ∀ (value slice:Expr) (pins:List (Addr×Obj)) (s:Shared) (σ:St) (H:Hp) (x y:V) (v u:Value) (Q:VK),Inv X pins σ H s→ZG x v→ZG y u→r x y H Q →
  subscripted slice false v u=operate [v,u] (getItem v u)→wpAny (model X.prog X.w) X.A (subscriptTail value slice v u) (EP X pins σ Q) X.xe s
noncomputable def MtR(X:Cx)(id:String)(r:V→List V→Hp→VK→Prop):Prop :=
 ∀ (pins:List (Addr×Obj)) (s:Shared) (σ:St) (H:Hp) (x:V) (xs:List V) (v:Value) (us:List Value) (Q:VK),Inv X pins σ H s→ZG x v→Zw xs us→r x xs H Q →
  wpAny (model X.prog X.w) X.A (call (.builtin id) (v::us)) (EP X pins σ Q) X.xe s
section
variable {X:Cx} {a b:Expr} {ta tb:TE} {pos:Pos}
theorem Zz{r:R2}(hr:IxR X r)(ha:PE X a ta)(hb:PE X b tb)(hs:Zo7 b):PE X (.Subscript a b pos) (tOp r ta tb):=by
 intro pins s σ H Q I h
 exact Subscript_ (ZqV ha hb I h fun v u s2 x y H2 I2 rx ry q=>hr a b pins s2 σ H2 x y v u Q I2 rx ry q (hs _ _))
noncomputable def Zr9(K:PySem.W.Frag):R2:=fun x y H Q=>∃p xs i v,x=.ref p∧y=.int i∧SqL K H p xs∧atI xs i=some v∧Q v H
noncomputable def ZsE(K:PySem.W.Frag):R2:=fun x y H Q=>∃p xs i v,x=.ref p∧y=.int i∧SqT K H p xs∧atI xs i=some v∧Q v H
noncomputable def Ztx:R2:=fun x y H Q=>∃z i c,x=.str z∧y=.int i∧z.length≤sizeLine∧atI z.cps.toList i=some c∧Q (.str ⟨#[c]⟩) H
theorem ZpT:IxR X (Zr9 X.K):=by
 intro value slice pins s σ H x y v u Q I rx ry h hs
 obtain⟨p,xs,i,z,rfl,rfl,hq,he,q⟩:=h
 cases rx
 obtain⟨t,rfl⟩:=ry
 obtain⟨its,r,pl,hz⟩:=I.list hq
 obtain⟨j,h1,h2,h3,h4,h5⟩:=ZiH he
 obtain⟨w,ew,rw'⟩:=r.get h2
 have hl:=r.length
 have hn:=Ze6
 have fin:EP X pins σ Q w s:=⟨z,H,I,rw',q⟩
 by_cases h0:0≤i
 ·have hj:i.toNat=j:=by
   rw[seqIndex_of h0 h5]at h1
   exact Qr h1
  exact item_listR pl.isList h0 (by clear hj h0 h4 h3 hl;omega) (by rw[hj];simpa using ew) fin hs
 ·have hj:(i+(its.toArray.size:Int)).toNat=j:=by
   rw[seqIndex_neg (by omega) h4]at h1
   rw[Qt,← hl]
   exact Qr h1
  exact subscriptTail_builtinR (x:=w) pl.isList.typeIs slot_list_getitem.lookup
   (wpAny_getItem_list_neg (Q:=fun r s'=>r=w∧EP X pins σ Q r s') pl.isList (by omega) (by rw[Qt]<;>omega) (by clear hj h0 h5 h3 hl;omega) (by rw[hj];simpa using ew) ⟨rfl,fin⟩) hs
theorem ZrV:IxR X (ZsE X.K):=by
 intro value slice pins s σ H x y v u Q I rx ry h hs
 obtain⟨p,xs,i,z,rfl,rfl,hq,he,q⟩:=h
 cases rx
 obtain⟨t,rfl⟩:=ry
 obtain⟨its,r,pl,hz⟩:=I.tuple hq
 obtain⟨j,h1,h2,h3,h4,h5⟩:=ZiH he
 obtain⟨w,ew,rw'⟩:=r.get h2
 have hl:=r.length
 have hn:=Ze6
 have fin:EP X pins σ Q w s:=⟨z,H,I,rw',q⟩
 exact subscriptTail_builtinR (x:=w) pl.typeIs slot_tuple_getitem.lookup
  (getItem_tuple (j:=j) (Q:=fun r s'=>r=w∧EP X pins σ Q r s') pl (by clear h5 hl h3;omega) (by clear h4 hl h3;omega) (by rw[Qt,← hl];exact h1) (by simpa using ew) ⟨rfl,fin⟩) hs
theorem ZgF:IxR X Ztx:=by
 intro value slice pins s σ H x y v u Q I rx ry h hs
 obtain⟨z,i,c,rfl,rfl,hz,he,q⟩:=h
 obtain⟨t,rfl⟩:=rx
 obtain⟨t',rfl⟩:=ry
 obtain⟨j,h1,h2,h3,h4,h5⟩:=ZiH he
 have hl:z.cps.toList.length=z.length:=by simp[Str.length]
 rw[hl]at h1 h4 h5
 have hn:=Ze6
 exact tail_any (typeIs_str s z t) slot_str_getitem.lookup (getItem_str (c:=c) (by
  have e1:decide (i < -(2 ^ 63:Int))=false:=decide_eq_false (by clear h5 h3 hl;omega)
  have e2:decide (i≥2 ^ 63)=false:=decide_eq_false (by clear h4 h3 hl;omega)
  rw[e1,e2,Bool.or_false]) (by rw[h1];simpa using h2) ⟨.str ⟨#[c]⟩,H,I.tok _,⟨_,rfl⟩,q⟩) hs
theorem ZkC(its:List Value)(n j:Nat)(u:Value):Obj.mapSeq (·.setIfInBounds j u) { cls:=.type "list",data:=.seq its.toArray n }={ cls:=.type "list",data:=.seq (its.set j u).toArray n }:=by
 simp[Obj.mapSeq]
theorem Inv.lst{pins:List (Addr×Obj)}{σ:St}{H:Hp}{s:Shared}{p:Addr}{xs:List V}(I:Inv X pins σ H s)(h:H p=some (.lst xs)) :
  ∃ (its:List Value) (n:Nat),Zw xs its∧s.heap.get? p=some { cls:=.type "list",data:=.seq its.toArray n }∧xs.length≤sizeLine:=by
 obtain⟨z,its,n,r,e⟩:=I.hok p _ h
 exact⟨its,n,r,e,z⟩
theorem Inv.lstUpd{pins:List (Addr×Obj)}{σ:St}{H:Hp}{s:Shared}{p:Addr}{xs ys:List V}{its its':List Value}{n n':Nat}{f:Obj→Obj}(I:Inv X pins σ H s)(h:H p=some (.lst xs))
  (ho:s.heap.get? p=some { cls:=.type "list",data:=.seq its.toArray n }) (hf:f { cls:=.type "list",data:=.seq its.toArray n }={ cls:=.type "list",data:=.seq its'.toArray n' }) (r:Zw ys its') (hz:ys.length≤sizeLine) (t:Nat) :
  Inv X pins σ (upd H p (.lst ys)) { s with heap:=s.heap.update p f,toks:=t }:=by
 have e:(s.heap.update p f).get? p=some { cls:=.type "list",data:=.seq its'.toArray n' }:=by
  rw[Heap.get?_update_self f ho (by rw[hf]<;>rfl),hf]
 refine I.write (x:=p) (e:=p) (by rw[h];trivial) (.inl rfl) (fun b u hb q=>(Heap.get?_update_other _ _ (Ne.symm hb)).trans q) ⟨_,e⟩ ?_
 exact⟨hz,its',n',r,e⟩
noncomputable def Zr2:V→V→V→Hp→(Hp→Prop)→Prop:=fun o i v H Q=>∃p xs k j,o=.ref p∧i=.int k∧H p=some (.lst xs)∧ixN xs.length k=some j∧Q (upd H p (.lst (xs.set j v)))
theorem ZjY:Zn5 X Zr2:=by
 intro pins s σ H o i v ov iv u Q I ro ri rv h
 obtain⟨p,xs,k,j,rfl,rfl,hp,hj,q⟩:=h
 cases ro
 obtain⟨t,rfl⟩:=ri
 obtain⟨its,n,r,ho,hz⟩:=I.lst hp
 obtain⟨h1,h2,h3,h4⟩:=ZkR hj
 have hl:=r.length
 have hn:=Ze6
 have I':Inv X pins σ (upd H p (.lst (xs.set j v))) { s with heap:=s.heap.update p (Obj.mapSeq (·.setIfInBounds j u)) } :=
  I.lstUpd hp ho (ZkC its n j u) (r.set rv j) (by rw[List.length_set];exact hz) s.toks
 by_cases h0:0≤k
 ·have hk:k.toNat=j:=by
   rw[seqIndex_of h0 h4]at h1
   exact Qr h1
  exact PySem.W.ki_setAt ho h0 (by clear hk h0 h3 h2 hl;omega) (by rw[Qt,← hl];exact h4) (by rw[hk];exact⟨_,I',q⟩)
 ·have hk:(k+(its.toArray.size:Int)).toNat=j:=by
   rw[seqIndex_neg (by omega) h3]at h1
   rw[Qt,← hl]
   exact Qr h1
  exact PySem.W.ki_setBack ho (by omega) (by rw[Qt,← hl];exact h3) (by clear hk h0 h4 h2 hl;omega) (by rw[hk];exact⟨_,I',q⟩)
theorem Ziz(lo hi:Option Int)(n:Nat):(sliceBounds lo hi none n).1=((HT.sIx n 0 lo:Nat):Int)∧(sliceBounds lo hi none n).2.1=((HT.sIx n n hi:Nat):Int)∧(sliceBounds lo hi none n).2.2=1:=by
 refine⟨?_,?_,rfl⟩
 ·cases lo with
  | none=>simp[sliceBounds,HT.sIx]
  | some i =>
   simp only[sliceBounds,HT.sIx,Option.getD_none,show (1:Int)>0 by decide,if_true]
   by_cases h:i<0
   ·simp only[h,if_true]<;>omega
   ·simp only[h,if_false]<;>omega
 ·cases hi with
  | none=>simp[sliceBounds,HT.sIx]
  | some i =>
   simp only[sliceBounds,HT.sIx,Option.getD_none,show (1:Int)>0 by decide,if_true]
   by_cases h:i<0
   ·simp only[h,if_true]<;>omega
   ·simp only[h,if_false]<;>omega
theorem Zg4(its:List Value)(lo hi:Option Int):slicePick its.toArray lo hi none=((its.drop (HT.sIx its.length 0 lo)).take (HT.sIx its.length its.length hi-HT.sIx its.length 0 lo)).toArray:=by
 obtain⟨h1,h2,h3⟩:=Ziz lo hi its.toArray.size
 unfold slicePick
 rw[h1,h2,h3]
 simp only[sliceRange_one,pick_run,List.size_toArray]<;>rfl
noncomputable def Zsk(K:PySem.W.Frag):V→Option Int→Option Int→Hp→VK→Prop:=fun x lo hi H Q=>∃a xs,x=.ref a∧SqL K H a xs∧∀p,H p=none→Q (.ref p) (upd H p (.lst (ZeY xs lo hi)))
theorem ZpQ:SlR X (Zsk X.K):=by
 intro pins s σ H x v vl vu lo hi sl Q I rx hs pl pu h
 obtain⟨a,xs,rfl,hx,q⟩:=h
 cases rx
 obtain⟨its,r,ht,hz⟩:=I.list hx
 have hlen:=r.length
 refine⟨"list",_,slot_list_getitem.lookup,ht.isList.typeIs,?_⟩
 refine wpAny_getItem_list_slice ht.isList hs pl pu .none (by simp) ?_ (by rw[Qt]<;>omega)
 rw[Zg4,← hlen]
 refine⟨.ref s.heap.objs.size,_,I.laid (t':=s.toks) (o:=.lst (ZeY xs lo hi)) (fun b ob q=>Qj _ q) (Qg _) ?_,rfl,q _ (I.hok.fresh (Qg _))⟩
 exact⟨QJ (Zi1 xs lo hi) hz,_,0,(r.drop (HT.sIx xs.length 0 lo)).take (HT.sIx xs.length xs.length hi-HT.sIx xs.length 0 lo),QD _ rfl⟩
noncomputable def Zeo:V→Bool
 | .non=>true
 | .bl _=>true
 | .int _=>true
 | .str _=>true
 | _=>false
noncomputable def eqV:V→V→Bool
 | .non,.non=>true
 | .bl a,.bl b=>a == b
 | .bl a,.int b=>(if a then 1 else 0) == b
 | .int a,.bl b=>a == (if b then 1 else 0)
 | .int a,.int b=>a == b
 | .str a,.str b=>a == b
 | _,_=>false
theorem Zrb{A:Around}{s:Shared}{y x:V}{u v:Value}(ry:ZG y u)(rx:ZG x v)(fy:Zeo y=true)(fx:Zeo x=true):SeqAt.EqAt A s u v (eqV y x):=by
 cases y with
 | non =>
  cases ry
  cases x with
  | non=>cases rx;exact SeqAt.EqAt.same _
  | bl b=>cases rx;exact SeqAt.EqAt.none_bool b
  | int b=>obtain⟨t,rfl⟩:=rx;exact SeqAt.EqAt.none_int b t
  | str b=>obtain⟨t,rfl⟩:=rx;exact SeqAt.EqAt.none_str b t
  | _=>exact absurd (show false=true from fx) QC
 | bl a =>
  cases ry
  cases x with
  | non=>cases rx;exact SeqAt.EqAt.bool_none a
  | bl b=>cases rx;exact SeqAt.EqAt.bool_bool a b
  | int b=>obtain⟨t,rfl⟩:=rx;exact SeqAt.EqAt.bool_int a b t
  | str b=>obtain⟨t,rfl⟩:=rx;exact SeqAt.EqAt.bool_str a b t
  | _=>exact absurd (show false=true from fx) QC
 | int a =>
  obtain⟨t',rfl⟩:=ry
  cases x with
  | non=>cases rx;exact SeqAt.EqAt.int_none a t'
  | bl b=>cases rx;exact SeqAt.EqAt.int_bool a t' b
  | int b=>obtain⟨t,rfl⟩:=rx;exact SeqAt.EqAt.int_int a t' b t
  | str b=>obtain⟨t,rfl⟩:=rx;exact SeqAt.EqAt.int_str a t' b t
  | _=>exact absurd (show false=true from fx) QC
 | str a =>
  obtain⟨t',rfl⟩:=ry
  cases x with
  | non=>cases rx;exact SeqAt.EqAt.str_none a t'
  | bl b=>cases rx;exact SeqAt.EqAt.str_bool a t' b
  | int b=>obtain⟨t,rfl⟩:=rx;exact SeqAt.EqAt.str_int a t' b t
  | str b=>obtain⟨t,rfl⟩:=rx;exact SeqAt.EqAt.str_str a t' b t
  | _=>exact absurd (show false=true from fx) QC
 | _=>exact absurd (show false=true from fy) QC
noncomputable def eqU(x:V)(u:Value):Bool:=match u with
 | .none=>eqV .non x
 | .bool b=>eqV (.bl b) x
 | .int i _=>eqV (.int i) x
 | .str z _=>eqV (.str z) x
 | _=>false
theorem ZoI{x y:V}{u:Value}(r:ZG y u)(f:Zeo y=true):eqU x u=eqV y x:=by
 cases y with
 | non=>cases r;rfl
 | bl b=>cases r;rfl
 | int i=>obtain⟨t,rfl⟩:=r;rfl
 | str z=>obtain⟨t,rfl⟩:=r;rfl
 | _=>exact absurd (show false=true from f) QC
theorem Zih{x:V}:∀ {xs:List V} {us:List Value},Zw xs us→xs.all Zeo=true→us.any (eqU x)=xs.any fun y=>eqV y x
 | _,_,.nil,_=>rfl
 | y::xs,u::us,.cons r t,f=>by
  rw[List.all_cons,QaF]at f
  rw[Qay,Qay,ZoI r f.1,Zih t f.2]
theorem Zf8{A:Around}{s:Shared}{x:V}{v:Value}(rx:ZG x v)(fx:Zeo x=true):∀ {xs:List V} {us:List Value},Zw xs us→xs.all Zeo=true→∀u∈us,SeqAt.EqAt A s u v (eqU x u)
 | _,_,.nil,_=>fun u hu=>by cases hu
 | y::xs,u::us,.cons r t,f=>fun u' hu=>by
  rw[List.all_cons,QaF]at f
  rcases QK.mp hu with rfl|hu
  ·rw[ZoI r f.1];exact Zrb r rx f.1 fx
  ·exact Zf8 rx fx t f.2 u' hu
noncomputable def inV(x:V)(xs:List V):Bool:=xs.any fun y=>eqV y x
noncomputable def rIn(K:PySem.W.Frag)(neg:Bool):R2:=fun x y H Q=>∃p xs,y=.ref p∧(SqL K H p xs∨SqT K H p xs)∧Zeo x=true∧xs.all Zeo=true∧Q (.bl (if neg then !inV x xs else inV x xs)) H
theorem Zmq:OpR X (compareOp .In) (rIn X.K false):=by
 intro pins s σ H x y v u Q I rx ry h
 obtain⟨p,xs,rfl,hq,fx,fs,q⟩:=h
 cases ry
 rcases hq with hq|hq
 ·obtain⟨its,r,pl,hz⟩:=I.list hq
  refine SeqAt.in_listAt (eqU x) pl.isList (fun w hw=>Zf8 rx fx r fs w (by simpa using hw)) ⟨.bl _,H,I,rfl,?_⟩
  rw[show its.toArray.any (eqU x)=its.any (eqU x) by simp,Zih r fs]
  exact q
 ·obtain⟨its,r,pl,hz⟩:=I.tuple hq
  refine SeqAt.in_tupleAt (eqU x) pl (fun w hw=>Zf8 rx fx r fs w (by simpa using hw)) ⟨.bl _,H,I,rfl,?_⟩
  rw[show its.toArray.any (eqU x)=its.any (eqU x) by simp,Zih r fs]
  exact q
theorem ZiM:Zae X (.builtin "len") (fun xs H Q=>∃p ys,xs=[.ref p]∧(SqL X.K H p ys∨SqT X.K H p ys)∧Q (.int ys.length) H):=by
 intro pins s σ H xs us Q I r h
 obtain⟨p,ys,rfl,hq,q⟩:=h
 obtain⟨u,rfl,rx⟩:=ZbJ r
 cases rx
 have hn:=Ze6
 rcases hq with hq|hq
 ·obtain⟨its,r',pl,hz⟩:=I.list hq
  have hlen:=r'.length
  exact Calls.call_len_list pl.isList (by simp only[List.size_toArray]<;>omega) ⟨.int ys.length,H,I.tok _,⟨s.toks+1,by rw[Qt,hlen]⟩,q⟩
 ·obtain⟨its,r',pl,hz⟩:=I.tuple hq
  have hlen:=r'.length
  exact len_tuple pl (by simp only[List.size_toArray]<;>omega) ⟨.int ys.length,H,I.tok _,⟨s.toks+1,by rw[Qt,hlen]⟩,q⟩
theorem Zba:Zae X (.builtin "len") (fun xs H Q=>∃z,xs=[.str z]∧z.length≤sizeLine∧Q (.int z.length) H):=by
 intro pins s σ H xs us Q I r h
 obtain⟨z,rfl,hz,q⟩:=h
 obtain⟨u,rfl,t,rfl⟩:=ZbJ r
 have hn:=Ze6
 exact len_str (by omega) ⟨.int z.length,H,I.tok _,⟨_,rfl⟩,q⟩
theorem ZiN:Zae X (.type "list") (fun xs H Q=>∃p ys,xs=[.ref p]∧(SqL X.K H p ys∨SqT X.K H p ys)∧∀l,H l=none→Q (.ref l) (upd H l (.lst ys))):=by
 intro pins s σ H xs us Q I r h
 obtain⟨p,ys,rfl,hq,q⟩:=h
 obtain⟨u,rfl,rx⟩:=ZbJ r
 cases rx
 have fin:∀ (its:List Value),Zw ys its→ys.length≤sizeLine→∀ (h':Heap) (c':Nat),(∀b o',s.heap.get? b=some o'→h'.get? b=some o') →
   h'.get? s.heap.objs.size=some { cls:=.type "list",dict:=none,data:=.seq its.toArray c',slots:=#[] }→EP X pins σ Q (.ref s.heap.objs.size) { s with heap:=h' }:=fun its r' hz h' c' kp e =>
  ⟨.ref s.heap.objs.size,_,I.laid (t':=s.toks) kp (Qg _) (show Zap X.prog X.w _ h' _ (.lst ys) from⟨hz,its,c',r',e⟩),rfl,q _ (I.hok.fresh (Qg _))⟩
 rcases hq with hq|hq
 ·obtain⟨its,r',pl,hz⟩:=I.list hq
  have hlen:=r'.length
  obtain⟨o,ho,hc,n,hd⟩:=pl.isList
  exact call_list_seq p (.inl rfl) ho hc hd (fun h' c' kp e=>fin its r' hz h' c' kp e) (by simp only[List.size_toArray]<;>omega)
 ·obtain⟨its,r',pl,hz⟩:=I.tuple hq
  have hlen:=r'.length
  obtain⟨o,ho,hc,n,hd⟩:=pl
  exact call_list_seq p (.inr rfl) ho hc hd (fun h' c' kp e=>fin its r' hz h' c' kp e) (by simp only[List.size_toArray]<;>omega)
theorem ZgY:Zae X (.type "tuple") (fun xs H Q=>∃p ys,xs=[.ref p]∧((SqL X.K H p ys∧∀l,H l=none→Q (.ref l) (upd H l (.tup ys)))∨(SqT X.K H p ys∧Q (.ref p) H))):=by
 intro pins s σ H xs us Q I r h
 obtain⟨p,ys,rfl,h⟩:=h
 obtain⟨u,rfl,rx⟩:=ZbJ r
 cases rx
 rcases h with⟨hq,q⟩|⟨hq,q⟩
 ·obtain⟨its,r',pl,hz⟩:=I.list hq
  have hlen:=r'.length
  refine call_tuple_list pl.isList (fun h' kp=>?_) (by simp only[List.size_toArray]<;>omega)
  have I1:Inv X pins σ H { s with heap:=h' }:=I.kept (t':=s.toks) kp
  have I2:Inv X pins σ (upd H h'.objs.size (.tup ys)) { s with heap:=h'.push { cls:=.type "tuple",data:=.seq its.toArray } } :=
   I1.laid (t':=s.toks) (fun b o e=>Qj _ e) (Qg _) (show Zap X.prog X.w _ _ _ (.tup ys) from⟨hz,its,r',IsTup.new _ _⟩)
  exact⟨.ref h'.objs.size,_,I2,rfl,q _ (I1.hok.fresh (Qg _))⟩
 ·obtain⟨its,r',pl,hz⟩:=I.tuple hq
  exact call_tuple_same pl ⟨.ref p,H,I,rfl,q⟩
noncomputable def tyV(K:PySem.W.Frag)(T:String)(x:V)(H:Hp):Prop:=match x with
 | .str _=>T = "str"
 | .int _=>T = "int"
 | .ref p=>(T = "list"∧∃xs,SqL K H p xs)∨(T = "tuple"∧∃o,K.lookup p=some o∧o.cls=.type "tuple"∧o.dict=none) ∨
   (T = "dict"∧((∃kvs,H p=some (.dK kvs))∨∃kvs,H p=some (.dT kvs)))∨(T = "set"∧∃S n,H p=some (.set S n))
 | _=>False
theorem Zm3{pins:List (Addr×Obj)}{σ:St}{H:Hp}{s:Shared}{T:String}{x:V}{v:Value}(I:Inv X pins σ H s)(r:ZG x v)(ty:tyV X.K T x H) :
  s.TypeIs v T∧∀a,v=.ref a→∃ob,s.heap.get? a=some ob∧ob.dict=none:=by
 cases x with
 | str z =>
  obtain⟨t,rfl⟩:=r
  cases (show T = "str" from ty)
  exact⟨typeIs_str s z t,fun _ e=>nomatch e⟩
 | int i =>
  obtain⟨t,rfl⟩:=r
  cases (show T = "int" from ty)
  exact⟨typeIs_int s i t,fun _ e=>nomatch e⟩
 | ref p =>
  cases r
  rcases ty with⟨rfl,xs,hq⟩|⟨rfl,o,hk,hc,hd⟩|⟨rfl,hk⟩|⟨rfl,S,n,hk⟩
  ·obtain⟨its,_,pl,_⟩:=I.list hq
   refine⟨pl.isList.typeIs,fun a e=>?_⟩
   cases e
   obtain⟨o,n,e,c,hd,_⟩:=pl
   exact⟨o,e,hd⟩
  ·refine⟨⟨o,I.kIn p o hk,hc⟩,fun a e=>?_⟩
   cases e
   exact⟨o,I.kIn _ o hk,hd⟩
  ·have z:∃o,s.heap.get? p=some o∧o.ExactDict:=by
    rcases hk with⟨kvs,hk⟩|⟨kvs,hk⟩
    ·obtain⟨_,_,_,_,o,_,_,e,ex,_⟩:=I.hok p _ hk
     exact⟨o,e,ex⟩
    ·obtain⟨_,_,_,_,o,_,_,e,ex,_⟩:=I.hok p _ hk
     exact⟨o,e,ex⟩
   obtain⟨o,e,ex⟩:=z
   refine⟨⟨o,e,ex.1⟩,fun a e2=>?_⟩
   cases e2
   exact⟨o,e,ex.2.1⟩
  ·obtain⟨o,_,_,_,e,ex,_⟩:=I.hok p _ hk
   refine⟨⟨o,e,ex.1⟩,fun a e2=>?_⟩
   cases e2
   exact⟨o,e,ex.2.1⟩
 | _=>exact False.elim ty
noncomputable def Zs7(K:PySem.W.Frag)(T:String)(r:V→List V→Hp→VK→Prop)(to:TE):TE:=fun σ H Q=>to σ H fun x H1=>tyV K T x H1∧r x [] H1 Q
noncomputable def tBM(K:PySem.W.Frag)(T:String)(r:V→List V→Hp→VK→Prop)(to:TE)(t:TA):TE:=fun σ H Q=>to σ H fun x H1=>tyV K T x H1∧t σ H1 fun xs H2=>r x xs H2 Q
variable {o e:Expr} {es:List Expr} {to:TE} {t:TA} {name:Str} {apos cpos:Pos} {T id:String} {r:V→List V→Hp→VK→Prop}
theorem Zrg(pa:PlainAttrs T)(slot:Slot T name id)(hty:typeOf (.builtin id)=pure (.type "method_descriptor"))(hm:MtR X id r)(ho:PE X o to)
  (hbase:attributeBase o name X.env (eval o X.env)=eval o X.env:=by rfl) (hline:(apos.endLine == cpos.line)=true:=by rfl):PE X (.Call (.Attribute o name apos) [] [] cpos) (Zs7 X.K T r to):=by
 intro pins s σ H Q I h
 refine wpAny_Call_method0_late hbase hline (thn (ho pins s σ H _ I h) ?_)
 rintro v s1 ⟨x,H1,I1,r1,ty,q1⟩
 obtain⟨h1,h2⟩:=Zm3 I1 r1 ty
 exact⟨T,id,pa,slot,hty,h1,h2,Calls.callWith_builtin rfl (PySem.evalArgs_none (hm pins s1 σ H1 x [] v [] Q I1 r1 .nil q1))⟩
theorem ZcA(pa:PlainAttrs T)(slot:Slot T name id)(hty:typeOf (.builtin id)=pure (.type "method_descriptor"))(hm:MtR X id r)(ho:PE X o to)(ha:PA X (e::es) t)
  (hbase:attributeBase o name X.env (eval o X.env)=eval o X.env:=by rfl)
  (hfew:((backTo cpos (starEach (e::es) X.env)).all (fun x=>!x.1)&&(backToKw cpos (keywordEach [] X.env)).all (fun x=>x.1.isSome)
   && decide ((e::es).length+([]:List Keyword).length+(if ([]:List Keyword).isEmpty then 0 else 1)<30))=true:=by rfl)
  (hline:(apos.endLine == cpos.line)=true:=by rfl) (hs:starEach (e::es) X.env=(false,eval e X.env)::starEach es X.env:=by rfl) (hplain:(backTo cpos (starEach es X.env)).any (·.1)=false:=by rfl) :
  PE X (.Call (.Attribute o name apos) (e::es) [] cpos) (tBM X.K T r to t):=by
 intro pins s σ H Q I h
 refine wpAny_Call_method_late hbase hfew hline rfl (thn (ho pins s σ H _ I h) ?_)
 rintro v s1 ⟨x,H1,I1,r1,ty,q1⟩
 obtain⟨h1,h2⟩:=Zm3 I1 r1 ty
 refine⟨T,id,pa,slot,hty,h1,h2,?_⟩
 have hA:=ha cpos pins s1 σ H1 _ I1 q1
 rw[hs]at hA ⊢
 refine Calls.callWith_builtin (by show (false||(backTo cpos (starEach es X.env)).any (·.1))=false;rw[hplain]<;>rfl) (Calls.evalArgs_plain ?_)
 exact thn hA fun us s2 ⟨vs,H2,I2,r2,q2⟩=>hm pins s2 σ H2 x vs v us Q I2 r1 r2 q2
end
noncomputable def MtM(X:Cx)(id:String)(r:V→List V→Hp→VK→Prop):Prop :=
 ∀ (pins:List (Addr×Obj)) (s:Shared) (σ:St) (H:Hp) (x:V) (xs:List V) (v:Value) (us:List Value) (Q:VK),Inv X pins σ H s→ZG x v→Zw xs us→r x xs H Q →
  wpAny (model X.prog X.w) X.A (call (.builtin id) (v::us)) (EP X pins σ Q) X.xe s
theorem Zw.one:∀ {x:V} {us:List Value},Zw [x] us→∃u,us=[u]∧ZG x u
 | _,_,.cons r .nil=>⟨_,rfl,r⟩
theorem Zw.zero:∀ {us:List Value},Zw [] us→us=[]
 | _,.nil=>rfl
theorem Zw.eraseIdx:∀ {xs:List V} {us:List Value} (i:Nat),Zw xs us→Zw (xs.eraseIdx i) (us.eraseIdx i)
 | _,_,_,.nil=>.nil
 | _,_,0,.cons _ t=>t
 | _,_,i+1,.cons r t=>.cons r (Zw.eraseIdx i t)
theorem Zw.reverse{xs:List V}{us:List Value}(h:Zw xs us):Zw xs.reverse us.reverse:=by
 induction h with
 | nil=>exact .nil
 | cons r t ih=>rw[Qaz,Qaz];exact Zw.append ih (.cons r .nil)
theorem ZhA{α:Type}:∀ (l:List α) (i:Nat),(l.eraseIdx i).length≤l.length
 | [],_=>Qg _
 | _::_,0=>Q4 _
 | _::r,i+1=>QaZ (ZhA r i)
section
variable {X:Cx} {pins:List (Addr×Obj)} {σ:St} {H:Hp} {s:Shared} {l b:Addr} {xs ys zs:List V}
theorem Inv.lset{its its':List Value}{n:Nat}{f:Array Value→Array Value}{t':Nat}(I:Inv X pins σ H s)(hH:H l=some (.lst xs))
  (e:s.heap.get? l=some { cls:=.type "list",data:=.seq its.toArray n }) (hf:f its.toArray=its'.toArray) (hv:Zw ys its') (hz:ys.length≤sizeLine) :
  Inv X pins σ (upd H l (.lst ys)) { s with heap:=s.heap.update l (Obj.mapSeq f),toks:=t' }:=by
 have q:=PySem.IsL.update e f
 rw[hf]at q
 refine I.write (x:=l) (e:=l) (by rw[hH];exact trivial) (.inl rfl) (fun b' u hb hu=>(Heap.get?_update_other s.heap (Obj.mapSeq f) (Ne.symm hb)).trans hu) ⟨_,q⟩ ?_
 exact⟨hz,its',_,hv,q⟩
theorem Inv.lnew{its:List Value}{t':Nat}(I:Inv X pins σ H s)(hv:Zw ys its)(hz:ys.length≤sizeLine) :
  Inv X pins σ (upd H s.heap.objs.size (.lst ys)) { s with heap:=s.heap.push { cls:=.type "list",data:=.seq its.toArray },toks:=t' } :=
 I.laid (fun _ _ q=>Qj _ q) (Qg _) ⟨hz,its,0,hv,QD _ rfl⟩
theorem Inv.fresh(I:Inv X pins σ H s):H s.heap.objs.size=none:=I.hok.fresh (Qg _)
theorem Inv.lstM(I:Inv X pins σ H s)(hH:H l=some (.lst xs)):xs.length≤sizeLine∧∃ (its:List Value) (n:Nat),Zw xs its∧xs.length=its.length∧s.heap.get? l=some { cls:=.type "list",data:=.seq its.toArray n }:=by
 obtain⟨z,its,n,r,e⟩:=I.hok l _ hH
 exact⟨z,its,n,r,r.length,e⟩
theorem Zjq{n:Nat}(h:n≤sizeLine):Builtin.List.listTooLong n=false:=by
 unfold Builtin.List.listTooLong
 exact decide_eq_false (by omega)
end
section
variable {X:Cx}
noncomputable def ZoS:V→List V→Hp→VK→Prop:=fun x vs H Q=>∃l xs y,x=.ref l∧vs=[y]∧H l=some (.lst xs)∧xs.length<sizeLine∧Q .non (upd H l (.lst (xs++[y])))
theorem Zay:MtM X "list.append" ZoS:=by
 intro pins s σ H x vs v us Q I rx rv h
 obtain⟨l,xs,y,rfl,rfl,hH,hz,q⟩:=h
 cases rx
 obtain⟨u,rfl,ru⟩:=rv.one
 obtain⟨z,its,n,r,hl,e⟩:=I.lstM hH
 refine call_meets F.slot_list_append ⟨_,e,rfl⟩ F.entry_list_append (F.args_list_append_2 _ _) (PySem.list_append l its.toArray n u (by rw[Qt];omega)) ⟨e,?_⟩
 refine⟨.non,_,I.lset (its':=its++[u]) hH e (by simp) (r.append (.cons ru .nil)) ?_,rfl,q⟩
 rw[Qe,Qm]
 omega
noncomputable def ZrF:V→List V→Hp→VK→Prop:=fun x vs H Q=>∃l xs i k y,x=.ref l∧vs=[.int i]∧H l=some (.lst xs) ∧ -(2 ^ 63)≤i∧i<2 ^ 63∧seqIndex? i xs.length=some k∧xs[k]? = some y∧Q y (upd H l (.lst (xs.eraseIdx k)))
theorem Zng:MtM X "list.pop" ZrF:=by
 intro pins s σ H x vs v us Q I rx rv h
 obtain⟨l,xs,i,k,y,rfl,rfl,hH,h1,h2,hk,hy,q⟩:=h
 cases rx
 obtain⟨u,rfl,ru⟩:=rv.one
 obtain⟨t,rfl⟩:=ru
 obtain⟨z,its,n,r,hl,e⟩:=I.lstM hH
 obtain⟨w,hw,rw'⟩:=r.get hy
 refine call_meets F.slot_list_pop ⟨_,e,rfl⟩ F.entry_list_pop (F.args_list_pop_2 _ _)
  (MeetsSeq.list_pop_at l its.toArray n i t k w (fitsIndex_both h1 h2) (by rw[Qt,← hl];exact hk) (by rw[← Array.getElem?_toList];exact hw) (by rw[Qt];omega)) ⟨e,?_⟩
 refine⟨y,_,I.lset (its':=its.eraseIdx k) hH e ?_ (r.eraseIdx k) ?_,rw',q⟩
 ·show its.toArray.eraseIdxIfInBounds k=(its.eraseIdx k).toArray
  rw[Qat]
 ·have:=ZhA xs k
  omega
noncomputable def ZmD:V→List V→Hp→VK→Prop:=fun x vs H Q=>∃l xs,x=.ref l∧vs=[]∧H l=some (.lst xs)∧Q .non (upd H l (.lst xs.reverse))
theorem Zj9:MtM X "list.reverse" ZmD:=by
 intro pins s σ H x vs v us Q I rx rv h
 obtain⟨l,xs,rfl,rfl,hH,q⟩:=h
 cases rx
 have hus:=rv.zero
 subst hus
 obtain⟨z,its,n,r,hl,e⟩:=I.lstM hH
 refine call_meets F.slot_list_reverse ⟨_,e,rfl⟩ F.entry_list_reverse (F.args_list_reverse_1 _) (AutoSeq1.list_reverse_list_0 l its.toArray n (by rw[Qt];omega)) ⟨e,?_⟩
 refine⟨.non,_,I.lset (its':=its.reverse) hH e (by simp) r.reverse ?_,rfl,q⟩
 rw[List.length_reverse]
 omega
noncomputable def Ztw:R2:=fun x y H Q=>∃l b xs zs,x=.ref l∧y=.ref b∧H l=some (.lst xs)∧H b=some (.lst zs)∧xs.length+zs.length≤sizeLine∧∀p,H p=none→Q (.ref p) (upd H p (.lst (xs++zs)))
theorem ZqZ:OpR X (binaryOp .Add) Ztw:=by
 intro pins s σ H x y v u Q I rx ry h
 obtain⟨l,b,xs,zs,rfl,rfl,hH,hB,hz,q⟩:=h
 cases rx
 cases ry
 obtain⟨z,its,n,r,hl,e⟩:=I.lstM hH
 obtain⟨z2,its2,n2,r2,hl2,e2⟩:=I.lstM hB
 refine PySem.P.add_list e e2 ?_ (by rw[Qt,Qt];omega)
 have ea:its.toArray++its2.toArray=(its++its2).toArray:=by simp
 rw[ea]
 exact⟨.ref _,_,I.lnew (t':=s.toks) (r.append r2) (by rw[Qe];omega),rfl,q _ I.fresh⟩
end
section
variable {prog:Program} {w:World} {A:Around} {E:Value→Shared→Prop} {s:Shared}
theorem Zme(its its2:List Value)(a c:Nat):its.toArray.extract 0 a++its2.toArray++its.toArray.extract c its.toArray.size=(its.take a++its2++its.drop c).toArray:=by
 apply Array.toList_inj.mp
 first
  | (simp;exact Qy (by simp))
  | simp[List.take_of_length_le]
  | simp
theorem Zkm{a c n:Nat}(hac:a≤c)(hc:c≤n):sliceBounds (some (a:Int)) (some (c:Int)) none n=((a:Int),(c:Int),1):=by
 simp only[sliceBounds,Option.getD_none]
 have h1:¬ ((a:Int)<0):=by omega
 have h2:¬ ((c:Int)<0):=by omega
 simp only[h1,h2,if_false,show (1:Int)>0 by decide,if_true]
 congr 1
 ·omega
 ·congr 1;clear h2 h1 hac;omega
theorem ZgS{l b sl:Addr}{items new:Array Value}{n n2:Nat}{vl vu:Value}{a c:Nat}{Q:Unit→Shared→Prop}
  (e:s.heap.get? l=some { cls:=.type "list",data:=.seq items n }) (e2:s.heap.get? b=some { cls:=.type "list",data:=.seq new n2 }) (hne:l≠b)
  (hs:s.heap.IsSliceOf sl vl vu .none) (pl:IsPart vl (some (a:Int))) (pu:IsPart vu (some (c:Int))) (hac:a≤c) (hc:c≤items.size)
  (hsz:items.size+new.size≤sizeLine) (h:Q () { s with heap:=s.heap.update l (Obj.mapSeq fun xs=>xs.extract 0 a++new++xs.extract c xs.size) }) :
  wpAny (model prog w) A (setItem (.ref l) (.ref sl) (.ref b)) Q E s:=by
 have hl:s.heap.IsList l items:=PySem.IsL.isList e
 have hb:s.heap.IsList b new:=PySem.IsL.isList e2
 obtain⟨os,hos,hcs,hds⟩:=id hs
 have hTs:s.TypeIs (.ref sl) "slice":=⟨os,hos,hcs⟩
 have hstep:¬ ((rawPart none == rawInt 0)=true):=QC
 have hsame:Builtin.List.listSameRef (.ref l) (.ref b)=false:=by
  unfold Builtin.List.listSameRef
  exact beq_eq_false_iff_ne.mpr hne
 have hmax:(max (a:Int) (c:Int)).toNat=c:=by omega
 have hz':((fun xs:Array Value=>xs.extract 0 a++new++xs.extract c xs.size) items).size≤sizeLine+1:=by
  simp only[Array.size_append,Array.size_extract]
  clear hstep hne hmax hc;omega
 unfold setItem
 try with_reducible refine wpAny_holding ?_
 first|refine wpAny_bind (wpAny_pure ?_)|skip
 refine wpAny_bind (wpAny_sequenceKey hl.typeIs (by decide) ?_)
 refine wpAny_bind (wpAny_callSpecial?_slot (name:=Str.ofString "__setitem__") hl.typeIs slot_list_setitem
  (wpAny_call_entry slot_list_setitem hl.typeIs entry_list_setitem ?_ (args_list_setitem _ _ _)))
 show wpAny _ _ (Builtin.List.listSubscript? (.ref sl) >>= _) _ _ s
 refine wpAny_bind ?_
 unfold Builtin.List.listSubscript?
 refine wpAny_bind (wpAny_specialOf hTs slice_no_index ?_)
 simp only[Option.isNone_none,if_true]
 refine wpAny_pure ?_
 show wpAny _ _ (typeOf (.ref sl) >>= _) _ _ s
 refine wpAny_bind (wpAny_typeOf hTs ?_)
 first
  | rw[if_neg (by decide)]
  | refine PySem.W.KFB.if_not (by decide) ?_
 rw[listSliceParts_eq]
 refine wpAny_bind (wpAny_bind (wpAny_field hos hds (x:=.none) rfl (wpAny_bind (wpAny_listPart .none ?_))))
 rw[if_neg hstep]
 refine wpAny_bind (wpAny_field hos hds (x:=vl) rfl (wpAny_bind (wpAny_listPart pl ?_)))
 refine wpAny_bind (wpAny_field hos hds (x:=vu) rfl (wpAny_bind (wpAny_listPart pu (wpAny_pure ?_))))
 first
  | simp only[hsame,Bool.false_eq_true,if_false]
  | refine PySem.W.KFB.if_not hsame ?_
  | (dsimp only;rw[if_neg (by rw[hsame];exact QC)])
 refine wpAny_bind (m:=Builtin.List.listAllItems (.ref b) "must assign iterable to extended slice") ?_
 unfold Builtin.List.listAllItems
 refine wpAny_bind (wpAny_typeOf hb.typeIs ?_)
 first
  | refine PySem.W.KFB.if_so (by decide) ?_
  | rw[if_pos (by decide)]
  | simp only[beq_self_eq_true,Bool.true_or,if_true]
 unfold Builtin.List.listItems
 refine wpAny_bind (wpAny_seqItems e2 rfl (wpAny_pure ?_))
 refine wpAny_bind (wpAny_bind (wpAny_seqItems e rfl (wpAny_pure ?_)))
 refine wpAny_bind (wpAny_of_eq ((sliceIndices_raw (some (a:Int)) (some (c:Int)) none items.size (by simp)).trans (congrArg (pure:Int×Int×Int→Sem (Int×Int×Int)) (Zkm hac hc))) ?_)
 show wpAny _ _ (if ((1:Int) == 1)=true then _ else _) _ _ s
 rw[if_pos (by decide)]
 refine wpAny_bind (wpAny_rule ?_)
 first
  | simp only[Zjq hsz,Bool.false_eq_true,if_false]
  | refine PySem.W.KFB.if_not (Zjq hsz) ?_
 first|refine wpAny_bind (wpAny_pure ?_)|skip
 show wpAny _ _ (updateSeq l (fun xs=>xs.extract 0 ((a:Int)).toNat++new++xs.extract (max (a:Int) (c:Int)).toNat xs.size) >>= _) _ _ s
 rw[hmax,Q5]
 refine wpAny_bind (wpAny_updateSeq (hz:=QJ (Nat.le_add_right _ _) hsz) (_hz':=hz') e rfl ?_)
 refine wpAny_bind (wpAny_letGo ?_)
 first
  | exact wpAny_bind (wpAny_pure (wpAny_pure ⟨.none,rfl,wpAny_pure h⟩))
  | exact wpAny_pure ⟨.none,rfl,wpAny_pure h⟩
end
section
variable {X:Cx}
theorem Zmm{pins:List (Addr×Obj)}{s:Shared}{σ:St}{H:Hp}{l b sl:Addr}{xs ys:List V}{a c:Int}{vl vu:Value}{Q:Unit→Shared→Prop}(I:Inv X pins σ H s)
  (hH:H l=some (.lst xs)) (hB:H b=some (.lst ys)) (hne:l≠b) (hs:s.heap.IsSliceOf sl vl vu .none) (ra:ZG (.int a) vl) (rc:ZG (.int c) vu) (h0:0≤a) (hac:a≤c) (hc:c≤xs.length)
  (hz:xs.length+ys.length≤sizeLine) (h:∀s',Inv X pins σ (upd H l (.lst (xs.take a.toNat++ys++xs.drop c.toNat))) s'→Q () s') :
  wpAny (model X.prog X.w) X.A (setItem (.ref l) (.ref sl) (.ref b)) Q X.xe s:=by
 obtain⟨ta,rfl⟩:=ra
 obtain⟨tc,rfl⟩:=rc
 obtain⟨z,its,n,r,hl,e⟩:=I.lstM hH
 obtain⟨z2,its2,n2,r2,hl2,e2⟩:=I.lstM hB
 obtain⟨a',rfl⟩:=Int.eq_ofNat_of_zero_le h0
 obtain⟨c',rfl⟩:=Int.eq_ofNat_of_zero_le (Int.le_trans h0 hac)
 simp only[Int.toNat_natCast]at h
 refine ZgS (a:=a') (c:=c') e e2 hne hs (.int _ _) (.int _ _) (by omega) (by rw[Qt];omega) (by rw[Qt,Qt];omega) (h _ ?_)
 refine I.lset (its':=its.take a'++its2++its.drop c') (t':=s.toks) hH e ?_ (Zw.append (Zw.append (r.take _) r2) (r.drop _)) ?_
 ·exact Zme its its2 a' c'
 ·rw[Qe,Qe,Qx,QR]
  clear h h0 z2 z hne hc hl2 hl;omega
end
end L2
namespace Att
open PySem PySem.W PySem.Calls PyProof.Rows
theorem ZfI{P:Params}{h:Heap}:∀ (ns:List Int) (vs:List Value),WellAll P h vs (ns.map WData.int)→IntsAre vs ns:=by
 intro ns
 induction ns with
 | nil =>
  intro vs w
  rw[Qag]at w
  cases w
  exact .nil
 | cons n ns ih =>
  intro vs w
  rw[Ql]at w
  cases w with
  | cons a b =>
   cases a
   exact .cons _ _ (ih _ b)
theorem Zmz{l:OpenLaw}{n:Nat}(hn:l.most=some n){P:Params}{h:Heap}{args:List WData}{vals:List Value}
  (hpre:l.row.toRowW.claim.pre args=true) (hwl:WellAll P h vals args) :
  ∃a vs ns,vals=[Value.ref a]∧args=[WData.list (ns.map WData.int)]∧h.get? a=some { cls:=.type "list",data:=.seq vs.toArray }∧IntsAre vs ns∧ns.length≤n:=by
 have hsh:WShape.hasAll [] args [.list .int]=true:=(pre_splitW hpre).1
 have hc:l.pre.holds [] { args:=args }=true:=(pre_splitW hpre).2
 obtain⟨d,r,rfl,h1,h2⟩:=hasAllW_cons hsh
 obtain rfl:=hasAllW_nil h2
 obtain⟨xs,rfl,h3⟩:=hasW_list h1
 obtain⟨ns,rfl⟩:=items_int h3
 have hlen:ns.length≤n:=by
  unfold OpenLaw.pre at hc
  have h4:(WTm.not (.lt (.lit (.int (n:Int))) (.len (.arg 0)))).holds [] { args:=[.list (ns.map .int)] }=true:=by
   have h4:=(holds_andW hc).1
   rw[hn]at h4
   exact h4
  have h5:=condW_of h4 (w_not (w_lt w_lit (w_len_list (w_arg rfl))))
  rw[Qa]at h5
  refine Nat.le_of_not_lt fun q=>?_
  have q':(n:Int)<((ns.length:Nat):Int):=by omega
  first
   | (rw[decide_eq_true q']at h5;exact absurd h5 (by decide))
   | (simp at h5;omega)
 cases hwl with
 | cons w1 w2 =>
  cases w2
  cases w1 with
  | list ho hall=>exact⟨_,_,ns,rfl,rfl,ho,ZfI ns _ hall,hlen⟩
theorem Zl3(l:OpenLaw)(args:List WData):l.row.toRowW.claim.post args (.bool true) args=true :=
 postW_of (r:=l.row.toRowW) (X:=(true == true))
  (show WShape.has [] (.bool true) .bool=true by first|rfl|decide|simp[WShape.has,WShape.arms,WShape.armsAll])
  (show (WTm.eq .res (.lit (.bool true))).value [] { args:=args,res:=some (.bool true),after:=args }=some (.bool (true == true)) from w_eq_bool (w_res rfl) w_lit) rfl
theorem attach_call{l:OpenLaw}{n:Nat}{q:Program}{loose:List Str}{XP:(Str→Option Value)→Heap→Prop}{YP:World→Heap→Prop}{d:DefRec}
  (hn:l.most=some n) (hdf:d.params.defaults=[])
  (call:∀ (w:World) (s₀ s₁:Shared) (mg mb:Str→Option Value) (fa:Addr) (o:Obj) (pm cd doc:Value) (a:Addr) (vs:List Value) (ns:List Int),
   Ground q loose [] XP w s₀ mg mb s₁.heap→YP w s₁.heap →
   s₁.heap.get? fa=some o→o.data=.func (docDef d.name d.params d.body d.scope pm cd doc)→s₁.heap.CodeRec cd d.name→mg d.name=some (.ref fa) →
   s₁.heap.get? a=some { cls:=.type "list",data:=.seq vs.toArray }→IntsAre vs ns→ns.length≤n→s₁.gens = #[] →
   codeAny (model l.prog w) callerA (.call (.ref fa) ⟨[.ref a],[]⟩) (fun r s'=>r=.ok (.ret (.bool true))∧OldK s₁.heap s'.heap∧s'.os=s₁.os∧AllBare s'.gens) s₁) :
  WalkO q loose XP YP l.row.toRowW d [] (fun f vs=>PySem.call f vs):=by
 intro w s₀ s₁ mg mb G Y fa o pm cd doc dV kV ho hd hcd hD hmg hg args vals as hpre hlay hrd hwl hlo
 obtain rfl:dV=.none:=Dflts.none hD hdf
 obtain rfl:kV=.none:=Dflts.noKw hD
 obtain⟨a,vs,ns,rfl,rfl,hobj,hints,hlen⟩:=Zmz hn hpre hwl
 refine enter_call (codeAny_mono (call w s₀ s₁ mg mb fa o pm cd doc a vs ns G Y ho (fd_plain hd) hcd hmg hobj hints hlen hg) fun r s' hq=>?_)
 obtain⟨rfl,h2,h3,h4⟩:=hq
 exact⟨.inl ⟨.bool true,.bool true,[],rfl,fun _=>rfl,.bool true,Zl3 l _,fun _=>⟨List.Pairwise.nil,fun _ hm=>(nomatch hm)⟩⟩,h2,h3,h4⟩
section
variable {prog:Program} {w:World} {A:Around} {E:Value→Shared→Prop} {s:Shared} {K:Frag}
end
end Att
namespace L2
open PySem PySem.Spec PyProof.Rows
theorem Zfd:∀ {vs:List Value} {ns:List Int},IntsAre vs ns→Zw (ns.map V.int) vs
 | _,_,.nil=>.nil
 | _,_,.cons n t h=>.cons ⟨t,rfl⟩ (Zfd h)
noncomputable def Zq5(H:Hp):Prop:=∀b,H b=none∨∃o xs,H b=some (.frz o (.lst xs))
theorem Zot{P:Program}{w:World}{K:PySem.W.Frag}{mg mb:Str→Option Value}{CX:CXT}{k:Nat}{fa a:Addr}{fd:FuncData}{x:Str}{sp:Sp}{s₁:Shared}{vs:List Value}{ns:List Int}
  (KX:K.In s₁.heap) (hns:s₁.heap.Ns mainGlobals mg) (hb:s₁.heap.Ns builtinsNs mb) (hbb:∀x:Str,x ≠ "__name__"→mb x=bootBuiltins x) (hlim:s₁.heap.NoLimit) (hg:s₁.gens = #[])
  (ha:s₁.heap.get? a=some { cls:=.type "list",data:=.seq vs.toArray }) (hi:IntsAre vs ns) (hl:ns.length≤sizeLine) (hr:ZaN k callerA)
  (F:∀base:Heap,K.In base→base.Ns mainGlobals mg→Zem P w K mg base CX k fa fd [x] sp) (hbind:∀ (s:Shared) (u:Value),BindsTo s fd ⟨[u],[]⟩ [(x,u)])
  (hsp:∀H:Hp,Zq5 H→SqL K H a (ns.map V.int)→sp [.ref a] H (fun v _=>v=.bl true) fun _ _ _=>False)
  (hCX:∀H e s',CX [] H s₁ (fun _ _ _=>False) e s'→False) :
  codeAny (model P w) callerA (.call (.ref fa) ⟨[.ref a],[]⟩) (fun r s'=>r=.ok (.ret (.bool true))∧OldK s₁.heap s'.heap∧s'.os=s₁.os∧AllBare s'.gens) s₁:=by
 have rv:=Zfd hi
 have lenV:=hi.length
 have core:∀H:Hp,Zq5 H→SqL K H a (ns.map V.int)→HOk P w H s₁.heap→(∀b,H b≠none→b=a)→(H a≠none→K.lookup a=none) →
   codeAny (model P w) callerA (.call (.ref fa) ⟨[.ref a],[]⟩) (fun r s'=>r=.ok (.ret (.bool true))∧OldK s₁.heap s'.heap∧s'.os=s₁.os∧AllBare s'.gens) s₁:=by
  intro H hO hS hok hA hK
  have base_of:∀ {b:Addr} {o:Obj},s₁.heap.get? b=some o→H b=none→(Ziv s₁.heap H).get? b=some o:=fun e n=>ZnW e n
  have noA:∀ {b:Addr} {o:Obj} {es:Array DictEntry} {ep:Nat},s₁.heap.get? b=some o→o.data=.dict es ep→H b=none:=fun {b o es ep} e d=>by
   cases q:H b with
   | none=>rfl
   | some u =>
    have e':b=a:=hA b (by rw[q];simp)
    subst e'
    rw[ha]at e;cases e
    have d':Data.seq vs.toArray _=Data.dict es ep:=d
    cases d'
  have nsK:∀ {b:Addr} {m:Str→Option Value},s₁.heap.Ns b m→(Ziv s₁.heap H).Ns b m:=fun {b m} ⟨o,es,ep,e,d,r⟩=>⟨o,es,ep,base_of e (noA e d),d,r⟩
  have hKb:K.In (Ziv s₁.heap H):=fun b o e=>base_of (KX b o e) (by
   cases q:H b with
   | none=>rfl
   | some u =>
    have e':b=a:=hA b (by rw[q];simp)
    subst e'
    rw[hK (by rw[q];simp)]at e;cases e)
  have hM:Mod K mg (Ziv s₁.heap H):=⟨hKb,nsK hns,⟨mb,nsK hb,hbb⟩,let ⟨mc,h1,h2⟩:=hlim;⟨mc,nsK h1,h2⟩⟩
  have e0:Zj3 P w K mg (Ziv s₁.heap H) callerA [] s₁ H:=⟨rfl,hM,fun b o e=>ZpB e,Nat.le_of_eq (Zlx _ _),trivial,fun b hb=>absurd (show b∈([]:List Addr) from hb) (by simp),hok,.of_eq hg⟩
  refine codeAny_mono ((F _ hKb (nsK hns)).run callerA [] s₁ H ⟨[.ref a],[]⟩ [.ref a] [.ref a] _ _ hr e0 (hbind s₁ (.ref a)) (.cons rfl .nil) (hsp H hO hS)) fun r s' h=>?_
  cases r with
  | error e=>exact(hCX H e s' h).elim
  | ok fl =>
   cases fl with
   | next=>exact False.elim h
   | brk=>exact False.elim h
   | cont=>exact False.elim h
   | ret u =>
    obtain⟨v,H',os,bare,un,hok',r',q⟩:=h
    have q':v=.bl true:=q
    subst q'
    obtain rfl:u=Value.bool true:=r'
    refine⟨rfl,OldK.of_keep fun b o e=>?_,os,bare⟩
    cases q:H b with
    | none=>exact un.keep b o e q (by intro z;exact absurd (show b∈([]:List Addr) from z) (by simp)) (by simp)
    | some u =>
     rcases hO b with z|⟨ob,xs,z⟩
     ·rw[q]at z;cases z
     ·have z2:=un.frzs b ob _ z
      obtain⟨e1,_⟩:=hok b _ z
      obtain⟨e2,_⟩:=hok' b _ z2
      rw[e]at e1;cases e1
      exact e2
 cases hk:K.lookup a with
 | some o =>
  have e:=KX a o hk
  rw[ha]at e
  cases e
  refine core (fun _=>none) (fun _=>.inl rfl) (.inr ⟨_,vs.toArray,_,hk,rfl,rfl,rfl,by rw[Qt,lenV];exact hl,by simpa using rv⟩) (fun b u z=>by have z':(none:Option HO)=some u:=z;cases z') (fun b z=>absurd rfl z) fun z=>absurd rfl z
 | none =>
  refine core (fun b=>if b=a then some (.frz { cls:=.type "list",data:=.seq vs.toArray } (.lst (ns.map V.int))) else none) (fun b=>?_) (.inl (.inr ⟨{ cls:=.type "list",data:=.seq vs.toArray },if_pos rfl⟩)) (fun b u z=>?_) (fun b z=>?_) fun _=>hk
  ·by_cases hb:b=a
   ·exact .inr ⟨_,_,if_pos hb⟩
   ·exact .inl (if_neg hb)
  ·by_cases hb:b=a
   ·have z':=(if_pos hb).symm.trans z
    cases z'
    subst hb
    exact⟨ha,by rw[Qa];exact hl,vs,_,rv,ha⟩
   ·have z':=(if_neg hb).symm.trans z
    cases z'
  ·by_cases hb:b=a
   ·exact hb
   ·exact absurd (if_neg hb) z
theorem walk_of{l:PySem.W.OpenLaw}{n k:Nat}{q:Program}{loose:List Str}{XP:(Str→Option Value)→Heap→Prop}{YP:World→Heap→Prop}{d:DefRec}{K:Params→PySem.W.Frag}{CX:World→CXT}{sp:World→Sp}{x:Str}
  (hn:l.most=some n) (hn2:n≤sizeLine) (hdf:d.params.defaults=[]) (hr:ZaN k callerA)
  (hY:∀ (w:World) (h:Heap),YP w h→(K w.params).In h)
  (F:∀ (w:World) (mg:Str→Option Value) (fa:Addr) (h:Heap),(K w.params).In h→h.Ns mainGlobals mg→mg d.name=some (.ref fa) →
   ∃fd:FuncData,(∀ (s:Shared) (u:Value),BindsTo s fd ⟨[u],[]⟩ [(x,u)]) ∧
    ∀base:Heap,(K w.params).In base→base.Ns mainGlobals mg→Zem l.prog w (K w.params) mg base (CX w) k fa fd [x] (sp w))
  (hsp:∀ (w:World) (H:Hp) (a:Addr) (ns:List Int),ns.length≤n→Zq5 H→SqL (K w.params) H a (ns.map V.int)→sp w [.ref a] H (fun v _=>v=.bl true) fun _ _ _=>False)
  (hCX:∀ (w:World) (H:Hp) (s:Shared) (e:Value) (s':Shared),CX w [] H s (fun _ _ _=>False) e s'→False) :
  PySem.W.WalkO q loose XP YP l.row.toRowW d [] (fun f vs=>PySem.call f vs):=by
 refine Att.attach_call hn hdf fun w s₀ s₁ mg mb fa o pm cd doc a vs ns G Y ho hd hcd hmg hobj hints hlen hg=>?_
 have KX:=hY w _ Y
 obtain⟨fd,hb,hF⟩:=F w mg fa _ KX G.T.g hmg
 exact Zot KX G.T.g G.T.b G.T.builtins G.T.nolimit hg hobj hints (QJ hlen hn2) hr hF hb (fun H hO hS=>hsp w H a ns hlen hO hS) fun H e s'=>hCX w H s₁ e s'
noncomputable def Zbe(s:Stmt)(j:Nat):Stmt:=match s with
 | .ClassDef _ _ _ body _ _ _ _ _ _ _=>body.getD j (.Pass ⟨0,0,0,0⟩)
 | _=>.Pass ⟨0,0,0,0⟩
noncomputable def Zp(s:Stmt):Arguments:=match s with
 | .FunctionDef _ a _ _ _ _ _ _ _ _=>a
 | _=>{ posonlyargs:=[],args:=[],vararg:=none,kwonlyargs:=[],kw_defaults:=[],kwarg:=none,defaults:=[] }
noncomputable def Zl(s:Stmt):List Stmt:=match s with
 | .FunctionDef _ _ b _ _ _ _ _ _ _=>b
 | _=>[]
noncomputable def Zf(s:Stmt):Scope:=match s with
 | .FunctionDef _ _ _ _ _ _ sc _ _ _=>sc
 | _=>{ kind:=.function,names:=[],isGenerator:=false,isCoroutine:=false }
noncomputable abbrev CX0:CXT:=fun _ _ _ _ _ _=>False
noncomputable abbrev E0:XK:=fun _ _ _=>False
theorem ZkV{X:Cx}:Zey CX0 X E0:=fun _ _ _ _ _ _ _ h=>h.elim
structure Fun (K:PySem.W.Frag) (x qual:Str) (st:Stmt) (f:Addr) (fd:FuncData):Prop where
 ex:∃ (oc:Value) (od:Option Addr) (kV doc pm:Value) (an:Option Addr) (cdv ct:Value) (osl:Array (Option Value)),
  fd=PySem.W.fnOf x qual (Zp st) (Zl st) (Zf st) .none kV doc pm an cdv ct∧K.lookup f=some ⟨oc,od,.func fd,osl⟩∧PySem.W.codeIn K cdv qual=true
 kp:PySem.W.keepIn K (.ref f)=true
section
variable {P:Program} {w:World} {K:PySem.W.Frag} {mg:Str→Option Value} {base:Heap}
theorem Fun.ok{x qual:Str}{st:Stmt}{f:Addr}{fd:FuncData}{N ps:List Str}{k:Nat}{sp:Sp}(F:Fun K x qual st f fd)(S:Zq N ps (Zf st))(len:∀vs H Q E,sp vs H Q E→vs.length=ps.length)
  (hbody:∀ (cdv:Value) (A:Around) (outer:List Env) (s:Shared) (H:Hp) (vs:List V) (Q:VK) (E:XK),ZaN k (A.deeper (envOfC qual (Zf st) s.heap.objs.size f cdv))→sp vs H Q E →
   ∃t,PSs (Zix CX0 P w K mg base N qual (Zf st) f cdv A outer s H E).nox (Zl st) t∧t { nx:=fun _ H'=>Q .non H',rt:=Q } (ZdS N vs) H):Zem P w K mg base CX0 (k+1) f fd ps sp:=by
 obtain⟨oc,od,kV,doc,pm,an,cdv,ct,osl,rfl,lk,hcd⟩:=F.ex
 refine ZsS lk hcd S len fun A outer s H vs Q E hr hsp=>?_
 obtain⟨t,h,q⟩:=hbody cdv A outer s H vs Q E hr hsp
 exact⟨t,h.nox,q⟩
theorem Fun.binds{x qual:Str}{st:Stmt}{f:Addr}{fd:FuncData}{ps:List Str}(F:Fun K x qual st f fd)
  (h:∀ (kV doc pm:Value) (an:Option Addr) (cdv ct:Value) (us:List Value),us.length=ps.length→bindArgs (PySem.W.fnOf x qual (Zp st) (Zl st) (Zf st) .none kV doc pm an cdv ct) ⟨us,[]⟩=pure (ps.zip us)):Zcp K fd ps []:=by
 obtain⟨oc,od,kV,doc,pm,an,cdv,ct,osl,rfl,lk,hcd⟩:=F.ex
 exact .all (h kV doc pm an cdv ct)
theorem Z1{x qual:Str}{st:Stmt}{f:Addr}{oc:Value}{od an:Option Addr}{osl:Array (Option Value)}{kV doc pm cdv ct:Value}(l:K.lookup f=some ⟨oc,od,.func (PySem.W.fnOf x qual (Zp st) (Zl st) (Zf st) .none kV doc pm an cdv ct),osl⟩)
  (c:PySem.W.codeIn K cdv qual=true) (k:PySem.W.keepIn K (.ref f)=true):Fun K x qual st f (PySem.W.fnOf x qual (Zp st) (Zl st) (Zf st) .none kV doc pm an cdv ct):=⟨⟨oc,od,kV,doc,pm,an,cdv,ct,osl,rfl,l,c⟩,k⟩
end
theorem ZnP{A:Around}{k:Nat}(hr:ZaN k A):A.units+1<cLine:=Qaf (Nat.add_le_add_left (by decide:1≤64) _) hr.units
theorem ZH{n:Nat}(h:n≤1000):n<sizeLine:=Qaf h (by decide)
section
variable {X:Cx}
theorem pv(i:Nat){x:Str}{pos:Pos}(hN:X.N[i]? = some x:=by rfl)(hv:Vis X.env.scope x:=by first|exact Or.inl rfl|exact Or.inr (Or.inl rfl)|exact Or.inr (Or.inr rfl))(hd:(x == ("__debug__" : Str))=false:=by decide)
  (hcd:(x == ("__classdict__" : Str))=false:=by decide):PE X (.Name x pos) (Zn2 i):=ZiA hN hv hd hcd
end
theorem Zcl{A B:Prop}(h:B):if false=true then A else B:=by
 rw[if_neg QC]
 exact h
theorem ZgW{A B:Prop}(h:A):if true=true then A else B:=by
 rw[if_pos rfl]
 exact h
theorem ZaX{c A B:Prop}[Decidable c](h1:c→A)(h2:¬ c→B):if c then A else B:=by
 by_cases h:c
 ·rw[if_pos h]
  exact h1 h
 ·rw[if_neg h]
  exact h2 h
theorem Zm1{c A B:Prop}[Decidable c](hc:c)(h:B):if (!decide c)=true then A else B:=by
 rw[decide_eq_true hc]
 exact Zcl h
noncomputable def ZC(H H':Hp):Prop:=∀b o,H b=some o→H' b=some o
theorem ZC.refl(H:Hp):ZC H H:=fun _ _ h=>h
theorem ZC.trans{H H1 H2:Hp}(a:ZC H H1)(b:ZC H1 H2):ZC H H2:=fun c o h=>b c o (a c o h)
theorem ZC.free{H H':Hp}(e:ZC H H'){l:Addr}(h:H' l=Option.none):H l=Option.none:=by
 cases q:H l with
 | none=>rfl
 | some o =>
  rw[e l o q]at h
  cases h
theorem ZC.seq{K:PySem.W.Frag}{H H':Hp}{a:Addr}{xs:List V}(e:ZC H H')(h:SqL K H a xs):SqL K H' a xs:=by
 rcases h with(h|⟨o,h⟩)|h
 ·exact .inl (.inl (e _ _ h))
 ·exact .inl (.inr ⟨o,e _ _ h⟩)
 ·exact .inr h
noncomputable def Zct(cells:List (Str×Addr)):List (Str×NameKind)→List (Str×Addr)→List (Str×Addr)
 | [],acc=>acc
 | (n,k)::r,acc=>if k == .free then Zct cells r ((n,(cells.lookup n).getD 0)::acc) else Zct cells r acc
theorem Zg1{sc:Scope}{env:Env}(h:∀y∈sc.names,y.2=.free→∃c,env.cells.lookup y.1=some c) :
  closureFor sc env=pure (Zct env.cells sc.names []):=by
 have go:∀ (names:List (Str×NameKind)) (acc:List (Str×Addr)),(∀y∈names,y.2=.free→∃c,env.cells.lookup y.1=some c) →
   (forIn names acc fun (x:Str×NameKind) (r:List (Str×Addr))=>if (x.2 == NameKind.free)=true then (do let c ← cellOf env x.1;pure (ForInStep.yield ((x.1,c)::r))) else pure (ForInStep.yield r):Sem (List (Str×Addr)))=pure (Zct env.cells names acc):=by
  intro names
  induction names with
  | nil=>intro acc _;rfl
  | cons y r ih =>
   intro acc hy
   obtain⟨n,k⟩:=y
   rw[List.forIn_cons]
   cases hk:(k == NameKind.free) with
   | false =>
    have e1:Zct env.cells ((n,k)::r) acc=Zct env.cells r acc:=by
     show (if (k == NameKind.free)=true then _ else _)=_
     rw[hk];rfl
    rw[e1,← ih acc fun z hz=>hy z (Qu _ hz)]
    simp only[hk,Bool.false_eq_true,if_false,pure_bind]
   | true =>
    have hk':k=.free:=by simpa using hk
    obtain⟨c,hc⟩:=hy (n,k) Q1 hk'
    have e1:Zct env.cells ((n,k)::r) acc=Zct env.cells r ((n,c)::acc):=by
     show (if (k == NameKind.free)=true then _ else _)=_
     rw[hk,hc];rfl
    have e2:cellOf env n=pure c:=by
     unfold cellOf
     rw[hc]
    rw[e1,← ih ((n,c)::acc) fun z hz=>hy z (Qu _ hz)]
    simp only[hk,if_true,e2,pure_bind]
 have q:=go sc.names [] h
 unfold closureFor
 first
  | (rw[show (forIn sc.names ([]:List (Str×Addr)) _:Sem (List (Str×Addr)))=pure (Zct env.cells sc.names []) from q];rfl)
  | (simp only[bind_pure];exact q)
  | exact q
theorem ZdP(cells:List (Str×Addr)):∀ (names:List (Str×NameKind)) (acc:List (Str×Addr)) (x:Str) (c:Addr),(Zct cells names acc).lookup x=some c →
  (∃y∈names,y.1=x∧y.2=.free∧c=(cells.lookup x).getD 0)∨acc.lookup x=some c
 | [],acc,x,c,h=>.inr h
 | (n,k)::r,acc,x,c,h=>by
  by_cases hk:(k == NameKind.free)=true
  ·have e:Zct cells ((n,k)::r) acc=Zct cells r ((n,(cells.lookup n).getD 0)::acc):=by
    show (if (k == NameKind.free)=true then _ else _)=_
    rw[if_pos hk]
   rw[e]at h
   rcases ZdP cells r _ x c h with⟨y,hy,q⟩|q
   ·exact .inl ⟨y,Qu _ hy,q⟩
   ·rw[QaG]at q
    by_cases hx:(x == n)=true
    ·rw[hx]at q
     have hx':x=n:=by simpa using hx
     subst hx'
     exact .inl ⟨(x,k),Q1,rfl,by simpa using hk,(Qr q).symm⟩
    ·have hx':(x == n)=false:=by simpa using hx
     rw[hx']at q
     exact .inr q
  ·have e:Zct cells ((n,k)::r) acc=Zct cells r acc:=by
    show (if (k == NameKind.free)=true then _ else _)=_
    rw[if_neg hk]
   rw[e]at h
   rcases ZdP cells r _ x c h with⟨y,hy,q⟩|q
   ·exact .inl ⟨y,Qu _ hy,q⟩
   ·exact .inr q
theorem ZfU(cells:List (Str×Addr)):∀ (names:List (Str×NameKind)) (acc:List (Str×Addr)) (x:Str),((∃y∈names,y.1=x∧y.2=.free)∨∃c,acc.lookup x=some c) →
  ∃c,(Zct cells names acc).lookup x=some c
 | [],acc,x,h=>by
  rcases h with⟨y,hy,_⟩|h
  ·cases hy
  ·exact h
 | (n,k)::r,acc,x,h=>by
  by_cases hk:(k == NameKind.free)=true
  ·have e:Zct cells ((n,k)::r) acc=Zct cells r ((n,(cells.lookup n).getD 0)::acc):=by
    show (if (k == NameKind.free)=true then _ else _)=_
    rw[if_pos hk]
   rw[e]
   refine ZfU cells r _ x ?_
   by_cases hx:(x == n)=true
   ·exact .inr ⟨_,by rw[QaG,hx]⟩
   ·have hx':(x == n)=false:=by simpa using hx
    rcases h with⟨y,hy,q⟩|⟨c,q⟩
    ·rcases QK.mp hy with rfl|hy
     ·exact absurd (by simpa using q.1.symm) hx
     ·exact .inl ⟨y,hy,q⟩
    ·exact .inr ⟨c,by rw[QaG,hx'];exact q⟩
  ·have e:Zct cells ((n,k)::r) acc=Zct cells r acc:=by
    show (if (k == NameKind.free)=true then _ else _)=_
    rw[if_neg hk]
   rw[e]
   refine ZfU cells r _ x ?_
   rcases h with⟨y,hy,q⟩|h
   ·rcases QK.mp hy with rfl|hy
    ·exact absurd (by simpa using q.2) hk
    ·exact .inl ⟨y,hy,q⟩
   ·exact .inr h
structure CompSc (N N':List Str) (o c:Scope):Prop where
 kind:c.kind=.function
 okind:o.kind=.function
 nocell:∀y∈c.names,y.2≠.cell
 loc:∀y∈c.names,y.2=.local→c.names.lookup y.1=some .local
 free:∀y∈c.names,y.2=.free→c.names.lookup y.1=some .free∧(o.names.lookup y.1=some .cell∨o.names.lookup y.1=some .free)
 len:N.length≤N'.length
 same:∀i∈List.range N.length,∀x∈N'[i]?,c.names.lookup x=some .local∨c.names.lookup x=some .free→c.names.lookup x=some .free∧N[i]? = some x
 nd:N'.Nodup
theorem ZdH{env:Env}(hf:env.scope.kind=.function):∀ (names:List (Str×NameKind)) (x:Str),
  (names.map fun (p:Str×NameKind)=>if (p.2 == NameKind.free&&env.scope.kind == .function&&env.kindOf p.1 == some .cell)=true then (p.1,NameKind.cell) else (p.1,p.2)).lookup x =
   match names.lookup x with
   | some .free=>if env.kindOf x=some .cell then some .cell else some .free
   | k=>k
 | [],x=>rfl
 | (n,k)::r,x=>by
  have ih:=ZdH hf r x
  rw[Ql]
  by_cases hx:(x == n)=true
  ·have hx':x=n:=by simpa using hx
   subst hx'
   have e2:List.lookup x ((x,k)::r)=some k:=by rw[QaG];simp
   rw[e2]
   by_cases hk:k=.free
   ·subst hk
    by_cases hc:env.kindOf x=some .cell
    ·simp[List.lookup_cons,hf,hc]
    ·simp[List.lookup_cons,hf,hc]
   ·have hk':(k == NameKind.free)=false:=by simpa using hk
    rw[hk']
    simp only[Bool.false_and,Bool.false_eq_true,if_false,List.lookup_cons,beq_self_eq_true]
    all_goals (cases k<;>first|rfl|exact absurd rfl hk)
  ·have hx':(x == n)=false:=by simpa using hx
   have e2:List.lookup x ((n,k)::r)=List.lookup x r:=by rw[QaG,hx']
   rw[e2,← ih]
   by_cases hc:(k == NameKind.free&&env.scope.kind == .function&&env.kindOf n == some .cell)=true
   ·simp only[hc,if_true,List.lookup_cons,hx']
   ·simp only[hc,if_false,List.lookup_cons,hx',Bool.false_eq_true]
section
variable {X:Cx} {N N':List Str} {o c:Scope}
theorem Zgd{names:List (Str×NameKind)}{x:Str}{k:NameKind}(h:names.lookup x=some k):(x,k)∈names:=Qab h
end
noncomputable abbrev Zk2(ifs:List Expr)(env:Env):Sem Bool :=
 forIn ifs true fun k r=>if r=true then do let ok ← isTrue k env (eval k env);pure (ForInStep.yield ok) else pure (ForInStep.yield r)
noncomputable def PTs(X:Cx)(ifs:List Expr)(t:TT):Prop :=
 ∀ (pins:List (Addr×Obj)) (s:Shared) (σ:St) (H:Hp) (Q:Bool→Hp→Prop),Inv X pins σ H s→t σ H Q→wpAny (model X.prog X.w) X.A (Zk2 ifs X.env) (TP X pins σ Q) X.xe s
noncomputable def ZiJ:TT:=fun _ H Q=>Q true H
theorem Zaw{X:Cx}:PTs X [] ZiJ:=fun _ _ _ H _ I h=>wpAny_tests_nil ⟨H,I,h⟩
theorem Zo1{X:Cx}{e:Expr}{t:TT}(h:PT X e t):PTs X [e] t:=fun pins s σ H Q I q=>wpAny_tests_one (h pins s σ H Q I q)
section
variable {prog:Program} {w:World} {A:Around} {R:Result→Shared→Prop} {s:Shared}
theorem Zh2{elt target iter:Expr}{ifs:List Expr}{scope:Scope}{pos:Pos}{it acc:Value}{env:Env}{E:Value→Shared→Prop}(I:Nat→Shared→Prop)
  (hE:∀e s',E e s'→False)
  (turn:∀n s,I n s→wpAny (model prog w) A (pyNext it) (fun r s₁=>match r with
   | none=>R (.ok .next) s₁
   | some v=>wpAny (model prog w) A (letOwnedTupleGo target it v) (fun _ s₀=>wpAny (model prog w) A (assign target env v) (fun _ s₂ =>
     wpAny (model prog w) A (Zk2 ifs env) (fun ok s₃ =>
      if ok=true then wpAny (model prog w) A (eval elt env) (fun x s₄ =>
       wpAny (model prog w) A (call (.builtin "list.append") [acc,x]) (fun _ s₅=>∃m,m<n∧I m s₅) E s₄) E s₃
      else ∃m,m<n∧I m s₃) E s₂) E s₀) E s₁) E s)
  (n:Nat) (h:I n s):codeAny (model prog w) A (.compLoop (.ListComp elt [⟨target,iter,ifs,0⟩] scope pos) 0 it acc env) R s:=by
 have go:∀ {α:Type} {t:Sem α} {Q:α→Shared→Prop} {s:Shared},wpAny (model prog w) A t Q E s→wpAny (model prog w) A t Q (notedBy (model prog w) A env fun e s'=>R (.error e) s') s :=
  fun {α t Q s} q=>wpAny_mono q (fun _ _ z=>z) fun e s' z=>(hE e s' z).elim
 refine codeAny_loop rfl I (fun n s hI=>?_) n h
 show wpAny _ A ((compTurn (.ListComp elt [⟨target,iter,ifs,0⟩] scope pos) 0 it acc env).onRaise (fun x=>do noteFrame x env;theTreesLotGoes x)) _ _ s
 refine wpAny_noted ?_
 rw[compTurn_list]
 refine wpAny_bind (wpAny_standAt (wpAny_bind (thn (go (turn n s hI)) fun r s₁ h₁=>?_)))
 cases r with
 | none=>exact wpAny_pure h₁
 | some v =>
  refine wpAny_bind (thn (go h₁) fun _ s₀ h₀=>wpAny_bind (thn (go h₀) fun _ s₂ h₂=>wpAny_bind (thn (go h₂) fun ok s₃ h₃=>?_)))
  cases ok with
  | false=>exact wpAny_pure ⟨rfl,h₃⟩
  | true =>
   exact wpAny_bind (wpAny_bind (thn (go h₃) fun x s₄ h₄=>wpAny_bind (thn (go h₄) fun _ s₅ h₅=>wpAny_pure (wpAny_pure ⟨rfl,h₅⟩))))
end
noncomputable def Zfo(J:It)(D:Addr)(k:Nat)(σ:St)(H1:Hp)(g:TG)(tc:TT)(te:TE)(Q:VK):Prop :=
 ∃W:Nat→Nat→List V→St→Hp→Prop,(∃m,W 0 m [] (σ++List.replicate k none) (upd H1 D (.lst []))) ∧
  ∀i m ys σ2 H2,W i m ys σ2 H2→(J.stop i H2∧Q (.ref D) H2) ∨
   (J.go i H2∧∃N:List V→St→Hp→Prop,(∀ys' σ' H',N ys' σ' H'→∃m',m'<m∧W (i+1) m' ys' σ' H')∧∀x H3,J.yld i H2 x H3→g x σ2 H3 fun σ4 H4=>tc σ4 H4 fun b H5 =>
    if b=true then te σ4 H5 fun y H6=>H6 D=some (.lst ys)∧ys.length<sizeLine∧N (ys++[y]) σ4 (upd H6 D (.lst (ys++[y]))) else N ys σ4 H5)
noncomputable def Znr(n:Nat)(wi:TI)(g:TG)(tc:TT)(te:TE):TE:=fun σ H Q=>wi σ H fun J H1=>∀D,H1 D=none→Zfo J D n σ H1 g tc te Q
section
variable {X:Cx} {N N':List Str} {o c:Scope}
theorem Inv.let{pins:List (Addr×Obj)}{σ:St}{H:Hp}{s:Shared}{C:Addr}{h':Heap}(I:Inv X pins σ H s)(hn:H C=none)(hL:C≠X.env.locals)(h1:X.s₀.heap.objs.size≤C)
  (h2:∀x a,X.env.cells.lookup x=some a→a≠C) (h3:∀p∈X.pn++pins,p.1≠C) (hs:Heap.SameBut C s.heap h'):Inv X pins σ H { s with heap:=h' } :=
 I.turned (t':=s.toks) (fun b ob hb e=>hs.extBut b ob hb e) hn hL (.inr h1) h2 h3
end
theorem Zgv{ys:List Str}:∀ {us:List Value},Zw (ys.map V.str) us→StrsAre us ys:=by
 induction ys with
 | nil=>intro us r;rw[Qag]at r;cases r;exact .nil
 | cons y ys ih =>
  intro us r
  rw[Ql]at r
  cases r with
  | cons r1 r2 =>
   obtain⟨t,e⟩:=r1
   subst e
   exact .cons _ _ (ih r2)
theorem Zhg:∀ {vs:List Value} {ys:List Str},StrsAre vs ys→Zw (ys.map V.str) vs
 | _,_,.nil=>.nil
 | _,_,.cons _ t h=>.cons ⟨t,rfl⟩ (Zhg h)
section
variable {X:Cx}
noncomputable def ZsG(K:PySem.W.Frag):List V→Hp→VK→Prop:=fun xs H Q=>∃x c t b,xs=[x,.ty c]∧Zfs K H x t∧PySem.W.kitOne K t (.type c)=some b∧Q (.bl b) H
theorem ZoB:Zae X (.builtin "isinstance") (ZsG X.K):=by
 intro pins s σ H xs us Q I r h
 obtain⟨x,c,t,b,rfl,ty,e,q⟩:=h
 obtain⟨u,w',rfl,rx,rc⟩:=ZnN r
 cases rc
 exact Zl2 I rx ty e fun tk=>⟨.bl b,H,I.tok _,rfl,q⟩
theorem Zn7(hc:X.calm=true):Zae X (.builtin "all") (fun xs H Q=>∃ (p:Addr) (bs:List Bool),xs=[.ref p]∧SqL X.K H p (bs.map V.bl)∧Q (.bl (bs.all id)) H):=by
 intro pins s σ H xs us Q I r h
 obtain⟨p,bs,rfl,hq,q⟩:=h
 obtain⟨u,rfl,rx⟩:=ZbJ r
 cases rx
 obtain⟨its,rv,pl,hz⟩:=I.list hq
 have hl:=pl.isList
 have hlt:p<s.heap.objs.size:=by obtain⟨_,e,_⟩:=hl;exact Qz e
 refine call_all_walk (wpAny_pyIter_list hl ?_)
 refine⟨s.heap.objs.size,[s.heap.objs.size,p],[s.heap.objs.size],its.toArray.size,_,_,fun i=>(bs[i]?).getD true,rfl,Walks.list (A:=X.A.in1) (I.ok.hd hc) _ p (QV hlt) its.toArray,
  ⟨⟨_,QD _ rfl,rfl,rfl⟩,hl.push _⟩,fun i v s' Q' E' hP hQ=>?_,fun h' tk hk=>?_⟩
 ·have hP':its[i]? = some v:=by simpa using hP
  have hi:i<its.length:=(Qc.mp hP').1
  have hlen:=rv.length
  have hb:(bs.map V.bl)[i]? = some (V.bl (bs[i]'(by rw[Qa]at hlen;omega))):=by
   rw[Qi,Qb (by rw[Qa]at hlen;omega)];rfl
  obtain⟨u',hu',ru'⟩:=rv.get hb
  rw[hP']at hu';cases hu'
  obtain rfl:v=Value.bool _:=ru'
  have hQ2:Q' ((bs[i]?).getD true) s':=hQ
  rw[Qb (by rw[Qa]at hlen;omega)]at hQ2
  exact wpAny_truthy_bool hQ2
 ·have e:((List.range its.toArray.size).all fun i=>(bs[i]?).getD true)=bs.all id:=by
   have hlen:=rv.length
   rw[Qa]at hlen
   rw[Qt,← hlen,QaN,List.all_eq_true,List.all_eq_true]
   constructor
   ·intro z b hb
    obtain⟨i,hi,rfl⟩:=List.mem_iff_getElem.mp hb
    have:=z i (QU.mpr hi)
    rw[Qb hi]at this
    exact this
   ·intro z i hi
    have hi':=QU.mp hi
    rw[Qb hi']
    exact z _ (QT hi')
  refine⟨.bl (bs.all id),H,I.kept fun b ob e'=>hk b ob (fun hm=>?_) (Qj _ e'),by rw[e];rfl,q⟩
  rw[Qd.mp hm]at e'
  exact Qas _ (Qz e')
theorem Zip:Zae X (.builtin "sorted") (fun xs H Q=>∃ (p:Addr) (ns:List Int),xs=[.ref p]∧SqL X.K H p (ns.map V.int)∧ns.length<64 ∧
  ∀ (l:Addr) (ns':List Int),H l=none→ns'.Perm ns→ns'.Pairwise (·≤·)→Q (.ref l) (upd H l (.lst (ns'.map V.int)))):=by
 intro pins s σ H xs us Q I r h
 obtain⟨p,ns,rfl,hq,h64,q⟩:=h
 obtain⟨u,rfl,rx⟩:=ZbJ r
 cases rx
 obtain⟨its,rv,pl,hz⟩:=I.list hq
 have hlen:=rv.length
 rw[Qa]at hlen hz
 refine sorted_ints pl.isList (Zgb rv) (by omega) fun out ns' a1 a2 a3=>?_
 obtain⟨e,he⟩:=sortedAll_at s.heap its out
 have hp:=a2.length_eq
 refine⟨.ref (s.heap.objs.size+1),_,I.laid (t':=s.toks) (o:=.lst (ns'.map V.int)) (fun _ _=>sortedAll_old) (Q4 _) ⟨by rw[Qa];omega,out.toList,e,Zfd a1,by simpa using he⟩,rfl,q _ ns' (I.hok.fresh (Q4 _)) a2 a3⟩
theorem Zh9:Zae X (.builtin "sorted") (fun xs H Q=>∃ (p:Addr) (ss:List Str),xs=[.ref p]∧SqL X.K H p (ss.map V.str)∧ss.length<64 ∧
  ∀ (l:Addr) (ss':List Str),H l=none→ss'.Perm ss→sortedS ss'=true→Q (.ref l) (upd H l (.lst (ss'.map V.str)))):=by
 intro pins s σ H xs us Q I r h
 obtain⟨p,ss,rfl,hq,h64,q⟩:=h
 obtain⟨u,rfl,rx⟩:=ZbJ r
 cases rx
 obtain⟨its,rv,pl,hz⟩:=I.list hq
 have hlen:=rv.length
 rw[Qa]at hlen hz
 refine sorted_strs pl.isList (Zgv rv) (by omega) fun out ss' a1 a2 a3=>?_
 obtain⟨e,he⟩:=sortedAll_at s.heap its out
 have hp:=a2.length_eq
 refine⟨.ref (s.heap.objs.size+1),_,I.laid (t':=s.toks) (o:=.lst (ss'.map V.str)) (fun _ _=>sortedAll_old) (Q4 _) ⟨by rw[Qa];omega,out.toList,e,Zhg a1,by simpa using he⟩,rfl,q _ ss' (I.hok.fresh (Q4 _)) a2 a3⟩
theorem ZpP:MtR X "str.join" (fun x vs H Q=>∃ (sep:Str) (p:Addr) (ys:List Str),x=.str sep∧vs=[.ref p]∧SqL X.K H p (ys.map V.str)∧(ys.map (·.length)).sum+ys.length*sep.length≤16777216∧Q (.str (Txt.join sep ys)) H):=by
 intro pins s σ H x vs v us Q I rx rv h
 obtain⟨sep,p,ys,rfl,rfl,hq,hz,q⟩:=h
 obtain⟨t,rfl⟩:=rx
 obtain⟨u,rfl,ru⟩:=rv.one
 cases ru
 obtain⟨its,r',pl,_⟩:=I.list hq
 exact join_list pl.isList (Zgv r') hz fun t' k=>⟨.str _,H,I.tok _,⟨_,rfl⟩,q⟩
theorem Zpx:OpR X (binaryOp .Mult) (fun x y H Q=>∃a n,x=.str a∧y=.int n∧0≤n∧n≤1000000∧(a.length:Int)*n≤1000000∧Q (.str (Txt.mul a n)) H):=by
 intro pins s σ H x y v u Q I rx ry h
 obtain⟨a,n,rfl,rfl,h0,h1,h2,q⟩:=h
 obtain⟨t,rfl⟩:=rx
 obtain⟨t',rfl⟩:=ry
 have h2':a.length*n.toNat≤1000000:=by
  have e:((a.length*n.toNat:Nat):Int)=(a.length:Int)*n:=by rw[Int.natCast_mul,Int.toNat_of_nonneg h0]
  omega
 refine PySem.P.mul_str ?_ (fun c1 c2=>?_) (fun c1 c2=>?_) ?_
 ·have e1:decide (n < -(2 ^ 63:Int))=false:=decide_eq_false (by omega)
  have e2:decide (n≥2 ^ 63)=false:=decide_eq_false (by omega)
  rw[e1,e2];rfl
 ·have hn:(1:Int)≤n:=by omega
  have q1:(a.length:Int)*1≤(a.length:Int)*n:=Int.mul_le_mul_of_nonneg_left hn (Int.natCast_nonneg _)
  have q2:(1000000:Int)≤(2 ^ 63-1) / n:=by
   rw[Int.le_ediv_iff_mul_le (by omega)]
   have:(1000000:Int)*n≤1000000*1000000:=Int.mul_le_mul_of_nonneg_left h1 (by decide)
   omega
  omega
 ·unfold Builtin.Str.tooLong
  have hl:sizeLine=16777216:=sizeLine_eq
  exact decide_eq_false (by omega)
 ·have e:Txt.mul a n=if n<1 then Str.empty else if (n == 1||a.length == 0)=true then a else ⟨(List.replicate n.toNat a.cps).foldl (·++·) #[]⟩:=rfl
  rw[e]at q
  by_cases c1:n<1
  ·rw[if_pos c1]at q ⊢
   exact⟨by decide,.str _,H,I.tok _,⟨_,rfl⟩,q⟩
  ·rw[if_neg c1]at q ⊢
   by_cases c2:(n == 1||a.length == 0)=true
   ·rw[if_pos c2]at q ⊢
    exact⟨.str _,H,I,⟨_,rfl⟩,q⟩
   ·rw[if_neg c2]at q ⊢
    refine⟨?_,.str _,H,I.tok _,⟨_,rfl⟩,q⟩
    have hfold:∀ (k:Nat) (acc:Array Nat),((List.replicate k a.cps).foldl (·++·) acc).size=acc.size+k*a.cps.size:=by
     intro k
     induction k with
     | zero=>intro acc;simp
     | succ k ih=>intro acc;rw[List.replicate_succ,List.foldl_cons,ih,Array.size_append,Nat.succ_mul];omega
    show ((List.replicate n.toNat a.cps).foldl (·++·) #[]).size≤sizeLine
    rw[hfold]
    have e2:a.cps.size=a.length:=rfl
    have:n.toNat*a.cps.size≤1000000:=by rw[e2,Nat.mul_comm];exact h2'
    have hl:sizeLine=16777216:=sizeLine_eq
    simp only[List.size_toArray,List.length_nil]
    omega
end
inductive Src where
 | l (a:Addr)|t (a:Addr)|s (z:Str)
noncomputable def Src.val:Src→V
 | .l a=>.ref a
 | .t a=>.ref a
 | .s z=>.str z
noncomputable def ZpF(c:Nat):V:=.str ⟨#[c]⟩
noncomputable def Src.its(K:PySem.W.Frag)(H:Hp):Src→List V→Prop
 | .l a,xs=>SqL K H a xs
 | .t a,xs=>SqT K H a xs
 | .s z,xs=>xs=z.cps.toList.map ZpF
noncomputable def Src.at(h:Heap)(i:Addr):Src→Nat→Prop
 | .l a,k=>h.IsListIter i a k
 | .t a,k=>h.IsTupleIter i a k
 | .s z,k=>∃tk,h.IsStrIter i (strIterType z) z tk k
noncomputable def Src.many:Src→List Value→Nat
 | .l _,us=>us.length
 | .t _,us=>us.length
 | .s z,_=>z.cps.size
noncomputable def Src.off:Src→Addr→Prop
 | .l a,b=>a≠b
 | .t a,b=>a≠b
 | .s _,_=>True
section
variable {prog:Program} {w:World} {A:Around} {E:Value→Shared→Prop} {s:Shared}
end
noncomputable def Src.iter(tk:Tok):Src→Obj
 | .l a=>{ cls:=.type "list_iterator",data:=.fields #[.ref a,.int 0 0] }
 | .t a=>{ cls:=.type "tuple_iterator",data:=.fields #[.ref a,.int 0 0] }
 | .s z=>{ cls:=.type (strIterType z),data:=.fields #[.str z tk,.int 0 0] }
noncomputable def Src.value(tk:Tok):Src→Value
 | .l a=>.ref a
 | .t a=>.ref a
 | .s z=>.str z tk
section
variable {prog:Program} {w:World} {A:Around} {E:Value→Shared→Prop} {s:Shared}
end
section
variable {X:Cx} {pins:List (Addr×Obj)} {σ:St} {H:Hp} {s:Shared}
theorem Inv.zipped{fp:List Addr}{h':Heap}{tk:Nat}{x y:V}{u v:Value}(I:Inv X pins σ H s)(hf:∀b∈fp,ZfW X pins H b)(rx:ZG x u)(ry:ZG y v)
  (hp:IsPair h' s.heap.objs.size u v) (hfh:∀b∈fp,∃o,h'.get? b=some o) (hk:∀c o,c ∉ fp→s.heap.get? c=some o→h'.get? c=some o) :
  Inv X pins σ (upd H s.heap.objs.size (.tup [x,y])) { s with heap:=h',toks:=tk }:=by
 have hn:H s.heap.objs.size=none:=I.fresh
 have ne:∀b ob,s.heap.get? b=some ob→b≠s.heap.objs.size:=fun b ob e=>QV (Qz e)
 have nt:∀b u,H b=some u→b≠s.heap.objs.size:=fun b u e=>Zd e hn
 have nfp:∀b u,H b=some u→b ∉ fp:=fun b u e hb=>by rw[(hf b hb).1]at e;cases e
 refine I.step (g':=s.gens) (d':=s.drawn) (ch:=fp) (fun b hb=>⟨(hf b hb).2.2.2.1,(hf b hb).2.1,(hf b hb).2.2.2.2.1,(hf b hb).2.2.2.2.2⟩)
  (fun b ob _ _ hc e _=>hk b ob hc e) (fun b ob _ _ hc e _=>⟨ob.slots,hk b ob hc e⟩) (fun b ob _ e n=>by rw[Ze (ne b ob e)];exact n) (fun b ob hc e=>⟨ob,hk b ob hc e⟩)
  (fun b xs e=>by rw[Ze (nt b _ e)];exact e) (fun b ob u e=>by rw[Ze (nt b _ e)];exact e) (fun b ps e=>⟨#[],by rw[Ze (nt b _ e),e];simp⟩) (fun m hm=>?_) (fun b ub e=>?_) I.bare
 ·obtain⟨ob,es,ep,ho,r⟩:=hm
  exact⟨ob,es,ep,hk _ ob (fun z=>(hf _ z).2.1 rfl) ho,r⟩
 ·by_cases hb:b=s.heap.objs.size
  ·subst hb
   rw[Zb]at e;cases e
   exact⟨by show 2≤sizeLine;decide,[u,v],.cons rx (.cons ry .nil),⟨_,hp,rfl,_,rfl⟩⟩
  ·rw[Ze hb]at e
   refine(I.hok b ub e).stay (fun c w' hc q=>hk c w' ?_ q) (fun c q=>by rw[Ze (nt c _ q)];exact q) fun c xs q=>by rw[Ze (nt c _ q)];exact q
   rcases hc with z|z
   ·rw[z];exact nfp b ub e
   ·exact nfp c _ z
end
section
variable {X:Cx} (K:PySem.W.Frag)
theorem ixL(h:X.K=K:=by rfl):IxR X (Zr9 K):=by subst h;exact ZpT
theorem ixT(h:X.K=K:=by rfl):IxR X (ZsE K):=by subst h;exact ZrV
theorem slL(h:X.K=K:=by rfl):SlR X (Zsk K):=by subst h;exact ZpQ
noncomputable def ZsU:List V→Hp→VK→Prop:=fun xs H Q=>∃p ys,xs=[.ref p]∧(SqL K H p ys∨SqT K H p ys)∧Q (.int ys.length) H
theorem ZaR(h:X.K=K:=by rfl):Zae X (.builtin "len") (ZsU K):=by subst h;exact ZiM
theorem Zmi(h:X.K=K:=by rfl):Zae X (.builtin "isinstance") (ZsG K):=by subst h;exact ZoB
noncomputable def ZsT:List V→Hp→VK→Prop:=fun xs H Q=>∃ (p:Addr) (bs:List Bool),xs=[.ref p]∧SqL K H p (bs.map V.bl)∧Q (.bl (bs.all id)) H
theorem Zs6(hc:X.calm=true:=by rfl)(h:X.K=K:=by rfl):Zae X (.builtin "all") (ZsT K):=by subst h;exact Zn7 hc
noncomputable def Zr5:List V→Hp→VK→Prop:=fun xs H Q=>∃ (p:Addr) (ns:List Int),xs=[.ref p]∧SqL K H p (ns.map V.int)∧ns.length<64 ∧
  ∀ (l:Addr) (ns':List Int),H l=none→ns'.Perm ns→ns'.Pairwise (·≤·)→Q (.ref l) (upd H l (.lst (ns'.map V.int)))
theorem Zty(h:X.K=K:=by rfl):Zae X (.builtin "sorted") (Zr5 K):=by subst h;exact Zip
noncomputable def Zso:List V→Hp→VK→Prop:=fun xs H Q=>∃ (p:Addr) (ss:List Str),xs=[.ref p]∧SqL K H p (ss.map V.str)∧ss.length<64 ∧
  ∀ (l:Addr) (ss':List Str),H l=none→ss'.Perm ss→sortedS ss'=true→Q (.ref l) (upd H l (.lst (ss'.map V.str)))
theorem Znm(h:X.K=K:=by rfl):Zae X (.builtin "sorted") (Zso K):=by subst h;exact Zh9
noncomputable def Zsm:V→List V→Hp→VK→Prop:=fun x vs H Q=>∃ (sep:Str) (p:Addr) (ys:List Str),x=.str sep∧vs=[.ref p]∧SqL K H p (ys.map V.str)∧(ys.map (·.length)).sum+ys.length*sep.length≤16777216∧Q (.str (Txt.join sep ys)) H
theorem ZsB(h:X.K=K:=by rfl):MtR X "str.join" (Zsm K):=by subst h;exact ZpP
theorem iL{tg l:Expr}{tl:TE}(hl:PE X l tl)(h:X.K=K:=by rfl):PI X tg l (Zqf K tl):=by subst h;exact Zpk hl
theorem iT{tg l:Expr}{tl:TE}(hl:PE X l tl)(h:X.K=K:=by rfl):PI X tg l (Zsz K tl):=by subst h;exact Zrc hl
theorem gT{es:List Expr}{k:Nat}{t:TGs}{n:Nat}{pos:Pos}(h:PGs X es t)(hK:X.K=K:=by rfl)(hc:X.calm=true:=by rfl)
  (hn:(assignEach es X.env).length=n:=by rfl) (hst:(assignEach es X.env).findIdx? (·.1)=none:=by rfl):PG X (.Tuple es k pos) (Zr4 K n t):=by subst hK;exact Zrw hc h hn hst
end
structure Df (P:Program) (w:World) (K:PySem.W.Frag) (mg:Str→Option Value) (base:Heap) (k:Nat) (x:Str) (ps:List Str) (sp:Sp):Prop where
 ex:∃f fd,Zem P w K mg base CX0 k f fd ps sp∧mg x=some (.ref f)∧PySem.W.keepIn K (.ref f)=true∧Zcp K fd ps []
section
variable {P:Program} {w:World} {K:PySem.W.Frag} {mg:Str→Option Value} {base:Heap}
structure Top (K:PySem.W.Frag) (mg:Str→Option Value) (x:Str) (st:Stmt) (ps:List Str):Prop where
 ex:∃f fd,Fun K x x st f fd∧mg x=some (.ref f)∧Zcp K fd ps []
theorem Top.df{x:Str}{st:Stmt}{N ps:List Str}{k:Nat}{sp:Sp}(T:Top K mg x st ps)(S:Zq N ps (Zf st))(len:∀vs H Q E,sp vs H Q E→vs.length=ps.length)
  (hbody:∀ (cdv:Value) (f:Addr) (A:Around) (outer:List Env) (s:Shared) (H:Hp) (vs:List V) (Q:VK) (E:XK),ZaN k (A.deeper (envOfC x (Zf st) s.heap.objs.size f cdv))→sp vs H Q E →
   ∃t,PSs (Zix CX0 P w K mg base N x (Zf st) f cdv A outer s H E).nox (Zl st) t∧t { nx:=fun _ H'=>Q .non H',rt:=Q } (ZdS N vs) H):Df P w K mg base (k+1) x ps sp:=by
 obtain⟨f,fd,F,m,b⟩:=T.ex
 exact⟨f,fd,F.ok S len (fun cdv A outer s H vs Q E hr h=>hbody cdv f A outer s H vs Q E hr h),m,F.kp,b⟩
end
section
variable {X:Cx} {k j:Nat} {x:Str} {ps:List Str} {sp:Sp} {e:Expr} {es:List Expr} {t:TA} {p pos:Pos}
theorem ZB(F:Df X.prog X.w X.K X.mg X.base k x ps sp)(hr:ZaN j X.A)(ha:PA X (e::es) t)(hjk:k≤j:=by decide)(hg:Gl X x:=by rfl)(hdb:(x == ("__debug__" : Str))=false:=by decide)
  (he:starEach (e::es) X.env=(false,eval e X.env)::starEach es X.env:=by rfl) (hpl:(backTo pos (starEach es X.env)).any (·.1)=false:=by rfl) :
  PE X (.Call (.Name x p) (e::es) [] pos) (Zqs sp [] E0 t):=by
 obtain⟨f,fd,F,m,kp,b⟩:=F.ex
 exact Zo6 F (hr.mono hjk) hg m kp b .nil ZkV ha hdb he hpl
theorem Zhq{T:String}(hm:X.mg x=none)(hv:bootBuiltins x=some (.type T))(hg:Gl X x:=by rfl)(hn:x ≠ "__name__":=by decide)(hd:(x == ("__debug__" : Str))=false:=by decide):PE X (.Name x pos) (tC (.ty T)) :=
 Zp4 hg hm hv rfl hn hd
end
theorem Zcm{lo:Int}{n k:Nat}{D:Addr}{σ:St}{H1:Hp}{g:TG}{te:TE}{Q:VK}(Pv:Nat→List V→St→Hp→Prop)(h0:Pv 0 [] (σ++List.replicate k none) (upd H1 D (.lst [])))
  (hs:∀i ys σ H,i<n→Pv i ys σ H→g (.int (lo+i)) σ H fun σ4 H4=>te σ4 H4 fun y H6=>H6 D=some (.lst ys)∧ys.length<sizeLine∧Pv (i+1) (ys++[y]) σ4 (upd H6 D (.lst (ys++[y]))))
  (hd:∀ys σ H,Pv n ys σ H→Q (.ref D) H):Zfo (Itr lo n) D k σ H1 g ZiJ te Q:=by
 refine⟨fun i m ys σ H=>m=n-i∧i≤n∧Pv i ys σ H,⟨n,by simp,Qv _,h0⟩,?_⟩
 rintro i m ys σ H ⟨rfl,hi,p⟩
 by_cases hlt:i<n
 ·refine .inr ⟨hlt,Pv (i+1),fun ys' σ' H' p'=>⟨n-(i+1),by omega,rfl,hlt,p'⟩,fun x H' y=>?_⟩
  obtain⟨e,y⟩:=y
  subst e y
  simp only[ZiJ,↓reduceIte]
  exact hs i ys σ _ hlt p
 ·have e:i=n:=by omega
  subst e
  exact .inl ⟨Qg _,hd ys σ H p⟩
section
variable {X:Cx} {N N':List Str} {o c:Scope} {x:Str} {pos:Pos} {C:Addr} {s:Shared} {H:Hp} {fp:List Addr}
end
mutual
inductive DV (K:PySem.W.Frag) (H:Hp):V→PyData→Prop where
 | non:DV K H .non .none
 | bl (b:Bool):DV K H (.bl b) (.bool b)
 | int (i:Int):DV K H (.int i) (.int i)
 | str (s:Str):DV K H (.str s) (.str s)
 | lst {a:Addr} {xs:List V} {ds:List PyData}:SqL K H a xs→DVs K H xs ds→DV K H (.ref a) (.list ds)
 | tup {a:Addr} {xs:List V} {ds:List PyData}:SqT K H a xs→DVs K H xs ds→DV K H (.ref a) (.tuple ds)
inductive DVs (K:PySem.W.Frag) (H:Hp):List V→List PyData→Prop where
 | nil:DVs K H [] []
 | cons {x:V} {d:PyData} {xs:List V} {ds:List PyData}:DV K H x d→DVs K H xs ds→DVs K H (x::xs) (d::ds)
end
section
variable {X:Cx} {pins:List (Addr×Obj)} {σ:St} {H:Hp} {s:Shared}
mutual
theorem Inv.reads(I:Inv X pins σ H s):∀ {x:V} {d:PyData} {u:Value},DV X.K H x d→ZG x u→∃as,Reads s.heap u d as
 | _,_,_,.non,r=>by cases r;exact⟨_,.none⟩
 | _,_,_,.bl b,r=>by cases r;exact⟨_,.bool b⟩
 | _,_,_,.int i,r=>by obtain⟨t,rfl⟩:=r;exact⟨_,.int i t⟩
 | _,_,_,.str z,r=>by obtain⟨t,rfl⟩:=r;exact⟨_,.str z t⟩
 | _,_,_,.lst h hs,r=>by
  cases r
  obtain⟨its,rv,⟨o,n,e,hc,_,hd⟩,_⟩:=I.list h
  obtain⟨as,q⟩:=Inv.readsAll I hs rv
  exact⟨_,reads_list_at e hc hd (by simpa using q)⟩
 | _,_,_,.tup h hs,r=>by
  cases r
  obtain⟨its,rv,⟨o,e,hc,n,hd⟩,_⟩:=I.tuple h
  obtain⟨as,q⟩:=Inv.readsAll I hs rv
  exact⟨_,reads_tuple_at e hc hd (by simpa using q)⟩
theorem Inv.readsAll(I:Inv X pins σ H s):∀ {xs:List V} {ds:List PyData} {us:List Value},DVs X.K H xs ds→Zw xs us→∃as,ReadsAll s.heap us ds as
 | _,_,_,.nil,r=>by cases r;exact⟨_,.nil⟩
 | _,_,_,.cons h hs,r=>by
  cases r with
  | cons r1 r2 =>
   obtain⟨as,q1⟩:=Inv.reads I h r1
   obtain⟨bs,q2⟩:=Inv.readsAll I hs r2
   exact⟨_,.cons q1 q2⟩
end
noncomputable def Zp2(K:PySem.W.Frag)(neg:Bool):R2:=fun x y H Q=>∃d e,DV K H x d∧DV K H y e∧SeqAt.shaped d=true∧SeqAt.shaped e=true∧Q (.bl (if neg then !PyData.eqv d e else PyData.eqv d e)) H
theorem Zry(hu:X.A.units+64<cLine):OpR X (compareOp .Eq) (Zp2 X.K false):=by
 intro pins s σ H x y v u Q I rx ry h
 obtain⟨d,e,h1,h2,s1,s2,q⟩:=h
 obtain⟨as,r1⟩:=I.reads h1 rx
 obtain⟨bs,r2⟩:=I.reads h2 ry
 exact eq_dataH r1 r2 s1 s2 hu ⟨.bl _,H,I,rfl,q⟩
theorem ZqA(hu:X.A.units+64<cLine):OpR X (compareOp .NotEq) (Zp2 X.K true):=by
 intro pins s σ H x y v u Q I rx ry h
 obtain⟨d,e,h1,h2,s1,s2,q⟩:=h
 obtain⟨as,r1⟩:=I.reads h1 rx
 obtain⟨bs,r2⟩:=I.reads h2 ry
 exact ne_dataH r1 r2 s1 s2 hu ⟨.bl _,H,I,rfl,q⟩
end
theorem eqD{X:Cx}(K:PySem.W.Frag){k:Nat}(hr:ZaN k X.A)(h:X.K=K:=by rfl):OpR X (compareOp .Eq) (Zp2 K false):=by subst h;exact Zry hr.units
theorem neD{X:Cx}(K:PySem.W.Frag){k:Nat}(hr:ZaN k X.A)(h:X.K=K:=by rfl):OpR X (compareOp .NotEq) (Zp2 K true):=by subst h;exact ZqA hr.units
mutual
theorem DV.mono{K:PySem.W.Frag}{H H':Hp}(s:ZC H H'):∀ {x:V} {d:PyData},DV K H x d→DV K H' x d
 | _,_,.non=>.non
 | _,_,.bl b=>.bl b
 | _,_,.int i=>.int i
 | _,_,.str z=>.str z
 | _,_,.lst h hs=>.lst (s.seq h) (DVs.mono s hs)
 | _,_,.tup h hs=>.tup (by
   rcases h with(h|⟨ob,h⟩)|h
   ·exact .inl (.inl (s _ _ h))
   ·exact .inl (.inr ⟨ob,s _ _ h⟩)
   ·exact .inr h) (DVs.mono s hs)
theorem DVs.mono{K:PySem.W.Frag}{H H':Hp}(s:ZC H H'):∀ {xs:List V} {ds:List PyData},DVs K H xs ds→DVs K H' xs ds
 | _,_,.nil=>.nil
 | _,_,.cons h hs=>.cons (DV.mono s h) (DVs.mono s hs)
end
noncomputable def Ite(K:PySem.W.Frag)(a:Addr):It :=
 ⟨fun i H=>∃xs,SqL K H a xs∧i<xs.length,
  fun i H v H'=>∃p,H p=none∧v=.ref p∧∀xs,SqL K H a xs→∀x,xs[i]? = some x→H'=upd H p (.tup [.int i,x]),
  fun i H=>∃xs,SqL K H a xs∧xs.length≤i⟩
theorem Zmx{P:Program}{w:World}{K:PySem.W.Frag}{elts:List Expr}{x1:Nat}{tpos:Pos}{a e it:Addr}(hne:e≠it) :
  ZmS P w K (.Tuple elts x1 tpos) (Ite K a) [e,it] e (fun i h=>(∃old,IsEnum h e it i old)∧h.IsListIter it a i) where
 mem:=by simp
 obj:=fun i h st b hb=>by
  obtain⟨⟨old,he⟩,o,hit,hc,hd⟩:=st
  simp only[List.mem_cons,List.not_mem_nil,or_false]at hb
  rcases hb with rfl|rfl
  ·exact⟨_,he,fun v z=>by cases z⟩
  ·exact⟨o,hit,fun v z=>by rw[hd]at z;cases z⟩
 keep:=fun i h h' st k=>by
  obtain⟨⟨old,he⟩,hit⟩:=st
  exact⟨⟨old,k e (by simp) _ he⟩,hit.at fun o q=>k it (by simp) o q⟩
 item:=by
  intro X hP hw hK hc i pins s σ H E I hf st hg
  subst hP hw hK
  obtain⟨⟨old,he⟩,hit⟩:=st
  obtain⟨xs,q1,l1⟩:=hg
  obtain⟨its,rv,pl,_⟩:=I.list q1
  obtain⟨u,hu,ru⟩:=rv.get (Qb l1)
  refine wpAny_pyNext_enum_item he hit pl.isList (x:=u) (by simpa using hu) hne fun h' a1 a2 a3 a4 a5=>?_
  have lt:∀ {b:Addr} {o:Obj},s.heap.get? b=some o→s.heap.objs.size≠b:=fun q=>QaP (Qz q)
  have hes:s.heap.objs.size≠e:=lt he
  refine⟨_,rfl,wpAny_letOwnedTupleGo_enum a1 fun h'' he'' hs''=>?_⟩
  have hs':Heap.SameBut e h' h'':=hs''
  have hit'':h''.IsListIter it a (i+1):=a2.extBut hs'.extBut hne.symm
  have I2:Inv X pins σ (upd H s.heap.objs.size (.tup [.int i,xs[i]])) { s with heap:=h'',toks:=s.toks+1 }:=by
   refine I.zipped (fp:=[e,it]) (u:=.int i s.toks) (v:=u) hf ⟨_,rfl⟩ ru (hs'.extBut _ _ hes a3) (fun b hb=>?_) fun c o hc q=>?_
   ·simp only[List.mem_cons,List.not_mem_nil,or_false]at hb
    rcases hb with rfl|rfl
    ·exact⟨_,he''⟩
    ·obtain⟨o,q,_⟩:=hit'';exact⟨o,q⟩
   ·simp only[List.mem_cons,List.not_mem_nil,or_false,not_or]at hc
    exact hs'.extBut _ _ hc.1 (a5 c o hc.1 hc.2 q)
  refine⟨.ref s.heap.objs.size,_,I2,rfl,⟨s.heap.objs.size,I.fresh,rfl,fun xs' w1 x' e1=>?_⟩,⟨⟨_,he''⟩,hit''⟩,fun b hb=>?_⟩
  ·have e3:=I.list_inj w1 q1
   subst e3
   rw[Qb l1]at e1
   cases e1
   rfl
  ·rw[Ze (fun z=>by
    obtain⟨o,q⟩:∃o,s.heap.get? b=some o:=by
     simp only[List.mem_cons,List.not_mem_nil,or_false]at hb
     rcases hb with rfl|rfl
     ·exact⟨_,he⟩
     ·obtain⟨o,q,_⟩:=hit;exact⟨o,q⟩
    exact lt q z.symm)]
   exact(hf b hb).1
 done:=by
  intro X hP hw hK hc i pins s σ H E I hf st hg
  subst hP hw hK
  obtain⟨⟨old,he⟩,hit⟩:=st
  obtain⟨xs,q1,l1⟩:=hg
  obtain⟨its,rv,pl,_⟩:=I.list q1
  obtain⟨f0,f1,f2,f3,f4,f5⟩:=hf it (by simp)
  have hl:=rv.length
  exact wpAny_pyNext_enum_end (I.ok.hd hc) he hit pl.isList (by rw[List.getElem?_toArray];exact QH (by omega)) fun h' eb=>⟨rfl,I.turned (t':=s.toks) (fun b o hb q=>eb b o hb q) f0 f1 f3 f4 f5⟩
 self:=fun _ _ _ _ _ st h=>by obtain⟨⟨old,he⟩,_⟩:=st;exact wpAny_pyIter_enum he h
noncomputable def Zqu(K:PySem.W.Frag)(ta:TA):TI:=fun σ H R=>ta σ H fun vs H1=>∃a xs,vs=[V.ref a]∧SqL K H1 a xs∧R (Ite K a) H1
theorem Zo5{X:Cx}{l:Expr}{ta:TA}{p pos:Pos}{elts:List Expr}{x1:Nat}{tpos:Pos}(hg:Gl X "enumerate")(hm:X.mg "enumerate" = none)(ha:PA X [l] ta)
  (hs:starEach [l] X.env=[(false,eval l X.env)]:=by rfl):PI X (.Tuple elts x1 tpos) (.Call (.Name "enumerate" p) [l] [] pos) (Zqu X.K ta):=by
 intro pins s σ H R I h
 refine Call_ (Zfm I hg hm boot_enumerate (Qal (thn (ha pos pins s σ H _ I h) ?_) hs rfl))
 rintro us s1 ⟨vs,H1,I1,r1,q1⟩
 obtain⟨a,xs,e,y1,q⟩:=q1
 subst e
 obtain⟨u,rfl,ru⟩:=r1.one
 cases ru
 obtain⟨its,rv,pl,_⟩:=I1.list y1
 refine call_enumerate_list pl.isList fun h' he hit hsz hk=>wpAny_pyIter_enum he ?_
 have I2:Inv X pins σ H1 { s1 with heap:=h' }:=I1.kept (t':=s1.toks) hk
 refine⟨_,_,_,_,H1,rfl,I2,Zmx (a:=a) (e:=s1.heap.objs.size+1) (it:=s1.heap.objs.size) (QaP (Nat.lt_succ_self _)),⟨⟨_,he⟩,hit⟩,fun b hb=>?_,q⟩
 have hb':s1.heap.objs.size≤b:=by
  simp only[List.mem_cons,List.not_mem_nil,or_false]at hb
  rcases hb with rfl|rfl
  ·exact Nat.le_add_right _ 1
  ·exact Qg _
 exact I1.fpOk hb' (I1.hok.fresh hb')
theorem iE{X:Cx}(K:PySem.W.Frag){l:Expr}{ta:TA}{p pos:Pos}{elts:List Expr}{x1:Nat}{tpos:Pos}(hm:X.mg "enumerate" = none)(ha:PA X [l] ta)(hg:Gl X "enumerate":=by rfl)(hK:X.K=K:=by rfl)
  (hs:starEach [l] X.env=[(false,eval l X.env)]:=by rfl):PI X (.Tuple elts x1 tpos) (.Call (.Name "enumerate" p) [l] [] pos) (Zqu K ta):=by subst hK;exact Zo5 hg hm ha hs
theorem Zgm{K:PySem.W.Frag}{a:Addr}{xs:List V}{g:TG}{tb:TS}{D:Zfh}{σ:St}{H:Hp}(Pv:Nat→St→Hp→Prop)(h0:Pv 0 σ H)(hl:∀i σ H,Pv i σ H→SqL K H a xs)
  (hs:∀i x σ H p,xs[i]? = some x→Pv i σ H→H p=none→g (.ref p) σ (upd H p (.tup [.int i,x])) fun σ2 H2=>tb { D with nx:=Pv (i+1),ct:=Pv (i+1),bk:=D.nx } σ2 H2) (hd:∀σ H,Pv xs.length σ H→D.nx σ H) :
  ∃W:Nat→Nat→St→Hp→Prop,(∃m,W 0 m σ H)∧∀i m σ H,W i m σ H →
   ((Ite K a).stop i H∧D.nx σ H)∨((Ite K a).go i H∧∃N:St→Hp→Prop,(∀σ' H',N σ' H'→∃m',m'<m∧W (i+1) m' σ' H')∧∀x H',(Ite K a).yld i H x H'→g x σ H' fun σ2 H2=>tb { D with nx:=N,ct:=N,bk:=D.nx } σ2 H2):=by
 refine⟨fun i m σ H=>m=xs.length-i∧i≤xs.length∧Pv i σ H,⟨xs.length,by simp,Qv _,h0⟩,?_⟩
 rintro i m σ H ⟨rfl,hi,p⟩
 have q1:=hl i σ H p
 by_cases hlt:i<xs.length
 ·refine .inr ⟨⟨xs,q1,hlt⟩,Pv (i+1),fun σ' H' p'=>⟨xs.length-(i+1),by omega,rfl,hlt,p'⟩,fun x H' y=>?_⟩
  obtain⟨r,hr,rfl,e⟩:=y
  have e':=e xs q1 _ (Qb hlt)
  subst e'
  exact hs i _ σ H r (Qb hlt) p hr
 ·have e:i=xs.length:=by omega
  exact .inl ⟨⟨xs,q1,by omega⟩,hd σ H (e ▸ p)⟩
noncomputable def ZqS(K:PySem.W.Frag):List V→Hp→VK→Prop:=fun xs H Q=>∃p ys,xs=[.ref p]∧(SqL K H p ys∨SqT K H p ys)∧∀l,H l=none→Q (.ref l) (upd H l (.lst ys))
theorem Zqn{X:Cx}(K:PySem.W.Frag)(h:X.K=K:=by rfl):Zae X (.type "list") (ZqS K):=by subst h;exact ZiN
section
variable {prog:Program} {w:World} {A:Around} {E:Value→Shared→Prop} {s:Shared}
end
noncomputable def Zht(xs:List V)(lo hi:Option Int)(st:Int):List V :=
 (sliceRange (sliceBounds lo hi (some st) xs.length).1 (sliceBounds lo hi (some st) xs.length).2.1 (sliceBounds lo hi (some st) xs.length).2.2).filterMap fun i=>xs[i]?
theorem ZhJ{xs:List V}{us:List Value}(r:Zw xs us):∀is:List Nat,Zw (is.filterMap fun i=>xs[i]?) (is.filterMap fun i=>us[i]?)
 | []=>.nil
 | i::is=>by
  have ih:=ZhJ r is
  by_cases hi:i<xs.length
  ·have e1:xs[i]? = some xs[i]:=Qb hi
   obtain⟨u,hu,ru⟩:=r.get e1
   rw[Qaa,Qaa,e1,hu]
   exact .cons ru ih
  ·have e1:xs[i]? = none:=QH (by omega)
   have e2:us[i]? = none:=QH (by rw[← r.length];omega)
   rw[Qaa,Qaa,e1,e2]
   exact ih
noncomputable def ZrH(X:Cx)(r:V→Option Int→Option Int→Int→Hp→VK→Prop):Prop :=
 ∀ (pins:List (Addr×Obj)) (s:Shared) (σ:St) (H:Hp) (x:V) (v vl vu vs:Value) (lo hi:Option Int) (st:Int) (sl:Addr) (Q:VK),Inv X pins σ H s→ZG x v→s.heap.IsSliceOf sl vl vu vs→IsPart vl lo→IsPart vu hi→IsPart vs (some st)→r x lo hi st H Q →
  ∃T id,typeLookup (.type T) "__getitem__" = pure (some (.builtin id))∧s.TypeIs v T∧wpAny (model X.prog X.w) X.A (getItem v (.ref sl)) (EP X pins σ Q) X.xe s
noncomputable def ZsX(r:V→Option Int→Option Int→Int→Hp→VK→Prop)(te:TE)(tl th ts:TO):TE:=fun σ H Q=>te σ H fun x H1=>tl σ H1 fun l H2=>th σ H2 fun u H3=>ts σ H3 fun k H4=>∃i,k=some i∧r x l u i H4 Q
section
variable {X:Cx} {e st:Expr} {te:TE} {lo hi:Option Expr} {tl th ts:TO} {pos p2:Pos}
theorem Zl5{r:V→Option Int→Option Int→Int→Hp→VK→Prop}(hr:ZrH X r)(he:PE X e te)(hl:PO X lo tl)(hu:PO X hi th)(hst:PO X (some st) ts):PE X (.Subscript e (.Slice lo hi (some st) p2) pos) (ZsX r te tl th ts):=by
 intro pins s σ H Q I h
 refine Subscript_ (thn (he pins s σ H _ I h) ?_)
 rintro v s1 ⟨x,H1,I1,r1,q1⟩
 refine wpAny_Slice (thn (hl pins s1 σ H1 _ I1 q1) fun vl s2 ⟨l,H2,I2,pl,q2⟩=>thn (hu pins s2 σ H2 _ I2 q2) fun vu s3 ⟨u,H3,I3,pu,q3⟩=>thn (hst pins s3 σ H3 _ I3 q3) ?_)
 rintro vs s4 ⟨k,H4,I4,pk,q4⟩
 obtain⟨i,rfl,q4⟩:=q4
 have I5:Inv X pins σ H4 { s4 with heap:=s4.heap.push { cls:=.type "slice",data:=.fields #[vl,vu,vs] } }:=I4.kept (t':=s4.toks) fun b ob q=>Qj _ q
 obtain⟨T,id,hT,ht,hg⟩:=hr pins { s4 with heap:=s4.heap.push { cls:=.type "slice",data:=.fields #[vl,vu,vs] } } σ H4 x v vl vu vs l u i s4.heap.objs.size Q I5 r1 (Heap.IsSliceOf.new ..) pl pu pk q4
 show wpAny (model X.prog X.w) X.A (subscriptTail e (.Slice lo hi (some st) p2) v (.ref s4.heap.objs.size)) (EP X pins σ Q) X.xe { s4 with heap:=s4.heap.push { cls:=.type "slice",data:=.fields #[vl,vu,vs] } }
 exact tail_any (ops:=[v,.ref s4.heap.objs.size]) ht hT hg (by with_unfolding_all rfl)
noncomputable def Zqh(K:PySem.W.Frag):V→Option Int→Option Int→Int→Hp→VK→Prop:=fun x lo hi st H Q=>∃a xs,x=.ref a∧SqL K H a xs∧st≠0∧∀p,H p=none→Q (.ref p) (upd H p (.lst (Zht xs lo hi st)))
theorem Zoh:ZrH X (Zqh X.K):=by
 intro pins s σ H x v vl vu vs lo hi st sl Q I rx hs pl pu pk h
 obtain⟨a,xs,rfl,hx,hne,q⟩:=h
 cases rx
 obtain⟨its,r,ht,hz⟩:=I.list hx
 have hlen:=r.length
 refine⟨"list",_,slot_list_getitem.lookup,ht.isList.typeIs,?_⟩
 refine wpAny_getItem_list_slice ht.isList hs pl pu pk (by intro e;exact hne (Qr e)) ?_ (by rw[Qt]<;>omega)
 have hsz:=slicePick_size_le its.toArray lo hi (some st)
 have hv:Zw (Zht xs lo hi st) (slicePick its.toArray lo hi (some st)).toList:=by
  unfold slicePick Zht
  simp only[List.size_toArray,← hlen]
  have:=ZhJ r (sliceRange (sliceBounds lo hi (some st) xs.length).1 (sliceBounds lo hi (some st) xs.length).2.1 (sliceBounds lo hi (some st) xs.length).2.2)
  simpa using this
 refine⟨.ref s.heap.objs.size,_,I.laid (t':=s.toks) (o:=.lst (Zht xs lo hi st)) (fun b ob q=>Qj _ q) (Qg _) ?_,rfl,q _ (I.hok.fresh (Qg _))⟩
 refine⟨?_,(slicePick its.toArray lo hi (some st)).toList,0,hv,?_⟩
 ·have e1:its.toArray.size=xs.length:=by rw[Qt];exact hlen.symm
  rw[hv.length,QaJ]
  exact QJ hsz (by rw[e1];exact hz)
 ·simpa using QD _ rfl
theorem Zs8(K:PySem.W.Frag)(h:X.K=K:=by rfl):ZrH X (Zqh K):=by subst h;exact Zoh
end
theorem ZfH(n:Nat):sliceRange ((n:Int)-1) (-1) (-1)=(List.range n).map fun i=>n-1-i:=by
 unfold sliceRange
 have hc:(if (-1:Int)>0 then (if (n:Int)-1 < -1 then (-1-((n:Int)-1) + -1-1) / -1 else 0) else (if (n:Int)-1 > -1 then ((n:Int)-1 - -1 - -1-1) / (- -1) else 0)).toNat=n:=by
  rw[if_neg (by decide)]
  by_cases h:(n:Int)-1 > -1
  ·rw[if_pos h,show (- -1:Int)=1 by decide,Int.ediv_one];omega
  ·rw[if_neg h];omega
 simp only[]
 rw[hc]
 apply QM
 intro k hk
 have:=QU.mp hk
 clear hc;omega
theorem Zg6{α:Type}(xs:List α):((List.range xs.length).map fun i=>xs.length-1-i).filterMap (fun i=>xs[i]?)=xs.reverse:=by
 rw[List.filterMap_map]
 have e:∀n,n≤xs.length→(List.range n).filterMap ((fun i=>xs[i]?) ∘ fun i=>xs.length-1-i)=xs.reverse.take n:=by
  intro n
  induction n with
  | zero=>intro _;rfl
  | succ n ih =>
   intro hn
   rw[Qaj,List.filterMap_append,ih (by omega)]
   have h1:xs[xs.length-1-n]? = some xs[xs.length-1-n]:=Qb (by omega)
   rw[Qaa]
   simp only[Function.comp,h1,List.filterMap_nil]
   rw[QI,List.getElem?_reverse (by omega),h1]
   rfl
 rw[e _ (Qg _)]
 exact Qy (by simp)
theorem Zl1(xs:List V):Zht xs none none (-1)=xs.reverse:=by
 have e:sliceRange (sliceBounds none none (some (-1)) xs.length).1 (sliceBounds none none (some (-1)) xs.length).2.1 (sliceBounds none none (some (-1)) xs.length).2.2=sliceRange ((xs.length:Int)-1) (-1) (-1):=rfl
 unfold Zht
 rw[e,ZfH,Zg6]
section
variable {X:Cx}
theorem inQ(K:PySem.W.Frag)(h:X.K=K:=by rfl):OpR X (compareOp .In) (rIn K false):=by subst h;exact Zmq
noncomputable def ZsQ(K:PySem.W.Frag):List V→Hp→VK→Prop:=fun xs H Q=>∃p ys,xs=[.ref p]∧((SqL K H p ys∧∀l,H l=none→Q (.ref l) (upd H l (.tup ys)))∨(SqT K H p ys∧Q (.ref p) H))
theorem Zse(K:PySem.W.Frag)(h:X.K=K:=by rfl):Zae X (.type "tuple") (ZsQ K):=by subst h;exact ZgY
end
section
variable {X:Cx} {tg:Expr}
theorem ZpA:OpR X (compareOp .IsNot) (fun x y H Q=>∃a b,x=.bl a∧y=.bl b∧Q (.bl (!decide (a=b))) H):=by
 intro pins s σ H x y v u Q I rx ry h
 obtain⟨a,b,rfl,rfl,q⟩:=h
 cases rx
 cases ry
 exact wpAny_isNot_plain rfl (ZaV I q (by cases a<;>cases b<;>rfl))
end
end L2
namespace L2
open PySem PySem.Spec PyProof.Rows
noncomputable def Zb2(kvs:List (List Key×V))(k:List Key):Option V:=(kvs.find? fun kv=>decide (kv.1=k)).map (·.2)
noncomputable abbrev Zfy(H:Hp):List (List Key×V)→List (List Key×Addr×Value)→Prop:=Paired fun (p:List Key×V) (q:List Key×Addr×Value)=>p.1=q.1∧H q.2.1=some (.tup (p.1.map kV))∧ZG p.2 q.2.2
theorem ZlT{H:Hp}{kvs:List (List Key×V)}{xs:List (List Key×Addr×Value)}(r:Zfy H kvs xs){p:List Key×V}{q:List Key×Addr×Value}(h:p.1=q.1∧H q.2.1=some (.tup (p.1.map kV))∧ZG p.2 q.2.2):Zfy H (kvs++[p]) (xs++[q]):=by
 induction r with
 | nil=>exact .cons h .nil
 | cons a t ih=>exact .cons a ih
theorem ZlW{H H':Hp}{kvs:List (List Key×V)}{xs:List (List Key×Addr×Value)}(k:∀b ys,H b=some (.tup ys)→H' b=some (.tup ys))(r:Zfy H kvs xs):Zfy H' kvs xs:=by
 induction r with
 | nil=>exact .nil
 | cons a t ih=>exact .cons ⟨a.1,k _ _ a.2.1,a.2.2⟩ ih
theorem Zjz{H:Hp}{R:List Key→Addr→Prop}(k:∀ks b,H b=some (.tup (ks.map kV))→R ks b){kvs:List (List Key×V)}{xs:List (List Key×Addr×Value)}(r:Zfy H kvs xs):∀x∈xs,R x.1 x.2.1:=by
 induction r with
 | nil=>intro x hx;cases hx
 | cons a t ih =>
  intro x hx
  rcases QK.mp hx with rfl|hx
  ·exact k _ _ (by rw[← a.1];exact a.2.1)
  ·exact ih x hx
theorem ZmT{H:Hp}{kvs:List (List Key×V)}{xs:List (List Key×Addr×Value)}(r:Zfy H kvs xs):kvs.length=xs.length:=by
 induction r with
 | nil=>rfl
 | cons a t ih=>rw[QE,QE,ih]
theorem ZqK{P:Program}{w:World}{k:Key}{u:Value}(r:ZG (kV k) u):(ZO P w).is k u=true:=by
 rcases k with i|x
 ·obtain⟨t,e⟩:=(show ∃t,u=Value.int i t from r)
  rw[e]
  exact ZfF P w i t
 ·obtain⟨t,e⟩:=(show ∃t,u=Value.str x t from r)
  rw[e]
  exact ZfC P w x t
theorem ZfV{P:Program}{w:World}:∀ (ks:List Key) (us:List Value),Zw (ks.map kV) us→ItemsAre (ZO P w) ks us:=by
 intro ks
 induction ks with
 | nil=>intro us r;cases (show Zw [] us from r);exact .nil
 | cons k ks ih =>
  intro us r
  cases (show Zw (kV k::ks.map kV) us from r) with
  | cons a b=>exact .cons (ZqK a) (ih _ b)
section
variable {X:Cx} {pins:List (Addr×Obj)} {σ:St} {H:Hp} {s:Shared}
theorem Inv.tkey{ks:List Key}{b:Addr}(I:Inv X pins σ H s)(e:H b=some (.tup (ks.map kV))):(tupleKind (ZO X.prog X.w)).is s.heap ks b:=by
 obtain⟨_,its,r,hb⟩:=I.hok b _ e
 obtain⟨o,h1,h2,n,h3⟩:=hb
 refine⟨o,its.toArray,n,h1,h2,h3,?_⟩
 have:=ZfV (P:=X.prog) (w:=X.w) ks its r
 simpa using this
noncomputable def Zst:TE:=fun _ H Q=>∀p,H p=none→Q (.ref p) (upd H p (.dT []))
theorem Zia{pos:Pos}:PE X (.Dict [] [] pos) Zst:=by
 intro pins s σ H Q I h
 have hb:sysModules<s.heap.objs.size:=Nat.lt_trans (by decide) (show mainGlobals<s.heap.objs.size from(I.mod.glob.keeps I.bk).lt)
 refine wpAny_Dict_empty ⟨.ref s.heap.objs.size,upd H s.heap.objs.size (.dT []),?_,rfl,h _ (I.hok.fresh (Qg _))⟩
 refine I.laid (t':=s.toks) (fun _ _ q=>Qj _ q) (Qg _) ?_
 refine⟨Qv _,?_,[],.nil,_,#[],0,QD _ rfl,⟨rfl,rfl,rfl⟩,rfl,rfl,List.nodup_nil⟩
 exact beq_eq_false_iff_ne.mpr fun z=>Qas _ (z ▸ hb)
end
noncomputable def ZsV:List V→Hp→VK→Prop:=fun xs H Q=>∃j:Int,xs=[.int j]∧∀p,H p=none→Q (.ref p) (upd H p (.rng 0 j))
theorem Zq6{X:Cx}:Zae X (.type "range") ZsV:=by
 intro pins s σ H xs us Q I r h
 obtain⟨j,rfl,q⟩:=h
 obtain⟨u,rfl,t,rfl⟩:=ZbJ r
 refine call_range_1 ⟨.ref s.heap.objs.size,_,I.laid (a:=s.heap.objs.size) (o:=.rng 0 j) (fun b o e=>Qj _ e) (Qg _) ?_,rfl,q _ (I.hok.fresh (Qg _))⟩
 exact⟨_,_,_,QD _ rfl⟩
noncomputable def Zsv:List V→Hp→VK→Prop:=fun xs H Q=>∃i j:Int,xs=[.int i,.int j]∧∀p,H p=none→Q (.ref p) (upd H p (.rng i j))
theorem Zth{X:Cx}:Zae X (.type "range") Zsv:=by
 intro pins s σ H xs us Q I r h
 obtain⟨i,j,rfl,q⟩:=h
 cases r with
 | cons r rr =>
  cases rr with
  | cons r' rr =>
   cases rr
   obtain⟨t,rfl⟩:=r
   obtain⟨t',rfl⟩:=r'
   refine call_range_2 ⟨.ref s.heap.objs.size,_,I.laid (a:=s.heap.objs.size) (o:=.rng i j) (fun b o e=>Qj _ e) (Qg _) ?_,rfl,q _ (I.hok.fresh (Qg _))⟩
   exact⟨_,_,_,QD _ rfl⟩
noncomputable def Zx(lo:Int)(n:Nat):List Int:=(List.range n).map fun (k:Nat)=>lo+k
theorem ZR(lo:Int)(n:Nat):(Zx lo n).length=n:=by simp[Zx]
theorem Zgo{lo:Int}:∀ (n:Nat) (us:List Value),us.length=n→(∀ (j:Nat) (v:Value),us[j]? = some v→∃t,v=Value.int (lo+j*1) t)→Zw ((Zx lo n).map V.int) us:=by
 intro n us hl h
 subst hl
 induction us generalizing lo with
 | nil=>exact .nil
 | cons u r ih =>
  have e:Zx lo (u::r).length=lo::Zx (lo+1) r.length:=by
   unfold Zx
   rw[QE,List.range_succ_eq_map,Ql,QB]
   refine congr (congrArg _ (by simp)) (QM fun a _=>?_)
   simp only[Function.comp]
   omega
  rw[e,Ql]
  refine .cons ?_ (ih fun j v hv=>?_)
  ·obtain⟨t,e⟩:=h 0 u rfl
   exact⟨t,by rw[e];simp⟩
  ·obtain⟨t,e⟩:=h (j+1) v (by simpa using hv)
   exact⟨t,by rw[e];congr 1;omega⟩
noncomputable def Zq7:List V→Hp→VK→Prop:=fun xs H Q=>∃ (p:Addr) (lo hi:Int),xs=[.ref p]∧H p=some (.rng lo hi) ∧ -(2 ^ 62)≤lo∧lo<2 ^ 62 ∧ -(2 ^ 62)≤hi∧hi<2 ^ 62∧(hi-lo).toNat≤1000 ∧
 ∀l,H l=none→Q (.ref l) (upd H l (.lst ((Zx lo (hi-lo).toNat).map V.int)))
theorem Znb{X:Cx}(hc:X.calm=true:=by rfl):Zae X (.type "list") Zq7:=by
 intro pins s σ H xs us Q I r h
 obtain⟨p,lo,hi,rfl,hp,h1,h2,h3,h4,h5,q⟩:=h
 obtain⟨u,rfl,rx⟩:=ZbJ r
 cases rx
 obtain⟨t,u,v,e⟩:=I.hok _ _ hp
 have sz:Builtin.Range.rangeSize lo hi 1=(((hi-lo).toNat:Nat):Int):=by rw[rangeSize_one];split<;>omega
 refine call_list_range (I.ok.hd hc) e (small_one h1 h2 h3 h4) sz (by omega) fun h' tk acc' c' kp e' it=>?_
 refine⟨.ref s.heap.objs.size,_,I.laid (t':=tk) kp (Qg _) (show Zap X.prog X.w _ h' _ (.lst ((Zx lo (hi-lo).toNat).map V.int)) from⟨?_,acc'.toList,c',Zgo _ _ (by simpa using it.1) (fun j v hv=>it.2 j v (by simpa using hv)),by simpa using e'⟩),rfl,q _ (I.hok.fresh (Qg _))⟩
 rw[Qa,ZR]
 exact Qav (ZH h5)
section
variable {prog:Program} {w:World} {A:Around} {E:Value→Shared→Prop} {s:Shared}
end
section
variable {X:Cx}
theorem Zbc{prog:Program}{w:World}{A:Around}{E:Value→Shared→Prop}{s:Shared}{a:Addr}{o:Obj}{xs:Array Value}{n:Nat}{Q:Array Value→Shared→Prop}(ho:s.heap.get? a=some o)(hd:o.data=.seq xs n)(h:Q xs s):wpAny (model prog w) A (Builtin.List.listItems (.ref a)) Q E s:=by
 unfold Builtin.List.listItems
 exact wpAny_bind (wpAny_seqItems ho hd (wpAny_pure h))
noncomputable def ZqF(to:TE)(tl th:TO):TG:=fun v σ H Q=>to σ H fun o H1=>tl σ H1 fun l H2=>th σ H2 fun u H3=>∃ (p b:Addr) (xs ys:List V) (a c:Int),o=.ref p∧v=.ref b∧l=some a∧u=some c∧H3 p=some (.lst xs)∧H3 b=some (.lst ys)∧p≠b∧0≤a∧a≤c∧c≤xs.length∧xs.length+ys.length≤sizeLine ∧
 Q σ (upd H3 p (.lst (xs.take a.toNat++ys++xs.drop c.toNat)))
theorem ZmX{o:Expr}{lo hi:Option Expr}{to:TE}{tl th:TO}{pos p2:Pos}(ho:PE X o to)(hl:PO X lo tl)(hu:PO X hi th)
  (ha:∀v,assign (.Subscript o (.Slice lo hi none p2) pos) X.env v=(do
   let ov ← holding [v] (eval o X.env)
   let iv ← holding [v,ov] (eval (.Slice lo hi none p2) X.env)
   standAt pos
   holding [v,ov,iv] (setItem ov iv v)
   release [iv,v,ov] []):=by intro _;rfl):PG X (.Subscript o (.Slice lo hi none p2) pos) (ZqF to tl th):=by
 intro pins s σ H v u Q I r h
 rw[ha]
 refine wpAny_bind (wpAny_holding (thn (ho pins s σ H _ I h) ?_))
 rintro ov s1 ⟨x,H1,I1,r1,q1⟩
 refine wpAny_bind (wpAny_holding (wpAny_Slice (thn (hl pins s1 σ H1 _ I1 q1) fun vl s2 ⟨l,H2,I2,pl,q2⟩=>thn (hu pins s2 σ H2 _ I2 q2) ?_)))
 rintro vu s3 ⟨k,H3,I3,pu,q3⟩
 refine wpAny_evalPart_none ?_
 obtain⟨p,b,xs,ys,a,c,rfl,rfl,rfl,rfl,hp,hb,hne,h0,hac,hc,hz,q⟩:=q3
 cases r
 cases r1
 have I4:Inv X pins σ H3 { s3 with heap:=s3.heap.push { cls:=.type "slice",data:=.fields #[vl,vu,.none] } }:=I3.kept (t':=s3.toks) fun b ob q=>Qj _ q
 cases pl with
 | int i t =>
  cases pu with
  | int j t' =>
   refine wpAny_bind (wpAny_standAt (wpAny_bind (wpAny_holding (Zmm I4 hp hb hne (Heap.IsSliceOf.new ..) ⟨t,rfl⟩ ⟨t',rfl⟩ h0 hac hc hz fun s' I5=>?_))))
   exact wpAny_release ⟨σ,_,I5,q⟩
theorem ZeO(ns:List Int):∀n,n≤ns.length→preSum (fun j=>ns.getD j 0) n=(ns.take n).sum
 | 0,_=>rfl
 | n+1,h=>by
  have ih:=ZeO ns n (by omega)
  have e:ns.take (n+1)=ns.take n++[ns.getD n 0]:=by
   rw[QI,Qb (by omega),Qk,Qb (by omega)]
   rfl
  rw[e,Qan,← ih]
  simp[preSum]
end
section
variable {prog:Program} {w:World} {A:Around} {E:Value→Shared→Prop} {s:Shared} {κ:PyProof.Rows.KeyKind} {k0:SortKind} {a₀:Array Keyed} {st:SortSt}
noncomputable def ZgT(prog:Program)(w:World)(A:Around)(s:Shared)(k0:SortKind)(κ:PyProof.Rows.KeyKind):Prop :=
 ∀ (E:Value→Shared→Prop) (x y:Value) (a b:κ.α) (Q:Bool→Shared→Prop),κ.keyOf x=some a→κ.keyOf y=some b→Q (κ.blt a b) s→wpAny (model prog w) A (keyLt' k0 x y) Q E s
structure SB (k0:SortKind) (a₀:Array Keyed) (st:SortSt):Prop where
 perm:(arrOf st).Perm a₀
 kind:kindOf st=k0
 failed:failedOf st=none
 pend:pendingOf st = #[]
theorem SB.size(B:SB k0 a₀ st):(arrOf st).size=a₀.size:=B.perm.size_eq
theorem SB.at(B:SB k0 a₀ st)(hk:PyProof.Rows.KeysOf κ a₀){i:Nat}(hi:i<a₀.size):∃x p,(arrOf st)[i]? = some (x,p)∧κ.keyOf x=some (KK κ (arrOf st) i):=by
 have hs:=B.size
 have e:(arrOf st)[i]? = some (arrOf st)[i]:=Array.getElem?_eq_getElem (by omega)
 have hm:(arrOf st)[i]∈a₀.toList:=by
  have h1:(arrOf st)[i]∈arrOf st:=Array.getElem_mem (by omega)
  have h2:=(B.perm.mem_iff (a:=(arrOf st)[i])).mp h1
  simpa using h2
 obtain⟨a,ha⟩:=hk _ hm
 refine⟨(arrOf st)[i].1,(arrOf st)[i].2,e,?_⟩
 unfold KK
 rw[e]
 show _=some ((κ.keyOf (arrOf st)[i].1).getD κ.dflt)
 rw[ha]
 rfl
theorem SB.set(B:SB k0 a₀ st){xs:Array Keyed}(h:xs.Perm (arrOf st)):SB k0 a₀ (setArr st xs):=⟨h.trans B.perm,B.kind,B.failed,B.pend⟩
theorem w_elem{arr:Array Keyed}{i:Nat}{p:Keyed}{Q:Keyed→SortSt→Prop}(h:arr[i]? = some p)(q:Q p st):wpS (model prog w) A E s (elem' arr i) Q st:=by
 rw[elem'_eq,h]
 exact wpS_pure q
theorem w_lt(hL:ZgT prog w A s k0 κ)(hk:PyProof.Rows.KeysOf κ a₀)(B:SB k0 a₀ st){i j:Nat}(hi:i<a₀.size)(hj:j<a₀.size){Q:Option Bool→SortSt→Prop}(q:Q (some (κ.blt (KK κ (arrOf st) i) (KK κ (arrOf st) j))) st):wpS (model prog w) A E s (ltAt' i j) Q st:=by
 obtain⟨x,p,e1,k1⟩:=B.at hk hi
 obtain⟨y,p',e2,k2⟩:=B.at hk hj
 rw[ltAt'_eq]
 refine wpS_bind (wpS_get ?_)
 show wpS _ _ _ _ (elem' (arrOf st) i >>= _) _ _
 refine wpS_bind (w_elem e1 (wpS_bind (w_elem e2 ?_)))
 rw[lt'_eq]
 refine wpS_bind (wpS_get (wpS_bind (wpS_lift (wpAny_attempt ?_))))
 rw[B.kind]
 refine hL _ x y _ _ _ k1 k2 ⟨rfl,?_⟩
 exact wpS_pure q
theorem Zn3{xs:Array Keyed}{i:Nat}(h0:1≤i)(S:SortedToK κ xs i)(h:κ.kle (KK κ xs (i-1)) (KK κ xs i)):SortedToK κ xs (i+1):=by
 intro a b hab hb
 by_cases e:b<i
 ·exact S a b hab e
 ·have eb:b=i:=by omega
  subst eb
  by_cases ea:a=b
  ·subst ea;exact KeyOrd.kle_refl _
  ·exact KeyOrd.kle_trans (S a (b-1) (by omega) (by omega)) h
theorem w_asc(hL:ZgT prog w A s k0 κ)(hk:PyProof.Rows.KeysOf κ a₀){a nrem:Nat}(hn:nrem≤a₀.size)(h1:1≤a)(ha:a≤nrem)(B:SB k0 a₀ st)(S:SortedToK κ (arrOf st) a){Q:AscSt→SortSt→Prop}
  (q:∀n,a≤n→n≤nrem→SortedToK κ (arrOf st) n→(n=nrem∨κ.klt (KK κ (arrOf st) n) (KK κ (arrOf st) (n-1)))→Q (none,n) st):wpS (model prog w) A E s (ascLoop a nrem) Q st:=by
 unfold ascLoop
 refine wpS_forRange (fun i c st'=>st'=st∧c=(none,i)∧SortedToK κ (arrOf st) i) ?_ ?_ ⟨rfl,rfl,S⟩
 ·rintro i c st' hai hin ⟨rfl,rfl,S'⟩
  refine wpS_bind (w_lt hL hk B (by show i<_;omega) (by show i-1<_;clear q ha hai h1;omega) ?_)
  cases hb:κ.blt (KK κ (arrOf st') i) (KK κ (arrOf st') (i-1)) with
  | true=>exact wpS_pure (q i hai (by omega) S' (.inr hb))
  | false=>exact wpS_pure ⟨rfl,rfl,Zn3 (by omega) S' hb⟩
 ·rintro c st' ⟨rfl,rfl,S'⟩
  rw[show max a nrem=nrem by omega]at S' ⊢
  exact q nrem ha (Qg _) S' (.inl rfl)
theorem w_rev{i j:Nat}{Q:Unit→SortSt→Prop}(q:Q () (setArr st (mirror (arrOf st) i j ((j-i) / 2)))):wpS (model prog w) A E s (reverseSlice' i j) Q st:=wpS_reverse q
theorem w_desc(hL:ZgT prog w A s k0 κ)(hk:PyProof.Rows.KeysOf κ a₀){n nrem:Nat}(hn:nrem≤a₀.size)(h1:1≤n)(hnn:n≤nrem)(B:SB k0 a₀ st)(S:NonIncK κ (arrOf st) n){Q:DescSt→SortSt→Prop}
  (q:∀ (m neq:Nat) (st':SortSt),SB k0 a₀ st'→n≤m→m≤nrem→NonIncK κ (arrOf st') m→neq+1≤m→(∀i,m-(neq+1)≤i→i<m→KK κ (arrOf st') i=KK κ (arrOf st') (m-1))→Q (none,m,neq) st'):wpS (model prog w) A E s (descLoop n nrem) Q st:=by
 unfold descLoop
 refine wpS_forRange (fun i c st'=>∃neq,c=(none,i,neq)∧SB k0 a₀ st'∧n≤i∧i≤nrem∧NonIncK κ (arrOf st') i∧neq+1≤i∧(∀k,i-(neq+1)≤k→k<i→KK κ (arrOf st') k=KK κ (arrOf st') (i-1))) ?_ ?_ ?_
 ·rintro i c st' hai hin ⟨neq,rfl,B',hi1,hi2,N',hq,heq⟩
  have more:∀ (st2:SortSt),SB k0 a₀ st2→(∀k,KK κ (arrOf st2) k=KK κ (arrOf st') k)→κ.kle (KK κ (arrOf st') i) (KK κ (arrOf st') (i-1))→NonIncK κ (arrOf st2) (i+1):=fun st2 B2 e hle a b hab hb=>by
   rw[e a,e b]
   by_cases hbi:b<i
   ·exact N' a b hab hbi
   ·have eb:b=i:=by omega
    subst eb
    by_cases ea:a=b
    ·subst ea;exact KeyOrd.kle_refl _
    ·exact KeyOrd.kle_trans hle (N' a (b-1) (by omega) (by omega))
  refine wpS_bind (w_lt hL hk B' (by show i<_;omega) (by show i-1<_;omega) ?_)
  cases hb:κ.blt (KK κ (arrOf st') i) (KK κ (arrOf st') (i-1)) with
  | true =>
   have hle:κ.kle (KK κ (arrOf st') i) (KK κ (arrOf st') (i-1)):=KeyOrd.kle_of_klt hb
   show wpS _ _ _ _ (if neq>0 then _ else _) _ _
   by_cases h0:neq>0
   ·rw[if_pos h0]
    refine wpS_bind (w_rev (wpS_pure ?_))
    have e:∀k,KK κ (mirror (arrOf st') (i-(neq+1)) i ((i-(i-(neq+1))) / 2)) k=KK κ (arrOf st') k:=KK_mirror_equal (by rw[B'.size];omega) (fun k h1 h2=>heq k h1 h2)
    refine⟨0,rfl,B'.set (mirror_perm _ _ _ _),by omega,by omega,more _ (B'.set (mirror_perm _ _ _ _)) e hle,by omega,fun k h1 h2=>?_⟩
    have:k=i:=by omega
    subst this
    rfl
   ·rw[if_neg h0]
    refine wpS_pure ⟨0,rfl,B',by omega,by omega,more _ B' (fun _=>rfl) hle,by omega,fun k h1 h2=>?_⟩
    have:k=i:=by omega
    subst this
    rfl
  | false =>
   refine wpS_bind (w_lt hL hk B' (by show i-1<_;omega) (by show i<_;omega) ?_)
   cases hb2:κ.blt (KK κ (arrOf st') (i-1)) (KK κ (arrOf st') i) with
   | true=>exact wpS_pure (q i neq st' B' hi1 hi2 N' hq heq)
   | false =>
    have ee:=κ.total _ _ hb hb2
    refine wpS_pure ⟨neq+1,rfl,B',by omega,by omega,more _ B' (fun _=>rfl) hb2,by omega,fun k h1 h2=>?_⟩
    show KK κ (arrOf st') k=KK κ (arrOf st') i
    by_cases hki:k=i
    ·rw[hki]
    ·rw[ee];exact heq k (by clear more heq hi2 hi1 hin hai q hnn hn hki h2 hq;omega) (by omega)
 ·rintro c st' ⟨neq,rfl,B',hi1,hi2,N',hq,heq⟩
  rw[show max n nrem=nrem by omega]at *
  exact q nrem neq st' B' hi1 hi2 N' hq heq
 ·refine⟨0,rfl,B,Qg _,hnn,S,by omega,fun k h1 h2=>?_⟩
  have:k=n-1:=by omega
  rw[this]
theorem w_tail(hL:ZgT prog w A s k0 κ)(hk:PyProof.Rows.KeysOf κ a₀){n nrem:Nat}(hn:nrem≤a₀.size)(h1:1≤n)(hnn:n≤nrem)(B:SB k0 a₀ st)(N:NonIncK κ (arrOf st) n){Q:Option Nat→SortSt→Prop}
  (q:∀ (m:Nat) (st':SortSt),SB k0 a₀ st'→1≤m→m≤nrem→SortedToK κ (arrOf st') m→Q (some m) st'):wpS (model prog w) A E s (tail3 n nrem) Q st:=by
 unfold tail3
 refine wpS_bind (w_rev ?_)
 have B':=B.set (mirror_perm (arrOf st) 0 n ((n-0) / 2))
 have e:=KK_mirror (κ:=κ) (xs:=arrOf st) (i:=0) (j:=n) (by rw[B.size];omega)
 have S:SortedToK κ (mirror (arrOf st) 0 n ((n-0) / 2)) n:=fun a b hab hb=>by
  rw[e a,e b,if_pos ⟨by omega,by omega⟩,if_pos ⟨by omega,by omega⟩]
  exact N _ _ (by clear e q hnn h1 hn hb;omega) (by clear e q hnn h1 hn hab;omega)
 refine wpS_bind (w_asc hL hk hn h1 hnn B' S fun m hm1 hm2 S' _=>?_)
 exact wpS_pure (q m _ B' (by omega) hm2 S')
theorem w_part(hL:ZgT prog w A s k0 κ)(hk:PyProof.Rows.KeysOf κ a₀){n nrem:Nat}(hn:nrem≤a₀.size)(hnn:n+1≤nrem)(B:SB k0 a₀ st)(N:NonIncK κ (arrOf st) (n+1)){Q:Option Nat→SortSt→Prop}
  (q:∀ (m:Nat) (st':SortSt),SB k0 a₀ st'→1≤m→m≤nrem→SortedToK κ (arrOf st') m→Q (some m) st'):wpS (model prog w) A E s (descPart n nrem) Q st:=by
 unfold descPart
 refine wpS_bind (wpS_lift (wpAny_rule ⟨rfl,?_⟩))
 refine wpS_bind (w_desc hL hk hn (by omega) hnn B N fun m neq st' B' m1 m2 N' hq heq=>?_)
 show wpS _ _ _ _ (if neq>0 then _ else _) _ _
 by_cases h0:neq>0
 ·rw[if_pos h0]
  refine wpS_bind (w_rev ?_)
  have e:∀k,KK κ (mirror (arrOf st') (m-(neq+1)) m ((m-(m-(neq+1))) / 2)) k=KK κ (arrOf st') k:=KK_mirror_equal (by rw[B'.size];omega) (fun k h1 h2=>heq k h1 h2)
  exact w_tail hL hk hn (by omega) m2 (B'.set (mirror_perm _ _ _ _)) (fun a b hab hb=>by rw[e a,e b];exact N' a b hab hb) q
 ·rw[if_neg h0]
  exact w_tail hL hk hn (by omega) m2 B' N' q
theorem w_count(hL:ZgT prog w A s k0 κ)(hk:PyProof.Rows.KeysOf κ a₀){nrem:Nat}(hn:nrem≤a₀.size)(h1:1≤nrem)(B:SB k0 a₀ st){Q:Option Nat→SortSt→Prop}
  (q:∀ (m:Nat) (st':SortSt),SB k0 a₀ st'→1≤m→m≤nrem→SortedToK κ (arrOf st') m→Q (some m) st'):wpS (model prog w) A E s (countRun' 0 nrem) Q st:=by
 rw[countRun0_eq]
 refine wpS_bind (w_asc hL hk hn (Qg 1) h1 B (fun a b hab hb=>by obtain rfl:a=b:=(by omega);exact KeyOrd.kle_refl _) fun n n1 n2 S hor=>?_)
 show wpS _ _ _ _ (if (n == nrem)=true then _ else _) _ _
 by_cases hnn:n=nrem
 ·rw[if_pos (by rw[hnn];exact beq_self_eq_true _)]
  exact wpS_pure (q n st B n1 n2 S)
 ·rw[if_neg (by intro z;exact hnn (eq_of_beq z))]
  have hlt:=hor.resolve_left hnn
  have flat:(∀k,k<n→KK κ (arrOf st) k=KK κ (arrOf st) (n-1))→NonIncK κ (arrOf st) (n+1):=fun hf a b hab hb=>by
   by_cases hbn:b<n
   ·rw[hf a (by omega),hf b hbn];exact KeyOrd.kle_refl _
   ·have eb:b=n:=by omega
    subst eb
    by_cases ea:a=b
    ·subst ea;exact KeyOrd.kle_refl _
    ·rw[hf a (by omega)];exact KeyOrd.kle_of_klt hlt
  by_cases hn1:n>1
  ·rw[if_pos hn1]
   refine wpS_bind (w_lt hL hk B (by omega) (by omega) ?_)
   cases hb:κ.blt (KK κ (arrOf st) 0) (KK κ (arrOf st) (n-1)) with
   | true=>exact wpS_pure (q n st B n1 n2 S)
   | false =>
    have hf:∀k,k<n→KK κ (arrOf st) k=KK κ (arrOf st) (n-1):=fun k hkn=>by
     have a1:κ.kle (KK κ (arrOf st) k) (KK κ (arrOf st) (n-1)):=S k (n-1) (by omega) (by omega)
     have a2:κ.kle (KK κ (arrOf st) (n-1)) (KK κ (arrOf st) k):=KeyOrd.kle_trans (show κ.kle (KK κ (arrOf st) (n-1)) (KK κ (arrOf st) 0) from hb) (S 0 k (by omega) (by omega))
     exact KeyOrd.kle_antisymm a1 a2
    refine wpS_bind (w_rev ?_)
    have e:∀k,KK κ (mirror (arrOf st) 0 n ((n-0) / 2)) k=KK κ (arrOf st) k:=KK_mirror_equal (by rw[B.size];omega) (fun k _ h2=>hf k h2)
    exact w_part hL hk hn (by omega) (B.set (mirror_perm _ _ _ _)) (fun a b hab hb=>by rw[e a,e b];exact flat hf a b hab hb) q
  ·rw[if_neg hn1]
   exact w_part hL hk hn (by clear flat hor q h1 hn hn1 n1;omega) B (flat fun k hkn=>by rw[show k=n-1 by omega]) q
theorem bin_put{xs:Array Keyed}{k l:Nat}(hk:k<xs.size)(hl:l≤k)(S':SortedToK κ xs k)(hlo:∀j,j<l→κ.kle (KK κ xs j) (KK κ xs k))(hhi:∀j,l≤j→j<k→κ.klt (KK κ xs k) (KK κ xs j)):SortedToK κ (bubble xs (0+k) (0+k-(0+l))) (k+1):=by
 have eb:=KK_bubble (κ:=κ) (xs:=xs) (src:=0+k) (d:=0+k-(0+l)) (by omega) (by omega)
 intro a b hab hb
 rw[eb a,eb b]
 rw[Nat.zero_add,Nat.zero_add,show k-(k-l)=l by omega]
 clear eb
 by_cases ha:a=l
 ·rw[if_pos ha]
  by_cases hbl:b=l
  ·rw[if_pos hbl];exact KeyOrd.kle_refl _
  ·rw[if_neg hbl,if_pos ⟨by omega,by omega⟩]
   exact KeyOrd.kle_of_klt (hhi (b-1) (by omega) (by omega))
 ·rw[if_neg ha]
  by_cases hal:a<l
  ·rw[if_neg (by omega)]
   by_cases hbl:b=l
   ·rw[if_pos hbl];exact hlo a hal
   ·rw[if_neg hbl]
    by_cases hbb:l<b
    ·rw[if_pos ⟨hbb,by omega⟩];exact S' a (b-1) (by omega) (by omega)
    ·rw[if_neg (by omega)];exact S' a b hab (by omega)
  ·rw[if_pos ⟨by omega,by omega⟩,if_neg (by omega),if_pos ⟨by omega,by omega⟩]
   exact S' (a-1) (b-1) (by omega) (by omega)
theorem w_binary(hL:ZgT prog w A s k0 κ)(hk:PyProof.Rows.KeysOf κ a₀){n ok:Nat}(hn:n≤a₀.size)(h1:ok≤n)(h0:1≤ok)(B:SB k0 a₀ st)(S:SortedToK κ (arrOf st) ok){Q:Bool→SortSt→Prop}
  (q:∀ (st':SortSt),SB k0 a₀ st'→SortedToK κ (arrOf st') n→Q true st'):wpS (model prog w) A E s (binarySort' 0 n ok) Q st:=by
 rw[binarySort'_eq]
 refine wpS_bind ?_
 refine wpS_forRange (fun i c st'=>c=(none,())∧SB k0 a₀ st'∧SortedToK κ (arrOf st') i) ?_ ?_ ⟨rfl,B,by rw[show max ok 1=ok by omega];exact S⟩
 ·rintro k c st' hak hkn ⟨rfl,B',S'⟩
  have k1:1≤k:=by omega
  refine wpS_bind ?_
  refine wpS_forRange (fun i c st2=>∃l r,c=(none,l,r)∧st2=st'∧l≤r∧r≤k∧r-l≤k-i∧(∀j,j<l→κ.kle (KK κ (arrOf st') j) (KK κ (arrOf st') k))∧(∀j,r≤j→j<k→κ.klt (KK κ (arrOf st') k) (KK κ (arrOf st') j))) ?_ ?_ ⟨0,k,rfl,rfl,Qv _,Qg _,by omega,fun j h=>by omega,fun j h1 h2=>by omega⟩
  ·rintro i c st2 hi0 hik ⟨l,r,rfl,rfl,hlr,hrk,hm,hlo,hhi⟩
   show wpS _ _ _ _ (if l≥r then _ else _) _ _
   by_cases hge:l≥r
   ·rw[if_pos hge]
    refine wpS_pure ?_
    have elr:l=r:=by omega
    subst elr
    refine wpS_bind ?_
    rw[moveDown'_eq]
    refine wpS_modify (wpS_pure ?_)
    exact⟨rfl,B'.set (bubble_perm _ _ _),bin_put (by rw[B'.size];omega) hrk S' hlo hhi⟩
   ·rw[if_neg hge]
    refine wpS_bind (w_lt hL hk B' (by show 0+k<_;omega) (by show 0+(l+r) / 2<_;omega) ?_)
    rw[show 0+k=k by omega,show 0+(l+r) / 2=(l+r) / 2 by omega]
    cases hb:κ.blt (KK κ (arrOf st2) k) (KK κ (arrOf st2) ((l+r) / 2)) with
    | true =>
     refine wpS_pure ⟨l,(l+r) / 2,rfl,rfl,by omega,by omega,by omega,hlo,fun j h1 h2=>?_⟩
     exact KeyOrd.klt_of_klt_of_kle hb (S' _ j h1 h2)
    | false =>
     refine wpS_pure ⟨(l+r) / 2+1,r,rfl,rfl,by omega,by omega,by omega,fun j h=>?_,hhi⟩
     exact KeyOrd.kle_trans (S' j ((l+r) / 2) (by omega) (by omega)) hb
  ·rintro c st2 ⟨l,r,rfl,rfl,hlr,hrk,hm,hlo,hhi⟩
   have elr:l=r:=by omega
   subst elr
   refine wpS_bind ?_
   rw[moveDown'_eq]
   refine wpS_modify (wpS_pure ?_)
   exact⟨rfl,B'.set (bubble_perm _ _ _),bin_put (by rw[B'.size];omega) hrk S' hlo hhi⟩
 ·rintro c st' ⟨rfl,B',S'⟩
  rw[show max (max ok 1) n=n by omega]at S'
  exact wpS_pure (q st' B' S')
theorem w_runs(hL:ZgT prog w A s k0 κ)(hk:PyProof.Rows.KeysOf κ a₀)(B:SB k0 a₀ st)(h2:2≤a₀.size)(h64:a₀.size<64){Q:Unit→SortSt→Prop}
  (q:∀ (st':SortSt),(arrOf st').Perm a₀→failedOf st'=none→SortedToK κ (arrOf st') a₀.size→Q () st'):wpS (model prog w) A E s sortRuns' Q st:=by
 rw[sortRuns'_eq]
 refine wpS_bind (wpS_get ?_)
 have hsz:=B.size
 have hmin:minRun' (arrOf st).size (arrOf st).size 0=(arrOf st).size:=by
  obtain⟨f,hf⟩:∃f,(arrOf st).size=f+1:=⟨(arrOf st).size-1,by clear q h64;omega⟩
  rw[show minRun' (arrOf st).size (arrOf st).size 0=minRun' (f+1) (arrOf st).size 0 by rw[← hf],minRun'_succ,if_pos (by clear q hf h2;omega)]
  rfl
 refine wpS_bind ?_
 refine wpS_forRange (fun i c st'=>(i=0∧c=(none,0)∧st'=st)∨(i≠0∧c=(none,a₀.size)∧(arrOf st').Perm a₀∧failedOf st'=none∧(pendingOf st').size≤1∧SortedToK κ (arrOf st') a₀.size)) ?_ ?_ (.inl ⟨rfl,rfl,rfl⟩)
 ·rintro i c st' hi0 hi ⟨⟩
  ·rename_i h
   obtain⟨rfl,rfl,rfl⟩:=h
   show wpS _ _ _ _ (if 0≥(arrOf st').size then _ else _) _ _
   rw[if_neg (by omega)]
   refine wpS_bind ?_
   rw[show (arrOf st').size-0=a₀.size by clear hi hi0 q hmin h64 h2;omega]
   refine w_count hL hk (Qg _) (by omega) B fun m st2 B2 m1 m2 S2=>?_
   have push:∀ (st3:SortSt),SB k0 a₀ st3→SortedToK κ (arrOf st3) a₀.size→(arrOf (setPending st3 ((pendingOf st3).push (0,a₀.size,0)))).Perm a₀∧failedOf (setPending st3 ((pendingOf st3).push (0,a₀.size,0)))=none∧(pendingOf (setPending st3 ((pendingOf st3).push (0,a₀.size,0)))).size≤1∧SortedToK κ (arrOf (setPending st3 ((pendingOf st3).push (0,a₀.size,0)))) a₀.size:=fun st3 B3 S3 =>
    ⟨B3.perm,B3.failed,by show ((pendingOf st3).push (0,a₀.size,0)).size≤1;rw[B3.pend,Array.size_push];exact Qg _,S3⟩
   show wpS _ _ _ _ (if m<minRun' (arrOf st').size (arrOf st').size 0 then _ else _) _ _
   rw[hmin,hsz]
   by_cases hm:m<a₀.size
   ·rw[if_pos hm]
    refine wpS_bind (wpS_lift (wpAny_rule ⟨rfl,?_⟩))
    show wpS _ _ _ _ (binarySort' 0 (min a₀.size a₀.size) m >>= _) _ _
    rw[Nat.min_self]
    refine wpS_bind (w_binary hL hk (Qg _) (by omega) m1 B2 S2 fun st3 B3 S3=>?_)
    show wpS _ _ _ _ (get >>= _) _ _
    refine wpS_bind (wpS_get ?_)
    show wpS _ _ _ _ (match (pendingOf st3).back? with|some (s1,n1,snd)=>_|x=>_) _ _
    rw[show (pendingOf st3).back? = none by rw[B3.pend];rfl]
    show wpS _ _ _ _ (modify _ >>= _) _ _
    refine wpS_bind (wpS_modify (wpS_pure (.inr ⟨by omega,?_,push st3 B3 S3⟩)))
    show (none,0+a₀.size)=(none,a₀.size)
    rw[Nat.zero_add]
   ·rw[if_neg hm]
    have em:m=a₀.size:=by clear push m1 hi hi0 q h64 h2 hmin hsz;omega
    subst em
    show wpS _ _ _ _ (get >>= _) _ _
    refine wpS_bind (wpS_get ?_)
    show wpS _ _ _ _ (match (pendingOf st2).back? with|some (s1,n1,snd)=>_|x=>_) _ _
    rw[show (pendingOf st2).back? = none by rw[B2.pend];rfl]
    show wpS _ _ _ _ (modify _ >>= _) _ _
    refine wpS_bind (wpS_modify (wpS_pure (.inr ⟨by omega,?_,push st2 B2 S2⟩)))
    show (none,0+a₀.size)=(none,a₀.size)
    rw[Nat.zero_add]
  ·rename_i h
   obtain⟨hne,rfl,p1,p2,p3,p4⟩:=h
   show wpS _ _ _ _ (if a₀.size≥(arrOf st).size then _ else _) _ _
   rw[if_pos (by omega)]
   refine wpS_pure ?_
   show wpS _ _ _ _ (forIn [:(arrOf st).size] (none,()) _ >>= _) _ _
   refine wpS_bind ?_
   refine wpS_forRange (fun i c st2=>c=(none,())∧st2=st') ?_ ?_ ⟨rfl,rfl⟩
   ·rintro i c st2 _ _ ⟨rfl,rfl⟩
    show wpS _ _ _ _ (get >>= _) _ _
    refine wpS_bind (wpS_get ?_)
    show wpS _ _ _ _ (if (pendingOf st2).size≤1 then _ else _) _ _
    rw[if_pos p3]
    exact wpS_pure (wpS_pure (q _ p1 p2 p4))
   ·rintro c st2 ⟨rfl,rfl⟩
    exact wpS_pure (q _ p1 p2 p4)
 ·rintro c st' ⟨⟩
  ·rename_i h
   exact absurd h.1 (by clear q h hmin h64;omega)
  ·rename_i h
   obtain⟨hne,rfl,p1,p2,p3,p4⟩:=h
   show wpS _ _ _ _ (forIn [:(arrOf st).size] (none,()) _ >>= _) _ _
   refine wpS_bind ?_
   refine wpS_forRange (fun i c st2=>c=(none,())∧st2=st') ?_ ?_ ⟨rfl,rfl⟩
   ·rintro i c st2 _ _ ⟨rfl,rfl⟩
    show wpS _ _ _ _ (get >>= _) _ _
    refine wpS_bind (wpS_get ?_)
    show wpS _ _ _ _ (if (pendingOf st2).size≤1 then _ else _) _ _
    rw[if_pos p3]
    exact wpS_pure (wpS_pure (q _ p1 p2 p4))
   ·rintro c st2 ⟨rfl,rfl⟩
    exact wpS_pure (q _ p1 p2 p4)
end
section
variable {prog:Program} {w:World} {A:Around} {E:Value→Shared→Prop} {s:Shared} {κ:PyProof.Rows.KeyKind}
theorem w_sort{a:Addr}{vs:List Value}{n:Nat}{P:PySem.Fin→Shared→Prop}(ha:s.heap.get? a=some (seqObj "list" vs.toArray n))(hk:PyProof.Rows.KeysOf κ (pairsOf vs))(h2:2≤vs.length)(h64:vs.length<64)
  (hK:∀ (s':Shared),(∀b o,b≠a→s.heap.get? b=some o→s'.heap.get? b=some o)→∀ (E:Value→Shared→Prop) (Q:SortKind→Shared→Prop),(∀k0,ZgT prog w A s' k0 κ→Q k0 s')→wpAny (model prog w) A (keyKind' vs.toArray) Q E s')
  (q:∀ (st':SortSt),(arrOf st').Perm (pairsOf vs)→SortedToK κ (arrOf st') (pairsOf vs).size→P (Fin.done (Flow.ret Value.none)) { s with heap:=sortedHeap s.heap a vs ((arrOf st').map fun x=>x.snd) }) :
  wpAny (model prog w) A (Builtin.«list.sort» { pos:=[.ref a] }) P E s:=by
 have hz:vs.toArray.size≤sizeLine:=by rw[Qt,sizeLine_eq];omega
 rw[list_sort_plain]
 refine wpAny_bind (Zbc ha rfl ?_)
 show wpAny _ _ (updateSeq a (fun x=>#[]) >>= _) _ _ _
 refine wpAny_bind (wpAny_updateSeq ha rfl ?_ hz (by show 0≤_;omega))
 have e1:=get?_update_seq ha (fun _=>#[])
 refine wpAny_bind (seqEpoch_at e1 rfl ?_)
 refine wpAny_bind (wpAny_newTuple ?_ (by simpa using hz))
 refine wpAny_bind (wpAny_newList ?_ (by show 0≤_;omega))
 refine wpAny_holding ?_
 have hn2:¬ vs.toArray.size<2:=by rw[Qt];omega
 have hps:(pairsOf vs).size=vs.length:=by unfold pairsOf;simp
 rw[if_neg hn2,if_neg hn2]
 have keep:∀b o,b≠a→s.heap.get? b=some o→(((s.heap.update a (Obj.mapSeq fun _=>#[])).push { cls:=.type "tuple",data:=.seq vs.toArray.toList.toArray }).push { cls:=.type "list",data:=.seq ([]:List Value).toArray }).get? b=some o:=fun b o hb h =>
  Qj _ (Qj _ (Q8 _ (Ne.symm hb) h))
 have e2:(((s.heap.update a (Obj.mapSeq fun _=>#[])).push { cls:=.type "tuple",data:=.seq vs.toArray.toList.toArray }).push { cls:=.type "list",data:=.seq ([]:List Value).toArray }).get? a=some (seqObj "list" #[] _):=Qj _ (Qj _ e1)
 refine wpAny_bind (hK _ keep _ _ fun k0 hL=>?_)
 refine wpAny_bind ?_
 have B:SB k0 (pairsOf vs) (SortSt.mk' k0 (vs.toArray.zip vs.toArray) #[] 7 none):=⟨Array.Perm.refl _,rfl,rfl,rfl⟩
 refine thn (w_runs (E:=E) hL hk B (by rw[hps];exact h2) (by rw[hps];exact h64) (Q:=fun _ st'=>(arrOf st').Perm (pairsOf vs)∧failedOf st'=none∧SortedToK κ (arrOf st') (pairsOf vs).size) (fun st' a b c=>⟨a,b,c⟩)) fun r s' hr=>?_
 obtain⟨⟨⟩,st'⟩:=r
 obtain⟨rfl,p1,p2,p3⟩:=hr
 refine wpAny_bind (seqEpoch_at e2 rfl ?_)
 have hsz:((arrOf st').map fun x=>x.snd).size=vs.length:=by rw[Array.size_map,p1.size_eq,hps]
 show wpAny _ _ (updateSeq a (fun x=>(arrOf st').map fun x=>x.snd) >>= _) _ _ _
 refine wpAny_bind (wpAny_updateSeq e2 rfl ?_ (by show 0≤_;omega) (by show ((arrOf st').map fun x=>x.snd).size≤_;rw[hsz];rw[Qt]at hz;clear keep hn2 q hK h64 h2 hsz hps;omega))
 rw[p2]
 rw[if_neg (by simp)]
 exact wpAny_pure (q st' p1 p3)
theorem w_sorted{l:Addr}{vs:List Value}{Q:Value→Shared→Prop}(hl:s.heap.IsList l vs.toArray)(hk:PyProof.Rows.KeysOf κ (pairsOf vs))(h2:2≤vs.length)(h64:vs.length<64)
  (hK:∀ (A:Around) (s':Shared),(∀b o,s.heap.get? b=some o→s'.heap.get? b=some o)→∀ (E:Value→Shared→Prop) (Q:SortKind→Shared→Prop),(∀k0,ZgT prog w A s' k0 κ→Q k0 s')→wpAny (model prog w) A (keyKind' vs.toArray) Q E s')
  (q:∀ (st':SortSt),(arrOf st').Perm (pairsOf vs)→SortedToK κ (arrOf st') (pairsOf vs).size→Q (.ref (s.heap.objs.size+1)) { s with heap:=sortedAll s.heap vs ((arrOf st').map fun x=>x.snd) }) :
  wpAny (model prog w) A (call (.builtin "sorted") [.ref l]) Q E s:=by
 refine Calls.call_function_entry kind_sorted plain_sorted entry_sorted (args_sorted1 (.ref l)) ?_
 have hz:vs.length≤sizeLine:=by rw[sizeLine_eq];omega
 refine wpAny_bind (wpAny_pure (wpAny_bind (collect_list hl (wpAny_bind (wpAny_newList ?_ hz)) hz)))
 have hsz:((s.heap.push (seqObj "list" #[] 0)).update s.heap.objs.size (Obj.mapSeq fun x=>x++vs.toArray)).objs.size=s.heap.objs.size+1:=by rw[Heap.size_update,size_push']
 have hoL:((((s.heap.push (seqObj "list" #[] 0)).update s.heap.objs.size (Obj.mapSeq fun x=>x++vs.toArray)).push (seqObj "list" vs.toArray 0)).get? (s.heap.objs.size+1))=some (seqObj "list" vs.toArray 0):=by
  rw[← hsz];exact QD _ rfl
 have keep:∀b o,s.heap.get? b=some o→(((s.heap.push (seqObj "list" #[] 0)).update s.heap.objs.size (Obj.mapSeq fun x=>x++vs.toArray)).push (seqObj "list" vs.toArray 0)).get? b=some o:=fun b o h =>
  Qj _ (Q8 _ (QaP (Qz h)) (Qj _ h))
 show wpAny _ _ (holding [.ref ((s.heap.push (seqObj "list" #[] 0)).update s.heap.objs.size (Obj.mapSeq fun x=>x++vs.toArray)).objs.size] (call (.builtin "list.sort") [.ref ((s.heap.push (seqObj "list" #[] 0)).update s.heap.objs.size (Obj.mapSeq fun x=>x++vs.toArray)).objs.size]) >>= fun _=>ret (.ref ((s.heap.push (seqObj "list" #[] 0)).update s.heap.objs.size (Obj.mapSeq fun x=>x++vs.toArray)).objs.size)) _ _ _
 rw[hsz]
 refine wpAny_bind (wpAny_holding (wpAny_call_entry slot_list_sort ⟨_,hoL,rfl⟩ entry_list_sort ?_ (args_list_sort _)))
 refine w_sort hoL hk h2 h64 (fun s' hk'=>hK _ s' fun b o h=>hk' b o (QV (QF (Qz h) (Q4 _))) (keep b o h)) fun st' p1 p3=>?_
 exact⟨_,rfl,wpAny_pure ⟨_,rfl,q st' p1 p3⟩⟩
end
noncomputable def kLt:Key→Key→Bool
 | .inl i,.inl j=>decide (i<j)
 | .inr x,.inr y=>decide (x.cps.toList<y.cps.toList)
 | .inl _,.inr _=>true
 | .inr _,.inl _=>false
theorem Zj6:∀a:Key,kLt a a=false
 | .inl i=>decide_eq_false (by omega)
 | .inr x=>decide_eq_false (List.lt_irrefl _)
theorem ZlK:∀a b c:Key,kLt a b=true→kLt b c=true→kLt a c=true
 | .inl i,.inl j,.inl k,h1,h2=>by have:=of_decide_eq_true h1;have:=of_decide_eq_true h2;exact decide_eq_true (by omega)
 | .inr x,.inr y,.inr z,h1,h2=>decide_eq_true (List.lt_trans (of_decide_eq_true h1) (of_decide_eq_true h2))
 | .inl _,.inl _,.inr _,_,_=>rfl
 | .inl _,.inr _,.inr _,_,_=>rfl
 | .inl _,.inr _,.inl _,_,h=>by cases h
 | .inr _,.inl _,_,h,_=>by cases h
 | .inr _,.inr _,.inl _,_,h=>by cases h
theorem Zmu:∀a b:Key,kLt a b=false→kLt b a=false→a=b
 | .inl i,.inl j,h1,h2=>by have:=of_decide_eq_false h1;have:=of_decide_eq_false h2;congr 1;omega
 | .inr x,.inr y,h1,h2=>by
  have a1:¬ x.cps.toList<y.cps.toList:=of_decide_eq_false h1
  have a2:¬ y.cps.toList<x.cps.toList:=of_decide_eq_false h2
  have e:x.cps.toList=y.cps.toList:=List.le_antisymm a2 a1
  obtain⟨xs⟩:=x
  obtain⟨ys⟩:=y
  congr 2
  exact Array.toList_inj.mp e
 | .inl _,.inr _,h,_=>by cases h
 | .inr _,.inl _,_,h=>by cases h
noncomputable def ZP:List Key→List Key→Bool
 | [],[]=>false
 | [],_::_=>true
 | _::_,[]=>false
 | x::xs,y::ys=>if x=y then ZP xs ys else kLt x y
theorem Z8(x y:Key)(xs ys:List Key):ZP (x::xs) (y::ys)=if x=y then ZP xs ys else kLt x y:=rfl
theorem Za5:∀a:List Key,ZP a a=false
 | []=>rfl
 | x::r=>by unfold ZP;rw[if_pos rfl];exact Za5 r
theorem ZbQ:∀a b c:List Key,ZP a b=true→ZP b c=true→ZP a c=true
 | [],[],_,h,_=>by cases h
 | [],_::_,[],_,h=>by cases h
 | [],_::_,_::_,_,_=>rfl
 | _::_,[],_,h,_=>by cases h
 | _::_,_::_,[],_,h=>by cases h
 | x::r,y::s,z::t,h1,h2=>by
  have ih:=ZbQ r s t
  unfold ZP at h1 h2 ⊢
  by_cases e1:x=y
  ·rw[if_pos e1]at h1
   by_cases e2:y=z
   ·rw[if_pos e2]at h2
    rw[if_pos (e1.trans e2)]
    exact ih h1 h2
   ·rw[if_neg e2]at h2
    rw[if_neg (fun e=>e2 (e1.symm.trans e)),e1]
    exact h2
  ·rw[if_neg e1]at h1
   by_cases e2:y=z
   ·rw[if_neg (fun e=>e1 (e.trans e2.symm)),← e2]
    exact h1
   ·rw[if_neg e2]at h2
    have h3:=ZlK _ _ _ h1 h2
    rw[if_neg (fun e=>by rw[e,Zj6]at h3;cases h3)]
    exact h3
theorem ZbT:∀a b:List Key,ZP a b=false→ZP b a=false→a=b
 | [],[],_,_=>rfl
 | [],_::_,h,_=>by cases h
 | _::_,[],_,h=>by cases h
 | x::r,y::s,h1,h2=>by
  unfold ZP at h1 h2
  by_cases e:x=y
  ·rw[if_pos e]at h1
   rw[if_pos e.symm]at h2
   rw[e,ZbT r s h1 h2]
  ·rw[if_neg e]at h1
   rw[if_neg fun z=>e z.symm]at h2
   exact absurd (Zmu _ _ h1 h2) e
theorem ZoD(a b c:List Key)(h:ZP a c=true):ZP a b=true∨ZP b c=true:=by
 by_cases h1:ZP a b=true
 ·exact .inl h1
 ·by_cases h2:ZP b a=true
  ·exact .inr (ZbQ _ _ _ h2 h)
  ·have e:=ZbT a b (by simpa using h1) (by simpa using h2)
   rw[← e];exact .inr h
noncomputable def unV:V→Option Key
 | .int i=>some (.inl i)
 | .str x=>some (.inr x)
 | _=>none
noncomputable def Zfw:List V→Option (List Key)
 | []=>some []
 | x::r=>(unV x).bind fun k=>(Zfw r).map (k::·)
theorem Zq9(k:Key):unV (kV k)=some k:=by cases k<;>rfl
theorem ZjJ:∀ks:List Key,Zfw (ks.map kV)=some ks
 | []=>rfl
 | k::r=>by show (unV (kV k)).bind _=_;rw[Zq9,ZjJ r];rfl
theorem ZqG:∀ {x:V} {k:Key},unV x=some k→x=kV k
 | .int i,k,h=>by cases h;rfl
 | .str z,k,h=>by cases h;rfl
 | .non,_,h=>by cases h
 | .bl _,_,h=>by cases h
 | .byt _,_,h=>by cases h
 | .flt _,_,h=>by cases h
 | .ref _,_,h=>by cases h
 | .ty _,_,h=>by cases h
theorem ZiY:∀ {xs:List V} {ks:List Key},Zfw xs=some ks→xs=ks.map kV
 | [],ks,h=>by cases h;rfl
 | x::r,ks,h=>by
  unfold Zfw at h
  cases hu:unV x with
  | none=>rw[hu]at h;cases h
  | some k =>
   rw[hu]at h
   cases hr:Zfw r with
   | none=>rw[hr]at h;cases h
   | some ms=>rw[hr]at h;cases h;rw[ZqG hu,ZiY hr];rfl
noncomputable def ZV(ks:List Key):List Bool:=ks.map fun k=>k.isLeft
noncomputable def ZhQ(H:Hp)(sh:List Bool):Value→Option (List Key)
 | .ref a=>match H a with
  | some (.tup xs)=>(Zfw xs).bind fun ks=>if ZV ks=sh then some ks else none
  | _=>none
 | _=>none
theorem ZiW{H:Hp}{a:Addr}{ks:List Key}(h:H a=some (.tup (ks.map kV))):ZhQ H (ZV ks) (.ref a)=some ks:=by
 unfold ZhQ
 dsimp only
 rw[h]
 show (Zfw (ks.map kV)).bind _=_
 rw[ZjJ]
 show (if ZV ks=ZV ks then some ks else none)=_
 rw[if_pos rfl]
theorem Zjn{H:Hp}{sh:List Bool}{v:Value}{ks:List Key}(h:ZhQ H sh v=some ks):∃a,v=.ref a∧H a=some (.tup (ks.map kV))∧ZV ks=sh:=by
 unfold ZhQ at h
 split at h
 ·rename_i a
  split at h
  ·rename_i xs hx
   cases hk:Zfw xs with
   | none=>rw[hk]at h;cases h
   | some ms =>
    rw[hk]at h
    have h':(if ZV ms=sh then some ms else none)=some ks:=h
    by_cases e:ZV ms=sh
    ·rw[if_pos e]at h'
     cases h'
     exact⟨a,rfl,by rw[hx,ZiY hk],e⟩
    ·rw[if_neg e]at h';cases h'
  ·cases h
 ·cases h
noncomputable def Zin(H:Hp)(sh:List Bool):PyProof.Rows.KeyKind:=⟨⟨List Key,ZP,Za5,ZbQ,fun a b c h=>ZoD a b c h,ZbT⟩,ZhQ H sh,[]⟩
section
variable {prog:Program} {w:World} {A:Around} {E:Value→Shared→Prop} {s:Shared}
theorem ZqJ{k m:Key}{p q:Value}(hp:ZG (kV k) p)(hq:ZG (kV m) q)(hs:k.isLeft=m.isLeft){Q:Bool→Shared→Prop}(h:Q (decide (k=m)) s):wpAny (model prog w) A (eqBool p q) Q E s:=by
 cases k with
 | inl i =>
  cases m with
  | inl j =>
   obtain⟨t,rfl⟩:=hp
   obtain⟨u,rfl⟩:=hq
   refine wpAny_eqBool_int ?_
   have e:(i == j)=decide ((Sum.inl i:Key)=Sum.inl j):=by
    by_cases z:i=j
    ·rw[z];simp
    ·rw[decide_eq_false (fun e=>z (Sum.inl.inj e))];simpa using z
   rw[e];exact h
  | inr y=>cases hs
 | inr x =>
  cases m with
  | inl j=>cases hs
  | inr y =>
   obtain⟨t,rfl⟩:=hp
   obtain⟨u,rfl⟩:=hq
   refine wpAny_eqBool_str ?_
   have e:decide (x=y)=decide ((Sum.inr x:Key)=Sum.inr y):=decide_eq_decide.mpr ⟨fun z=>by rw[z],fun z=>Sum.inr.inj z⟩
   rw[e];exact h
theorem ZrM{c:Bool}{k m:Key}{p q:Value}(hp:ZG (kV k) p)(hq:ZG (kV m) q)(hs:k.isLeft=m.isLeft){Q:Bool→Shared→Prop}(h:Q (kLt k m) s):wpAny (model prog w) A (oneLt' c p q) Q E s:=by
 cases k with
 | inl i =>
  cases m with
  | inl j =>
   obtain⟨t,rfl⟩:=hp
   obtain⟨u,rfl⟩:=hq
   cases c with
   | true=>exact oneLt_int h
   | false =>
    rw[oneLt'_eq]
    show wpAny _ _ (richCompare .Lt (.int i t) (.int j u) >>= _) _ _ _
    refine wpAny_bind (show wpAny (model prog w) A (compareOp .Lt (.int i t) (.int j u)) _ _ _ from PyProof.Rows.lt_int ?_)
    exact wpAny_pure h
  | inr y=>cases hs
 | inr x =>
  cases m with
  | inl j=>cases hs
  | inr y =>
   obtain⟨t,rfl⟩:=hp
   obtain⟨u,rfl⟩:=hq
   cases c with
   | true=>exact oneLt_str h
   | false =>
    rw[oneLt'_eq]
    show wpAny _ _ (richCompare .Lt (.str x t) (.str y u) >>= _) _ _ _
    refine wpAny_bind (show wpAny (model prog w) A (compareOp .Lt (.str x t) (.str y u)) _ _ _ from PyProof.Rows.lt_str ?_)
    exact wpAny_pure h
theorem ZrC{b:Bool}{x y:Addr}{ks ms:List Key}{its its2:List Value}(hx:IsTup s.heap x its.toArray)(hy:IsTup s.heap y its2.toArray)(rx:Zw (ks.map kV) its)(ry:Zw (ms.map kV) its2)(hs:ZV ks=ZV ms){Q:Bool→Shared→Prop}
  (h:Q (ZP ks ms) s):wpAny (model prog w) A (keyLt' (tuples' b) (.ref x) (.ref y)) Q E s:=by
 obtain⟨o1,ho1,_,n1,hd1⟩:=hx
 obtain⟨o2,ho2,_,n2,hd2⟩:=hy
 show wpAny _ _ (Builtin.List.listItems (.ref x) >>= _) _ _ _
 refine wpAny_bind (Zbc ho1 hd1 (wpAny_bind (Zbc ho2 hd2 (wpAny_bind ?_))))
 have hl1:=rx.length
 have hl2:=ry.length
 have hl3:ks.length=ms.length:=by have:=congrArg List.length hs;simpa [ZV] using this
 rw[Qa]at hl1 hl2
 refine wpAny_forIn_list _ (fun rest c s'=>c=(none,())∧s'=s∧∃ (vs ws:List Value) (k:Nat) (ks' ms':List Key),rest=(vs.zip ws).zipIdx k∧Zw (ks'.map kV) vs∧Zw (ms'.map kV) ws∧ZV ks'=ZV ms'∧ZP ks ms=ZP ks' ms') _ ?_ ?_ _ _ ⟨rfl,rfl,its,its2,0,ks,ms,by simp,rx,ry,hs,rfl⟩
 ·rintro⟨⟨p,q⟩,i⟩ rest c s' ⟨rfl,rfl,vs,ws,k,ks',ms',hz,rv,rw',hs',he⟩
  cases ks' with
  | nil=>cases rv;cases hz
  | cons k1 kr =>
   cases ms' with
   | nil=>cases hs'
   | cons m1 mr =>
    cases rv with
    | cons r1 rr =>
     cases rw' with
     | cons r1' rr' =>
      rw[Qad,List.zipIdx_cons]at hz
      injection hz with h1 h2
      injection h1 with h3 h4
      injection h3 with h5 h6
      subst h4 h5 h6
      unfold ZV at hs'
      rw[Ql,Ql]at hs'
      injection hs' with s1 s2
      refine wpAny_bind (ZqJ r1 r1' s1 ?_)
      rw[Z8]at he
      by_cases e:k1=m1
      ·rw[if_pos e]at he
       rw[decide_eq_true e]
       exact wpAny_pure ⟨rfl,rfl,_,_,_,kr,mr,h2,rr,rr',s2,he⟩
      ·rw[if_neg e]at he
       rw[decide_eq_false e]
       refine wpAny_bind (ZrM r1 r1' s1 (wpAny_pure ?_))
       refine wpAny_pure ?_
       rw[← he];exact h
 ·rintro c s' ⟨rfl,rfl,vs,ws,k,ks',ms',hz,rv,rw',hs',he⟩
  refine wpAny_pure ?_
  have e:ZP ks' ms'=false:=by
   cases ks' with
   | nil =>
    cases ms' with
    | nil=>rfl
    | cons _ _=>cases hs'
   | cons k1 kr =>
    cases ms' with
    | nil=>cases hs'
    | cons m1 mr =>
     cases rv with
     | cons r1 rr =>
      cases rw' with
      | cons r1' rr'=>rw[Qad,List.zipIdx_cons]at hz;cases hz
  rw[e]at he
  rw[he]at h
  have e2:decide (its.toArray.size<its2.toArray.size)=false:=decide_eq_false (by rw[Qt,Qt];omega)
  rw[e2];exact h
end
section
variable {prog:Program} {w:World} {A:Around} {E:Value→Shared→Prop} {s:Shared}
theorem w_mapM{M:Model}{α β:Type}{f:α→Sem β}(R:α→β→Prop):∀ (l:List α) {Q:List β→Shared→Prop},(∀v∈l,∃r,R v r∧∀ (Q':β→Shared→Prop),Q' r s→wpAny M A (f v) Q' E s)→(∀rs,rs.length=l.length→(∀r∈rs,∃v∈l,R v r)→Q rs s)→wpAny M A (List.mapM f l) Q E s
 | [],Q,_,q=>by rw[List.mapM_nil];exact wpAny_pure (q [] rfl (fun r h=>by cases h))
 | a::l,Q,h,q=>by
  rw[List.mapM_cons]
  obtain⟨r,hr,hw⟩:=h a (by simp)
  refine wpAny_bind (hw _ (wpAny_bind (w_mapM R l (fun v hv=>h v (Qu _ hv)) fun rs hl hrs=>wpAny_pure (q (r::rs) (by simp[hl]) fun z hz=>?_))))
  rcases QK.mp hz with rfl|hz
  ·exact⟨a,by simp,hr⟩
  ·obtain⟨v,hv,hR⟩:=hrs z hz
   exact⟨v,Qu _ hv,hR⟩
theorem w_mapA{M:Model}{α β:Type}{f:α→Sem β}(R:α→β→Prop)(l:Array α){Q:Array β→Shared→Prop}(h:∀v∈l.toList,∃r,R v r∧∀ (Q':β→Shared→Prop),Q' r s→wpAny M A (f v) Q' E s)(q:∀rs:Array β,(∀r∈rs.toList,∃v∈l.toList,R v r)→Q rs s):wpAny M A (Array.mapM f l) Q E s:=by
 rw[Array.mapM_eq_mapM_toList,map_eq_pure_bind]
 exact wpAny_bind (w_mapM R l.toList h fun rs _ hr=>wpAny_pure (q rs.toArray (by simpa using hr)))
theorem Zl0{a:Addr}{its:List Value}(ht:IsTup s.heap a its.toArray){Q:Option Value→Shared→Prop}(q:Q its[0]? s):wpAny (model prog w) A (firstOfTuple' (.ref a)) Q E s:=by
 obtain⟨o,ho,hc,n,hd⟩:=id ht
 show wpAny _ _ (typeOf (.ref a) >>= _) _ _ _
 refine wpAny_bind (wpAny_typeOf ht.typeIs ?_)
 rw[if_neg (by decide)]
 refine wpAny_bind (Zbc ho hd (wpAny_pure ?_))
 simpa using q
theorem ZoH{k:Key}{v:Value}(h:ZG (kV k) v){Q:Value→Shared→Prop}(q:Q (.type (if k.isLeft then "int" else "str")) s):wpAny (model prog w) A (typeOf v) Q E s:=by
 cases k with
 | inl i=>obtain⟨t,rfl⟩:=h;exact wpAny_typeOf (T := "int") rfl q
 | inr x=>obtain⟨t,rfl⟩:=h;exact wpAny_typeOf (T := "str") rfl q
theorem ZnS{vs:List Value}(h:∀v∈vs,∃ (a:Addr) (its:List Value) (k:Key) (v0:Value),v=.ref a∧IsTup s.heap a its.toArray∧its[0]? = some v0∧ZG (kV k) v0){Q:SortKind→Shared→Prop}(q:∀b,Q (tuples' b) s):wpAny (model prog w) A (keyKind' vs.toArray) Q E s:=by
 rw[keyKind'_eq]
 refine wpAny_bind (w_mapA (fun _ r=>∃ (k:Key) (v0:Value),r=some v0∧ZG (kV k) v0) _ (fun v hv=>?_) fun firsts hf=>?_)
 ·obtain⟨a,its,k,v0,rfl,ht,h0,hr⟩:=h v (by simpa using hv)
  exact⟨its[0]?,⟨k,v0,h0,hr⟩,fun Q' q'=>Zl0 ht q'⟩
 ·have hall:(firsts.all fun x=>x.isSome)=true:=by
   rw[Array.all_eq_true]
   intro i hi
   obtain⟨v,_,k,v0,e,_⟩:=hf firsts[i] (by simp)
   rw[e];rfl
  rw[if_pos hall]
  refine wpAny_bind (wpAny_rule (wpAny_bind ?_))
  rw[oneTypeOnly'_eq]
  refine wpAny_bind (w_mapA (fun _ _=>True) _ (fun v hv=>?_) fun ts _=>?_)
  ·have hv':v∈(Array.filterMap id firsts).toList:=hv
   rw[Array.toList_filterMap]at hv'
   obtain⟨o,ho,eo⟩:=List.mem_filterMap.mp hv'
   obtain⟨_,_,k,v0,e,hr⟩:=hf o ho
   have e2:v0=v:=by
    have:o=some v:=eo
    rw[e]at this;exact Qr this
   subst e2
   exact⟨_,trivial,fun Q' q'=>ZoH hr q'⟩
  ·split
   ·exact wpAny_pure (wpAny_pure (q _))
   ·exact wpAny_pure (wpAny_pure (q _))
theorem w_sort0{a:Addr}{vs:List Value}{n:Nat}{P:PySem.Fin→Shared→Prop}(ha:s.heap.get? a=some (seqObj "list" vs.toArray n))(h2:vs.length<2)
  (q:P (Fin.done (Flow.ret Value.none)) { s with heap:=sortedHeap s.heap a vs ((pairsOf vs).map fun x=>x.snd) }) :
  wpAny (model prog w) A (Builtin.«list.sort» { pos:=[.ref a] }) P E s:=by
 have hz:vs.toArray.size≤sizeLine:=by rw[Qt,sizeLine_eq];omega
 rw[list_sort_plain]
 refine wpAny_bind (Zbc ha rfl ?_)
 show wpAny _ _ (updateSeq a (fun x=>#[]) >>= _) _ _ _
 refine wpAny_bind (wpAny_updateSeq ha rfl ?_ hz (by show 0≤_;omega))
 have e1:=get?_update_seq ha (fun _=>#[])
 refine wpAny_bind (seqEpoch_at e1 rfl ?_)
 refine wpAny_bind (wpAny_newTuple ?_ (by simpa using hz))
 refine wpAny_bind (wpAny_newList ?_ (by show 0≤_;omega))
 refine wpAny_holding ?_
 have hn2:vs.toArray.size<2:=by rw[Qt];omega
 have hps:(pairsOf vs).size=vs.length:=by unfold pairsOf;simp
 rw[if_pos hn2,if_pos hn2]
 have e2:(((s.heap.update a (Obj.mapSeq fun _=>#[])).push { cls:=.type "tuple",data:=.seq vs.toArray.toList.toArray }).push { cls:=.type "list",data:=.seq ([]:List Value).toArray }).get? a=some (seqObj "list" #[] _):=Qj _ (Qj _ e1)
 refine wpAny_bind (wpAny_pure ?_)
 show wpAny _ _ (pure ((),SortSt.mk' general' (vs.toArray.zip vs.toArray) #[] 7 none) >>= _) _ _ _
 refine wpAny_bind (wpAny_pure ?_)
 refine wpAny_bind (seqEpoch_at e2 rfl ?_)
 have hsz:((pairsOf vs).map fun x=>x.snd).size=vs.length:=by rw[Array.size_map,hps]
 show wpAny _ _ (updateSeq a (fun x=>(pairsOf vs).map fun x=>x.snd) >>= _) _ _ _
 refine wpAny_bind (wpAny_updateSeq e2 rfl ?_ (by show 0≤_;omega) (by show ((pairsOf vs).map fun x=>x.snd).size≤_;rw[hsz];rw[Qt]at hz;clear hn2 h2 hsz hps;omega))
 show wpAny _ _ (if _ then _ else _) _ _ _
 rw[if_neg (by simp)]
 exact wpAny_pure q
theorem w_sorted0{l:Addr}{vs:List Value}{Q:Value→Shared→Prop}(hl:s.heap.IsList l vs.toArray)(h2:vs.length<2)
  (q:Q (.ref (s.heap.objs.size+1)) { s with heap:=sortedAll s.heap vs ((pairsOf vs).map fun x=>x.snd) }) :
  wpAny (model prog w) A (call (.builtin "sorted") [.ref l]) Q E s:=by
 refine Calls.call_function_entry kind_sorted plain_sorted entry_sorted (args_sorted1 (.ref l)) ?_
 have hz:vs.length≤sizeLine:=by rw[sizeLine_eq];omega
 refine wpAny_bind (wpAny_pure (wpAny_bind (collect_list hl (wpAny_bind (wpAny_newList ?_ hz)) hz)))
 have hsz:((s.heap.push (seqObj "list" #[] 0)).update s.heap.objs.size (Obj.mapSeq fun x=>x++vs.toArray)).objs.size=s.heap.objs.size+1:=by rw[Heap.size_update,size_push']
 have hoL:((((s.heap.push (seqObj "list" #[] 0)).update s.heap.objs.size (Obj.mapSeq fun x=>x++vs.toArray)).push (seqObj "list" vs.toArray 0)).get? (s.heap.objs.size+1))=some (seqObj "list" vs.toArray 0):=by
  rw[← hsz];exact QD _ rfl
 show wpAny _ _ (holding [.ref ((s.heap.push (seqObj "list" #[] 0)).update s.heap.objs.size (Obj.mapSeq fun x=>x++vs.toArray)).objs.size] (call (.builtin "list.sort") [.ref ((s.heap.push (seqObj "list" #[] 0)).update s.heap.objs.size (Obj.mapSeq fun x=>x++vs.toArray)).objs.size]) >>= fun _=>ret (.ref ((s.heap.push (seqObj "list" #[] 0)).update s.heap.objs.size (Obj.mapSeq fun x=>x++vs.toArray)).objs.size)) _ _ _
 rw[hsz]
 refine wpAny_bind (wpAny_holding (wpAny_call_entry slot_list_sort ⟨_,hoL,rfl⟩ entry_list_sort ?_ (args_list_sort _)))
 exact w_sort0 hoL h2 ⟨_,rfl,wpAny_pure ⟨_,rfl,q⟩⟩
end
theorem Zjs{α β:Type}(f:α→β){l m:List β}(h:l.Perm m):∀ts:List α,m=ts.map f→∃ts':List α,ts'.Perm ts∧l=ts'.map f:=by
 induction h with
 | nil =>
  intro ts e
  have:ts=[]:=by cases ts with
   | nil=>rfl
   | cons _ _=>cases e
  subst this
  exact⟨[],.nil,rfl⟩
 | cons x _ ih =>
  intro ts e
  cases ts with
  | nil=>cases e
  | cons a r =>
   rw[Ql]at e
   injection e with e1 e2
   obtain⟨ts',p,e3⟩:=ih r e2
   exact⟨a::ts',p.cons a,by rw[Ql,e1,e3]⟩
 | swap x y l =>
  intro ts e
  cases ts with
  | nil=>cases e
  | cons a r =>
   cases r with
   | nil=>cases e
   | cons b r =>
    rw[Ql,Ql]at e
    injection e with e1 e2
    injection e2 with e2 e3
    exact⟨b::a::r,.swap a b r,by rw[Ql,Ql,e1,e2,e3]⟩
 | trans _ _ ih1 ih2 =>
  intro ts e
  obtain⟨ts2,p2,e2⟩:=ih2 ts e
  obtain⟨ts1,p1,e1⟩:=ih1 ts2 e2
  exact⟨ts1,p1.trans p2,e1⟩
theorem Zjf{α:Type}:∀l:List α,l.zip l=l.map fun v=>(v,v)
 | []=>rfl
 | a::r=>by rw[Qad,Zjf r];rfl
noncomputable abbrev Zcu:=List (Addr×List Key)
noncomputable def Zag(ts:Zcu):List V:=ts.map fun t=>V.ref t.1
noncomputable def AtT(H:Hp)(ts:Zcu):Prop:=∀t∈ts,H t.1=some (.tup (t.2.map kV))
theorem Zec:∀ {ts:Zcu} {us:List Value},Zw (Zag ts) us→us=ts.map fun t=>Value.ref t.1
 | [],_,h=>by cases h;rfl
 | t::r,_,h=>by
  cases h with
  | cons a b=>rw[Zec b];cases a;rfl
theorem ZhC:∀ts:Zcu,Zw (Zag ts) (ts.map fun t=>Value.ref t.1)
 | []=>.nil
 | t::r=>.cons rfl (ZhC r)
noncomputable def Zqk(K:PySem.W.Frag):List V→Hp→VK→Prop:=fun xs H Q=>∃ (p:Addr) (ts:Zcu) (sh:List Bool),xs=[.ref p]∧SqL K H p (Zag ts)∧AtT H ts∧sh≠[]∧(∀t∈ts,ZV t.2=sh)∧ts.length<64 ∧
 ∀ (l:Addr) (ts':Zcu),H l=none→ts'.Perm ts→ts'.Pairwise (fun a b=>ZP b.2 a.2=false)→Q (.ref l) (upd H l (.lst (Zag ts')))
theorem ZiC{X:Cx}:Zae X (.builtin "sorted") (Zqk X.K):=by
 intro pins s σ H xs us Q I r h
 obtain⟨p,ts,sh,rfl,hq,hat,hsh,hts,h64,q⟩:=h
 obtain⟨u,rfl,rx⟩:=ZbJ r
 cases rx
 obtain⟨its,rv,pl,hz⟩:=I.list hq
 have ei:=Zec rv
 subst ei
 have tupAt:∀t∈ts,∃its:List Value,Zw (t.2.map kV) its∧IsTup s.heap t.1 its.toArray:=fun t ht=>by
  obtain⟨i,v,q,_⟩:=I.tuple (SqT.of (K:=X.K) (hat t ht))
  exact⟨i,v,q⟩
 have eptl:(pairsOf (ts.map fun t=>Value.ref t.1)).toList=ts.map fun t=>(Value.ref t.1,Value.ref t.1):=by
  unfold pairsOf
  rw[Array.toList_zip,Zjf,QB]
  rfl
 have fin:∀ (out:Array Value) (ts':Zcu),ts'.Perm ts→ts'.Pairwise (fun a b=>ZP b.2 a.2=false)→out.toList=ts'.map (fun t=>Value.ref t.1)→EP X pins σ Q (.ref (s.heap.objs.size+1)) { s with heap:=sortedAll s.heap (ts.map fun t=>Value.ref t.1) out }:=fun out ts' pm pw eo=>by
  obtain⟨e,he⟩:=sortedAll_at s.heap (ts.map fun t=>Value.ref t.1) out
  refine⟨.ref (s.heap.objs.size+1),_,I.laid (t':=s.toks) (o:=.lst (Zag ts')) (fun _ _=>sortedAll_old) (Q4 _) ⟨?_,out.toList,e,by rw[eo];exact ZhC ts',by simpa using he⟩,rfl,q _ ts' (I.hok.fresh (Q4 _)) pm pw⟩
  unfold Zag
  rw[Qa,pm.length_eq,sizeLine_eq];omega
 by_cases h2:ts.length<2
 ·refine w_sorted0 pl.isList (by rw[Qa];exact h2) (fin _ ts (.refl _) ?_ ?_)
  ·cases ts with
   | nil=>exact .nil
   | cons t r =>
    have:r=[]:=QN (by rw[QE]at h2;omega)
    subst this
    exact Qah _ _
  ·rw[Array.toList_map,eptl,QB];rfl
 ·have hk:PyProof.Rows.KeysOf (Zin H sh) (pairsOf (ts.map fun t=>Value.ref t.1)):=fun z hz'=>by
   rw[eptl]at hz'
   obtain⟨t,ht,rfl⟩:=Qw.mp hz'
   exact⟨t.2,by rw[← hts t ht];exact ZiW (hat t ht)⟩
  refine w_sorted (κ:=Zin H sh) pl.isList hk (by rw[Qa];omega) (by rw[Qa];exact h64) (fun A' s' kp E' Q' q'=>?_) fun st' p1 p3=>?_
  ·have tup':∀ {a:Addr} {its:List Value},IsTup s.heap a its.toArray→IsTup s'.heap a its.toArray:=fun ⟨o,ho,hc⟩=>⟨o,kp _ _ ho,hc⟩
   refine ZnS (fun v hv=>?_) fun b=>q' _ fun E2 x y a c Q2 hx hy h2=>?_
   ·obtain⟨t,ht,rfl⟩:=Qw.mp hv
    obtain⟨i,v,qt⟩:=tupAt t ht
    have hs1:=hts t ht
    cases hk2:t.2 with
    | nil=>rw[hk2]at hs1;exact absurd hs1.symm hsh
    | cons k kr =>
     rw[hk2]at v
     cases v with
     | cons r1 rr=>exact⟨t.1,_,k,_,rfl,tup' qt,rfl,r1⟩
   ·obtain⟨a1,rfl,ha1,s1⟩:=Zjn hx
    obtain⟨a2,rfl,ha2,s2⟩:=Zjn hy
    obtain⟨i1,v1,t1,_⟩:=I.tuple (SqT.of (K:=X.K) ha1)
    obtain⟨i2,v2,t2,_⟩:=I.tuple (SqT.of (K:=X.K) ha2)
    exact ZrC (tup' t1) (tup' t2) v1 v2 (s1.trans s2.symm) h2
  ·have p1':=p1.toList
   obtain⟨ts',pm,e⟩:=Zjs (fun t:Addr×List Key=>(Value.ref t.1,Value.ref t.1)) p1' ts eptl
   refine fin _ ts' pm ?_ ?_
   ·rw[List.pairwise_iff_getElem]
    intro i j hi hj hij
    have hsz:(pairsOf (ts.map fun t=>Value.ref t.1)).size=ts'.length:=by rw[← QaJ,eptl,Qa,pm.length_eq]
    have:=p3 i j (by omega) (by rw[hsz];exact hj)
    have key:∀k (hk':k<ts'.length),KK (Zin H sh) (arrOf st') k=ts'[k].2:=fun k hk'=>by
     unfold KK
     have e1:(arrOf st')[k]? = some (Value.ref ts'[k].1,Value.ref ts'[k].1):=by
      rw[← Array.getElem?_toList,e,Qi,Qb hk'];rfl
     rw[e1]
     have hm:ts'[k]∈ts:=pm.mem_iff.mp (QT hk')
     show ((ZhQ H sh (.ref ts'[k].1)).getD _)=_
     rw[← hts _ hm,ZiW (hat _ hm)];rfl
    rw[key i hi,key j hj]at this
    exact this
   ·rw[Array.toList_map,e,QB];rfl
theorem Zta{X:Cx}(K:PySem.W.Frag)(h:X.K=K:=by rfl):Zae X (.builtin "sorted") (Zqk K):=by subst h;exact ZiC
theorem Zjh(A:Around)(s:Shared){k m:Key}{p q:Value}(hp:ZG (kV k) p)(hq:ZG (kV m) q)(hs:k.isLeft=m.isLeft):∃e,SeqAt.EqAt A s p q e∧(e=true↔k=m):=by
 cases k with
 | inl i =>
  cases m with
  | inl j =>
   obtain⟨t,rfl⟩:=hp
   obtain⟨u,rfl⟩:=hq
   exact⟨_,SeqAt.EqAt.int_int i t j u,by simp⟩
  | inr y=>cases hs
 | inr x =>
  cases m with
  | inl j=>cases hs
  | inr y =>
   obtain⟨t,rfl⟩:=hp
   obtain⟨u,rfl⟩:=hq
   exact⟨_,SeqAt.EqAt.str_str x t y u,by simp⟩
theorem Zoc(A:Around)(s:Shared){k m:Key}{p q:Value}(hp:ZG (kV k) p)(hq:ZG (kV m) q)(hs:k.isLeft=m.isLeft)(prog:Program)(w:World)(E:Value→Shared→Prop)(Q:Value→Shared→Prop)(h:Q (.bool (kLt k m)) s) :
  wpAny (model prog w) A (richCompare .Lt p q) Q E s:=by
 cases k with
 | inl i =>
  cases m with
  | inl j =>
   obtain⟨t,rfl⟩:=hp
   obtain⟨u,rfl⟩:=hq
   exact(PyProof.Rows.lt_int h:wpAny (model prog w) A (compareOp .Lt (.int i t) (.int j u)) Q E s)
  | inr y=>cases hs
 | inr x =>
  cases m with
  | inl j=>cases hs
  | inr y =>
   obtain⟨t,rfl⟩:=hp
   obtain⟨u,rfl⟩:=hq
   exact(PyProof.Rows.lt_str h:wpAny (model prog w) A (compareOp .Lt (.str x t) (.str y u)) Q E s)
section
open PySem.SeqAt
open PySem.AutoSeq1 (wpAny_loadPart')
open PySem.MeetsSeq PySem.MeetsSeq2 PySem.MeetsSeq3
theorem Zg8(l b:Addr)(items items2:Array Value)(n n2:Nat)(dd dd2:Option Addr)(sl sl2:Array (Option Value))(ks ms:List Key)(hi:Zw (ks.map kV) items.toList)(hj:Zw (ms.map kV) items2.toList)(hs:ZV ks=ZV ms) :
  Meets (Builtin.«tuple.__lt__» ⟨[.ref l,.ref b],[]⟩)
   (fun _ R s=>s.heap.get? l=some { cls:=.type "tuple",dict:=dd,data:=.seq items n,slots:=sl }∧s.heap.get? b=some { cls:=.type "tuple",dict:=dd2,data:=.seq items2 n2,slots:=sl2 } ∧
    R (.ok (.ret (.bool (ZP ks ms)))) s) :=
 .of_wp fun prog w A R s h=>by
  obtain⟨hp,g,d,tk,os⟩:=s;obtain⟨hl,hb,h⟩:=h
  have f2:=AutoSeq1.sub_tuple_tuple
  have z1:items.size=ks.length:=by have:=hi.length;simpa using this.symm
  have z2:items2.size=ms.length:=by have:=hj.length;simpa using this.symm
  have z3:ks.length=ms.length:=by have:=congrArg List.length hs;simpa [ZV] using this
  wp_walk using wpAny_loadPart' hl,wpAny_loadPart' hb,wpAny_forIn_list _ (fun rest b s'=>b.1=none∧s'=⟨hp,g,d,tk,os⟩∧∃ (vs ws:List Value) (ks' ms':List Key),rest=vs.zip ws ∧
   Zw (ks'.map kV) vs∧Zw (ms'.map kV) ws∧ZV ks'=ZV ms'∧R (.ok (.ret (.bool (ZP ks' ms')))) ⟨hp,g,d,tk,os⟩) _
  case turn =>
   rintro⟨y,x⟩ rest b s' ⟨hb',rfl,vs,ws,ks',ms',hz,hvi,hwi,hsh,hR⟩
   cases ks' with
   | nil=>cases hvi;rw[List.zip_nil_left]at hz;cases hz
   | cons k1 kr =>
    cases ms' with
    | nil=>cases hsh
    | cons m1 mr =>
     cases hvi with
     | cons r1 rr =>
      cases hwi with
      | cons r1' rr' =>
       rw[Qad]at hz
       injection hz with hyx hrest
       injection hyx with hy hx
       subst hy hx
       rw[Z8]at hR
       unfold ZV at hsh
       rw[Ql,Ql]at hsh
       injection hsh with s1 s2
       obtain⟨e,he,hiff⟩:=Zjh A.in1 ⟨hp,g,d,tk,os⟩ r1 r1' s1
       refine wpAny_bind (he prog w _ _ ?_)
       cases e with
       | true =>
        rw[if_pos (hiff.mp rfl)]at hR
        wp_walk
        exact⟨rfl,rfl,_,_,_,_,hrest,rr,rr',s2,hR⟩
       | false =>
        rw[if_neg (fun q=>absurd (hiff.mpr q) QC)]at hR
        have hri:=Zoc A.in1 ⟨hp,g,d,tk,os⟩ r1 r1' s1 prog w
        wp_walk using hri
        exact⟨_,rfl,by simpa using hR⟩
  case fin =>
   rintro⟨b1,b2⟩ s' ⟨hb',rfl,vs,ws,ks',ms',hz,hvi,hwi,hsh,hR⟩
   simp only at hb'
   subst hb'
   have hv:ZP ks' ms'=decide (items.size<items2.size):=by
    rw[decide_eq_false (by omega)]
    cases ks' with
    | nil =>
     cases ms' with
     | nil=>rfl
     | cons _ _=>cases hsh
    | cons k1 kr =>
     cases ms' with
     | nil=>cases hsh
     | cons m1 mr =>
      cases hvi with
      | cons r1 rr =>
       cases hwi with
       | cons r1' rr'=>rw[Qad]at hz;cases hz
   rw[hv]at hR
   wp_walk
   exact⟨_,rfl,by simpa [Builtin.Tuple.tupleCompareSizes] using hR⟩
  case h =>
   exact⟨rfl,rfl,items.toList,items2.toList,ks,ms,rfl,hi,hj,hs,h⟩
end
section
variable {prog:Program} {w:World} {A:Around} {E:Value→Shared→Prop} {s:Shared}
theorem Zkr{l b:Addr}{items items2:Array Value}{ks ms:List Key}{Q:Value→Shared→Prop}(hl:IsTup s.heap l items)(hb:IsTup s.heap b items2)(hi:Zw (ks.map kV) items.toList)(hj:Zw (ms.map kV) items2.toList)(hs:ZV ks=ZV ms)
  (hu:A.units<cLine) (h:Q (.bool (ZP ks ms)) s):wpAny (model prog w) A (richCompare .Lt (.ref l) (.ref b)) Q E s:=by
 obtain⟨⟨cls,dd,data,sl⟩,ho,hc,n,hd⟩:=id hl
 obtain⟨⟨cls2,dd2,data2,sl2⟩,ho2,hc2,n2,hd2⟩:=id hb
 simp only at hc hd hc2 hd2
 subst hc hd hc2 hd2
 exact richCompare_meets_room (op:=.Lt) ⟨_,ho,rfl⟩ ⟨_,ho2,rfl⟩ PySem.F.slot_tuple_lt PySem.F.entry_tuple_lt (PySem.F.args_tuple_lt_2 _ _) (Zg8 l b items items2 n n2 dd dd2 sl sl2 ks ms hi hj hs)
  ⟨ho,ho2,show Value.bool (ZP ks ms)≠Value.notImplemented∧Q (.bool (ZP ks ms)) s from⟨(fun x=>nomatch x),h⟩⟩ hu
end
section
variable {prog:Program} {w:World}
theorem ZlG{A:Around}{a:Args}:(A.under (.builtin "min.loop" a)).units≤A.units+1:=by
 show A.units+(Code.builtin "min.loop" a).cUnits≤A.units+1
 first|exact Qg _|simp[Code.cUnits,Code.frames,Code.isFrame]
theorem Zgh{A:Around}{R:Result→Shared→Prop}{l I S:Addr}{ts:Zcu}{sh:List Bool}{h0:Heap}{kw:List (Str×Value)}(hh:A.handled=none)(hu:A.units+4<cLine)(hlist:h0.IsList l (ts.map fun t=>Value.ref t.1).toArray)
  (hI:h0.get? I=none) (hS:h0.get? S=none) (hSI:S≠I) (htup:∀t∈ts,∃its:List Value,Zw (t.2.map kV) its∧IsTup h0 t.1 its.toArray) (hsh:∀t∈ts,ZV t.2=sh) (s0:Shared)
  (q:∀ (h':Heap) (t:Addr×List Key),(∀b o,h0.get? b=some o→h'.get? b=some o)→t∈ts→(∀u∈ts,ZP u.2 t.2=false)→R (.ok (.ret (.ref t.1))) { s0 with heap:=h' }) :
  ∀ (k j:Nat) (h:Heap) (t:Addr×List Key) (c:Nat),ts.length-j=k→j≤ts.length→(∀b o,h0.get? b=some o→h.get? b=some o)→h.IsListIter I l j→h.get? S=some { cls:=.type "list",data:=.seq #[.ref t.1,.ref t.1] c }→t∈ts →
   (∀u∈ts.take j,ZP u.2 t.2=false)→codeAny (model prog w) A (.builtin "min.loop" { pos:=[.ref I,.none,.ref S],kw:=kw }) R { s0 with heap:=h }
 | k,j,h,t,c,hk,hj,keep,hit,hst,htm,hbest=>by
  refine codeAny_builtin F.entry_min_loop ?_
  show wpAny _ _ (seqItems? (.ref S) >>= _) _ _ _
  refine wpAny_bind (wpAny_seqItems hst rfl ?_)
  have keepL:h.IsList l (ts.map fun t=>Value.ref t.1).toArray:=by
   obtain⟨o,ho,r⟩:=hlist
   exact⟨o,keep _ _ ho,r⟩
  by_cases hlt:j<ts.length
  ·have hx:((ts.map fun t=>Value.ref t.1).toArray)[j]? = some (Value.ref ts[j].1):=by simp[hlt]
   refine wpAny_bind (wpAny_tryCatch (wpAny_pyNext_list_item hit keepL hx fun h1 hit1 sb=>?_))
   have keep1:∀b o,h0.get? b=some o→h1.get? b=some o:=fun b o hb=>by
    have nb:b≠I:=fun e=>by rw[e,hI]at hb;cases hb
    rw[sb.2 b nb];exact keep b o hb
   have hst1:h1.get? S=some { cls:=.type "list",data:=.seq #[.ref t.1,.ref t.1] c }:=by rw[sb.2 S hSI];exact hst
   refine wpAny_bind (wpAny_pure ?_)
   have hjm:ts[j]∈ts:=QT hlt
   obtain⟨i1,v1,t1⟩:=htup _ hjm
   obtain⟨i2,v2,t2⟩:=htup _ htm
   have tup1:∀ {a:Addr} {its:List Value},IsTup h0 a its.toArray→IsTup h1 a its.toArray:=fun ⟨o,ho,hc⟩=>⟨o,keep1 _ _ ho,hc⟩
   have hsh1:ZV ts[j].2=ZV t.2:=(hsh _ hjm).trans (hsh _ htm).symm
   refine wpAny_bind (wpAny_tryCatch (wpAny_holding (wpAny_bind (Zkr (tup1 t1) (tup1 t2) (by simpa using v1) (by simpa using v2) hsh1 (Qaf ZlG (by omega)) (wpAny_bind (wpAny_holding (wpAny_truthy_bool (wpAny_bind (wpAny_letGo (wpAny_pure ?_))))))))))
   cases hb:ZP ts[j].2 t.2 with
   | true =>
    refine wpAny_bind (wpAny_updateSeq hst1 rfl ?_ (by show 2≤_;rw[sizeLine_eq];decide) (by show 2≤_;rw[sizeLine_eq];decide))
    refine wpAny_bind (wpAny_letGo (wpAny_pure ⟨rfl,?_⟩))
    refine Zgh hh hu hlist hI hS hSI htup hsh s0 q (k-1) (j+1) _ ts[j] c (by omega) (by omega) (fun b o hb'=>?_) ?_ ?_ hjm (fun u hu'=>?_)
    ·have nb:S≠b:=fun e=>by rw[← e,hS]at hb';cases hb'
     exact Q8 _ nb (keep1 b o hb')
    ·obtain⟨o,ho,r⟩:=hit1
     exact⟨o,Q8 _ hSI ho,r⟩
    ·have:=get?_update_seq (c := "list") hst1 (fun _=>#[.ref ts[j].1,.ref ts[j].1])
     simpa using this
    ·rw[QI,Qb hlt]at hu'
     rcases Qh.mp hu' with hu'|hu'
     ·have:=hbest u hu'
      cases hz:ZP u.2 ts[j].2 with
      | false=>rfl
      | true=>rw[ZbQ _ _ _ hz hb]at this;cases this
     ·have:u=ts[j]:=by simpa using hu'
      rw[this];exact Za5 _
   | false =>
    refine wpAny_bind (wpAny_letGo (wpAny_pure ⟨rfl,?_⟩))
    refine Zgh hh hu hlist hI hS hSI htup hsh s0 q (k-1) (j+1) h1 t c (by omega) (by omega) keep1 hit1 hst1 htm (fun u hu'=>?_)
    rw[QI,Qb hlt]at hu'
    rcases Qh.mp hu' with hu'|hu'
    ·exact hbest u hu'
    ·have:u=ts[j]:=by simpa using hu'
     rw[this];exact hb
  ·have hx:((ts.map fun t=>Value.ref t.1).toArray)[j]? = none:=by simp;omega
   refine wpAny_bind (wpAny_tryCatch (wpAny_pyNext_list_end hh hit keepL hx fun h1 eb=>?_))
   have hst1:h1.get? S=some { cls:=.type "list",data:=.seq #[.ref t.1,.ref t.1] c }:=eb S _ hSI hst
   refine wpAny_bind (wpAny_updateSeq hst1 rfl ?_ (by show 2≤_;rw[sizeLine_eq];decide) (by show 0≤_;omega))
   refine wpAny_bind (wpAny_letGo (wpAny_pure ?_))
   refine q _ t (fun b o hb=>?_) htm (fun u hu'=>hbest u (by rw[Qy (by omega)];exact hu'))
   have nb:S≠b:=fun e=>by rw[← e,hS]at hb;cases hb
   have nI:b≠I:=fun e=>by rw[e,hI]at hb;cases hb
   exact Q8 _ nb (eb b o nI (keep b o hb))
termination_by k=>k
theorem ZlZ{A:Around}{R:Result→Shared→Prop}{l I S:Addr}{ts:Zcu}{sh:List Bool}{h0 h:Heap}{c:Nat}{kw:List (Str×Value)}(hh:A.handled=none)(hu:A.units+4<cLine)(hlist:h0.IsList l (ts.map fun t=>Value.ref t.1).toArray)
  (hI:h0.get? I=none) (hS:h0.get? S=none) (hSI:S≠I) (htup:∀t∈ts,∃its:List Value,Zw (t.2.map kV) its∧IsTup h0 t.1 its.toArray) (hsh:∀t∈ts,ZV t.2=sh) (s0:Shared) (keep:∀b o,h0.get? b=some o→h.get? b=some o) (hit:h.IsListIter I l 0) (hst:h.get? S=some { cls:=.type "list",data:=.seq #[] c })
  (hne:ts≠[]∨∃n d kr,kw=(n,d)::kr∧∀h':Heap,(∀b o,h0.get? b=some o→h'.get? b=some o)→R (.ok (.ret d)) { s0 with heap:=h' })
  (q:∀ (h':Heap) (t:Addr×List Key),(∀b o,h0.get? b=some o→h'.get? b=some o)→t∈ts→(∀u∈ts,ZP u.2 t.2=false)→R (.ok (.ret (.ref t.1))) { s0 with heap:=h' }) :
  codeAny (model prog w) A (.builtin "min.loop" { pos:=[.ref I,.none,.ref S],kw:=kw }) R { s0 with heap:=h }:=by
 refine codeAny_builtin F.entry_min_loop ?_
 show wpAny _ _ (seqItems? (.ref S) >>= _) _ _ _
 refine wpAny_bind (wpAny_seqItems hst rfl ?_)
 have keepL:h.IsList l (ts.map fun t=>Value.ref t.1).toArray:=by
  obtain⟨o,ho,r⟩:=hlist
  exact⟨o,keep _ _ ho,r⟩
 cases ts with
 | nil =>
  obtain⟨n,d,kr,rfl,q0⟩:=hne.resolve_left (by simp)
  refine wpAny_bind (wpAny_tryCatch (wpAny_pyNext_list_end hh hit keepL (by simp) fun h1 eb=>?_))
  show wpAny _ _ (rule _ >>= _) _ _ _
  refine wpAny_bind (wpAny_rule (wpAny_pure ?_))
  refine q0 _ fun b o hb=>?_
  have nI:b≠I:=fun e=>by rw[e,hI]at hb;cases hb
  exact eb b o nI (keep b o hb)
 | cons t r =>
  refine wpAny_bind (wpAny_tryCatch (wpAny_pyNext_list_item hit keepL (x:=.ref t.1) (by simp) fun h1 hit1 sb=>?_))
  have keep1:∀b o,h0.get? b=some o→h1.get? b=some o:=fun b o hb=>by
   have nb:b≠I:=fun e=>by rw[e,hI]at hb;cases hb
   rw[sb.2 b nb];exact keep b o hb
  have hst1:h1.get? S=some { cls:=.type "list",data:=.seq #[] c }:=by rw[sb.2 S hSI];exact hst
  refine wpAny_bind (wpAny_pure ?_)
  show wpAny _ _ (updateSeq S _ >>= _) _ _ _
  refine wpAny_bind (wpAny_updateSeq hst1 rfl ?_ (by show 0≤_;omega) (by show 2≤_;rw[sizeLine_eq];decide))
  refine wpAny_pure ⟨rfl,?_⟩
  refine Zgh hh hu hlist hI hS hSI htup hsh s0 q _ 1 _ t (c+1) rfl (by simp) (fun b o hb'=>?_) ?_ ?_ (by simp) (fun u hu'=>?_)
  ·have nb:S≠b:=fun e=>by rw[← e,hS]at hb';cases hb'
   exact Q8 _ nb (keep1 b o hb')
  ·obtain⟨o,ho,r⟩:=hit1
   exact⟨o,Q8 _ hSI ho,r⟩
  ·have:=get?_update_seq (c := "list") hst1 (fun _=>#[.ref t.1,.ref t.1])
   simpa using this
  ·have:u=t:=by simpa using hu'
   rw[this];exact Za5 _
end
section
variable {X:Cx}
noncomputable def Zqo(K:PySem.W.Frag):List V→Hp→VK→Prop:=fun vs H Q=>∃ (p:Addr) (ts:Zcu) (sh:List Bool),vs=[.ref p]∧SqL K H p (Zag ts)∧AtT H ts∧ts≠[]∧(∀t∈ts,ZV t.2=sh) ∧
 ∀t:Addr×List Key,t∈ts→(∀u∈ts,ZP u.2 t.2=false)→Q (.ref t.1) H
theorem Zna{prog:Program}{w:World}{A:Around}{R:Result→Shared→Prop}{s:Shared}{l:Addr}{ts:Zcu}{sh:List Bool}{kw:List (Str×Value)}{kw2:List (Str×Value)}(hh:A.handled=none)(hu:A.units+4<cLine)(hlist:s.heap.IsList l (ts.map fun t=>Value.ref t.1).toArray)
  (hkw:(kw=[]∧kw2=[])∨∃d,kw=[(Str.ofString "default",d)]∧kw2=[(Str.ofString "default",d)])
  (htup:∀t∈ts,∃its:List Value,Zw (t.2.map kV) its∧IsTup s.heap t.1 its.toArray) (hsh:∀t∈ts,ZV t.2=sh)
  (hne:ts≠[]∨∃n d kr,kw2=(n,d)::kr∧∀h':Heap,(∀b o,s.heap.get? b=some o→h'.get? b=some o)→R (.ok (.ret d)) { s with heap:=h' })
  (q:∀ (h':Heap) (t:Addr×List Key),(∀b o,s.heap.get? b=some o→h'.get? b=some o)→t∈ts→(∀u∈ts,ZP u.2 t.2=false)→R (.ok (.ret (.ref t.1))) { s with heap:=h' }) :
  codeAny (model prog w) A (.call (.builtin "min") { pos:=[.ref l],kw:=kw }) R s:=by
 refine codeAny_call_builtin_at rfl F.entry_min ?_
 have hc:checkBuiltinCall "min" { pos:=[.ref l],kw:=kw }=pure ():=by
  rcases hkw with⟨rfl,_⟩|⟨d,rfl,_⟩<;>rfl
 rw[hc]
 refine wpAny_pure ?_
 have go:∀ {A':Around},A'.handled=none→wpAny (model prog w) A' (pyIter (.ref l) >>= fun it=>newList [] >>= fun b=>again (.builtin "min.loop" { pos:=[it,.none,b],kw:=kw2 })) (fun fin s'=>match fin with
   | Fin.done f=>R (Except.ok f) s'
   | Fin.again c'=>c'.quiet=true∧codeAny (model prog w) A c' R s') (fun e s'=>R (Except.error e) s') s:=fun {A'} hA'=>by
  refine wpAny_bind (wpAny_pyIter_list hlist ?_)
  refine wpAny_bind (wpAny_newList ?_ (by show 0≤_;omega))
  refine wpAny_pure ⟨rfl,?_⟩
  have none_at:∀b,s.heap.objs.size≤b→s.heap.get? b=none:=fun b hb=>by
   cases e:s.heap.get? b with
   | none=>rfl
   | some o=>exact absurd (Qz e) (Nat.not_lt.mpr hb)
  have hsz:(s.heap.push { cls:=Value.type "list_iterator",data:=Data.fields #[Value.ref l,Value.int 0 0] }).objs.size=s.heap.objs.size+1:=size_push' _ _
  refine ZlZ (h0:=s.heap) (c:=0) hh hu hlist (none_at _ (Qg _)) (none_at _ (by rw[hsz];exact Q4 _)) (by rw[hsz];exact Nat.succ_ne_self _) htup hsh s (fun b o h=>Qj _ (Qj _ h)) ⟨_,Qj _ (QD _ rfl),rfl,rfl⟩ (QD _ rfl) hne q
 rcases hkw with⟨rfl,rfl⟩|⟨d,rfl,rfl⟩
 ·exact go hh
 ·exact go hh
theorem ZlR(hc:X.calm=true)(hu:X.A.units+64<cLine):Zae X (.builtin "min") (Zqo X.K):=by
 intro pins s σ H vs us Q I r h
 obtain⟨p,ts,sh,rfl,hq,hat,hne,hsh,q⟩:=h
 obtain⟨u,rfl,rx⟩:=ZbJ r
 cases rx
 obtain⟨its,rv,pl,hz⟩:=I.list hq
 have ei:=Zec rv
 subst ei
 refine wpAny_call (Zna (sh:=sh) (I.ok.hd hc) (by omega) pl.isList (.inl ⟨rfl,rfl⟩) (fun t ht=>?_) hsh (.inl hne) fun h' t kp ht hmin=>?_)
 ·obtain⟨i,v,q,_⟩:=I.tuple (SqT.of (K:=X.K) (hat t ht))
  exact⟨i,v,q⟩
 ·exact⟨.ref t.1,H,I.kept (t':=s.toks) kp,rfl,q t ht hmin⟩
theorem Zsu(K:PySem.W.Frag){k:Nat}(hr:ZaN k X.A)(hc:X.calm=true:=by rfl)(h:X.K=K:=by rfl):Zae X (.builtin "min") (Zqo K):=by subst h;exact ZlR hc hr.units
end
theorem ZcZ{α β:Type}(f:α→β):∀ (l:List α) (i:Nat),(l.eraseIdx i).map f=(l.map f).eraseIdx i
 | [],_=>rfl
 | a::r,0=>rfl
 | a::r,i+1=>by simp[ZcZ f r i]
theorem ZlN{A:Around}{a:Args}:(A.under (.builtin "list.remove.loop" a)).units≤A.units+1:=by
 show A.units+(Code.builtin "list.remove.loop" a).cUnits≤A.units+1
 rw[plainId_units MeetsSeq.plain_remove_loop]
 exact Qg _
noncomputable def EqS(s:Shared)(items:List Value)(v:Value)(e:Nat→Bool):Prop:=∀ (prog:Program) (w:World) (A:Around) (E:Value→Shared→Prop) (Q:Bool→Shared→Prop) (m:Nat) (x:Value),A.units+2<cLine→items[m]? = some x→Q (e m) s→wpAny (model prog w) A (eqBool x v) Q E s
theorem ZiU{prog:Program}{w:World}{A:Around}{R:Result→Shared→Prop}{s:Shared}{l:Addr}{items:List Value}{n:Nat}{v:Value}{e:Nat→Bool}{j:Nat}(hl:s.heap.get? l=some { cls:=.type "list",data:=.seq items.toArray n })(hq:EqS s items v e)(hu:A.units+8<cLine)(hz:items.length≤1000)
  (hj:j<items.length) (h1:e j=true) (h0:∀m,m<j→e m=false) (q:R (.ok (.ret .none)) { s with heap:=s.heap.update l (Obj.mapSeq fun xs=>xs.eraseIdxIfInBounds j) }) :
  ∀ (k i:Nat),j-i=k→i≤j→codeAny (model prog w) A (.builtin "list.remove.loop" { pos:=[.ref l,v,rawInt (i:Int)] }) R s
 | k,i,hk,hi=>by
  refine codeAny_builtin MeetsSeq.entry_remove_loop ?_
  have hx:items.toArray[((i:Nat):Int).toNat]? = some items[i]:=by rw[Q5];simp
  show wpAny _ _ (Builtin.List.listItems (.ref l) >>= _) _ _ _
  refine wpAny_bind (Zbc hl rfl ?_)
  show wpAny _ _ (match items.toArray[((i:Nat):Int).toNat]? with|none=>_|some x=>_) _ _ _
  rw[hx]
  refine wpAny_bind (hq prog w _ _ _ i _ (Qaf (Nat.add_le_add_right ZlN 2) (by omega)) (by simp) ?_)
  by_cases e0:i=j
  ·subst e0
   rw[h1]
   show wpAny _ _ (updateSeq l _ >>= _) _ _ _
   refine wpAny_bind (wpAny_updateSeq hl rfl ?_ (by rw[Qt,sizeLine_eq];omega) ?_)
   ·rw[Q5]
    exact wpAny_pure q
   ·show (items.toArray.eraseIdxIfInBounds ((i:Nat):Int).toNat).size≤_
    rw[Qat,Qt,sizeLine_eq]
    have:=List.length_eraseIdx_le items ((i:Nat):Int).toNat
    omega
  ·rw[h0 i (by omega)]
   refine wpAny_pure ⟨plainId_quiet MeetsSeq.plain_remove_loop _,?_⟩
   have:=ZiU (prog:=prog) (w:=w) hl hq hu hz hj h1 h0 q (k-1) (i+1) (by clear h0 hz hu e0;omega) (by omega)
   rw[show ((i+1:Nat):Int)=(i:Int)+1 by omega]at this
   exact this
termination_by k=>k
theorem Zmp(l:Addr)(items:List Value)(n:Nat)(v:Value)(e:Nat→Bool)(j:Nat):Meets (Builtin.«list.remove» { pos:=[.ref l,v] }) (fun A R s=>s.heap.get? l=some { cls:=.type "list",data:=.seq items.toArray n }∧EqS s items v e∧A.units+8<cLine∧items.length≤1000∧j<items.length∧e j=true∧(∀m,m<j→e m=false) ∧
  R (.ok (.ret .none)) { s with heap:=s.heap.update l (Obj.mapSeq fun xs=>xs.eraseIdxIfInBounds j) }):=by
 intro prog w A R s ⟨hl,hq,hu,hz,hj,h1,h0,q⟩
 show wpAny _ _ (pure (Fin.again (.builtin "list.remove.loop" { pos:=[.ref l,v,rawInt 0] }))) _ _ _
 exact wpAny_pure ⟨plainId_quiet MeetsSeq.plain_remove_loop _,ZiU hl hq hu hz hj h1 h0 q j 0 rfl (Qv _)⟩
section
variable {X:Cx}
noncomputable def Zqi:V→List V→Hp→VK→Prop:=fun x vs H Q=>∃ (l:Addr) (ts:Zcu) (t:Addr×List Key),x=.ref l∧vs=[.ref t.1]∧H l=some (.lst (Zag ts))∧AtT H ts∧t∈ts∧ts.length≤1000∧∀ (i:Nat) (hi:i<ts.length),ts[i].2=t.2→Q .non (upd H l (.lst (Zag (ts.eraseIdx i))))
theorem Zqc(hu:X.A.units+64<cLine):MtM X "list.remove" Zqi:=by
 intro pins s σ H x vs v us Q I rx rv h
 obtain⟨l,ts,t,rfl,rfl,hH,hat,ht,hz,q⟩:=h
 cases rx
 obtain⟨u,rfl,ru⟩:=rv.one
 cases ru
 obtain⟨z,its,n',r,hl,e⟩:=I.lstM hH
 have ei:=Zec r
 subst ei
 have hj:ts.findIdx (fun u=>decide (u.2=t.2))<ts.length:=List.findIdx_lt_length.mpr ⟨t,ht,decide_eq_true rfl⟩
 have key:∀u∈ts,(tupleKind (ZO X.prog X.w)).is s.heap u.2 u.1:=fun u hu'=>I.tkey (hat u hu')
 have tup:∀u∈ts,∃i:List Value,Zw (u.2.map kV) i∧IsTup s.heap u.1 i.toArray:=fun u hu'=>by
  obtain⟨i,v,q,_⟩:=I.tuple (SqT.of (K:=X.K) (hat u hu'))
  exact⟨i,v,q⟩
 refine call_meets F.slot_list_remove ⟨_,e,rfl⟩ F.entry_list_remove (F.args_list_remove_2 _ _) (Zmp l _ n' _ (fun m=>match ts[m]? with|some u=>decide (u.2=t.2)|none=>false) (ts.findIdx (fun u=>decide (u.2=t.2)))) ⟨e,?_,by omega,by rw[Qa];omega,by rw[Qa];exact hj,?_,?_,?_⟩
 ·intro prog w A E Q' m x hA hx hQ
  rw[Qi]at hx
  cases hm:ts[m]? with
  | none=>rw[hm]at hx;cases hx
  | some u =>
   rw[hm]at hx
   cases hx
   simp only[hm]at hQ
   obtain⟨i1,v1,o1,g1,c1,n1,d1⟩:=tup u (Qo hm)
   obtain⟨i2,v2,o2,g2,c2,n2,d2⟩:=tup t ht
   refine wpAny_eqBool_tuple (knd:=ZO prog w) (x:=u.2) (y:=t.2) (by omega) ⟨o1,_,n1,g1,c1,d1,?_⟩ ⟨o2,_,n2,g2,c2,d2,?_⟩ hQ
   ·simpa using ZfV u.2 i1 v1
   ·simpa using ZfV t.2 i2 v2
 ·simp only[List.getElem?_eq_getElem hj]
  exact List.findIdx_getElem (w:=hj)
 ·intro m hm
  have hml:m<ts.length:=by omega
  simp only[List.getElem?_eq_getElem hml]
  exact List.not_of_lt_findIdx (xs:=ts) (p:=fun u=>decide (u.2=t.2)) hm
 ·have hv:Zw (Zag (ts.eraseIdx (ts.findIdx fun u=>decide (u.2=t.2)))) ((ts.map fun t=>Value.ref t.1).eraseIdx (ts.findIdx fun u=>decide (u.2=t.2))):=by
   have:=r.eraseIdx (ts.findIdx fun u=>decide (u.2=t.2))
   unfold Zag at this ⊢
   rw[ZcZ]
   exact this
  refine⟨.non,_,I.lset (its':=(ts.map fun t=>Value.ref t.1).eraseIdx (ts.findIdx fun u=>decide (u.2=t.2))) hH e ?_ hv ?_,rfl,q _ hj (of_decide_eq_true (List.findIdx_getElem (w:=hj)))⟩
  ·show (ts.map fun t=>Value.ref t.1).toArray.eraseIdxIfInBounds _=_
   rw[Qat]
  ·unfold Zag
   rw[Qa]
   have:=List.length_eraseIdx_le ts (ts.findIdx fun u=>decide (u.2=t.2))
   rw[sizeLine_eq];omega
theorem Zs9{k:Nat}(hr:ZaN k X.A):MtM X "list.remove" Zqi:=Zqc hr.units
end
theorem Zrs(i j:Int):(!decide (i<j))=decide (j≤i):=by by_cases z:i<j<;>simp[z]<;>omega
theorem Zn1(A:Around)(s:Shared){k m:Key}{p q:Value}(hp:ZG (kV k) p)(hq:ZG (kV m) q)(hs:k.isLeft=m.isLeft)(prog:Program)(w:World)(E:Value→Shared→Prop)(Q:Value→Shared→Prop)(h:Q (.bool (!kLt k m)) s) :
  wpAny (model prog w) A (richCompare .GtE p q) Q E s:=by
 cases k with
 | inl i =>
  cases m with
  | inl j =>
   obtain⟨t,rfl⟩:=hp
   obtain⟨u,rfl⟩:=hq
   exact(PyProof.Rows.ge_int (Zrs i j ▸ h):wpAny (model prog w) A (compareOp .GtE (.int i t) (.int j u)) Q E s)
  | inr y=>cases hs
 | inr x =>
  cases m with
  | inl j=>cases hs
  | inr y =>
   obtain⟨t,rfl⟩:=hp
   obtain⟨u,rfl⟩:=hq
   exact(PySem.P.ge_str h:wpAny (model prog w) A (compareOp .GtE (.str x t) (.str y u)) Q E s)
section
open PySem.SeqAt
open PySem.AutoSeq1 (wpAny_loadPart')
open PySem.MeetsSeq PySem.MeetsSeq2 PySem.MeetsSeq3
theorem ZgX(l b:Addr)(items items2:Array Value)(n n2:Nat)(dd dd2:Option Addr)(sl sl2:Array (Option Value))(ks ms:List Key)(hi:Zw (ks.map kV) items.toList)(hj:Zw (ms.map kV) items2.toList)(hs:ZV ks=ZV ms) :
  Meets (Builtin.«tuple.__ge__» ⟨[.ref l,.ref b],[]⟩)
   (fun _ R s=>s.heap.get? l=some { cls:=.type "tuple",dict:=dd,data:=.seq items n,slots:=sl }∧s.heap.get? b=some { cls:=.type "tuple",dict:=dd2,data:=.seq items2 n2,slots:=sl2 } ∧
    R (.ok (.ret (.bool (!ZP ks ms)))) s) :=
 .of_wp fun prog w A R s h=>by
  obtain⟨hp,g,d,tk,os⟩:=s;obtain⟨hl,hb,h⟩:=h
  have f2:=AutoSeq1.sub_tuple_tuple
  have z1:items.size=ks.length:=by have:=hi.length;simpa using this.symm
  have z2:items2.size=ms.length:=by have:=hj.length;simpa using this.symm
  have z3:ks.length=ms.length:=by have:=congrArg List.length hs;simpa [ZV] using this
  wp_walk using wpAny_loadPart' hl,wpAny_loadPart' hb,wpAny_forIn_list _ (fun rest b s'=>b.1=none∧s'=⟨hp,g,d,tk,os⟩∧∃ (vs ws:List Value) (ks' ms':List Key),rest=vs.zip ws ∧
   Zw (ks'.map kV) vs∧Zw (ms'.map kV) ws∧ZV ks'=ZV ms'∧R (.ok (.ret (.bool (!ZP ks' ms')))) ⟨hp,g,d,tk,os⟩) _
  case turn =>
   rintro⟨y,x⟩ rest b s' ⟨hb',rfl,vs,ws,ks',ms',hz,hvi,hwi,hsh,hR⟩
   cases ks' with
   | nil=>cases hvi;rw[List.zip_nil_left]at hz;cases hz
   | cons k1 kr =>
    cases ms' with
    | nil=>cases hsh
    | cons m1 mr =>
     cases hvi with
     | cons r1 rr =>
      cases hwi with
      | cons r1' rr' =>
       rw[Qad]at hz
       injection hz with hyx hrest
       injection hyx with hy hx
       subst hy hx
       rw[Z8]at hR
       unfold ZV at hsh
       rw[Ql,Ql]at hsh
       injection hsh with s1 s2
       obtain⟨e,he,hiff⟩:=Zjh A.in1 ⟨hp,g,d,tk,os⟩ r1 r1' s1
       refine wpAny_bind (he prog w _ _ ?_)
       cases e with
       | true =>
        rw[if_pos (hiff.mp rfl)]at hR
        wp_walk
        exact⟨rfl,rfl,_,_,_,_,hrest,rr,rr',s2,hR⟩
       | false =>
        rw[if_neg (fun q=>absurd (hiff.mpr q) QC)]at hR
        have hri:=Zn1 A.in1 ⟨hp,g,d,tk,os⟩ r1 r1' s1 prog w
        wp_walk using hri
        exact⟨_,rfl,by simpa using hR⟩
  case fin =>
   rintro⟨b1,b2⟩ s' ⟨hb',rfl,vs,ws,ks',ms',hz,hvi,hwi,hsh,hR⟩
   simp only at hb'
   subst hb'
   have hv:(!ZP ks' ms')=decide (items.size≥items2.size):=by
    rw[decide_eq_true (by omega)]
    cases ks' with
    | nil =>
     cases ms' with
     | nil=>rfl
     | cons _ _=>cases hsh
    | cons k1 kr =>
     cases ms' with
     | nil=>cases hsh
     | cons m1 mr =>
      cases hvi with
      | cons r1 rr =>
       cases hwi with
       | cons r1' rr'=>rw[Qad]at hz;cases hz
   rw[hv]at hR
   wp_walk
   exact⟨_,rfl,by simpa [Builtin.Tuple.tupleCompareSizes] using hR⟩
  case h =>
   exact⟨rfl,rfl,items.toList,items2.toList,ks,ms,rfl,hi,hj,hs,h⟩
end
section
variable {prog:Program} {w:World} {A:Around} {E:Value→Shared→Prop} {s:Shared}
theorem ZkH{l b:Addr}{items items2:Array Value}{ks ms:List Key}{Q:Value→Shared→Prop}(hl:IsTup s.heap l items)(hb:IsTup s.heap b items2)(hi:Zw (ks.map kV) items.toList)(hj:Zw (ms.map kV) items2.toList)(hs:ZV ks=ZV ms)
  (hu:A.units<cLine) (h:Q (.bool (!ZP ks ms)) s):wpAny (model prog w) A (richCompare .GtE (.ref l) (.ref b)) Q E s:=by
 obtain⟨⟨cls,dd,data,sl⟩,ho,hc,n,hd⟩:=id hl
 obtain⟨⟨cls2,dd2,data2,sl2⟩,ho2,hc2,n2,hd2⟩:=id hb
 simp only at hc hd hc2 hd2
 subst hc hd hc2 hd2
 exact richCompare_meets_room (op:=.GtE) ⟨_,ho,rfl⟩ ⟨_,ho2,rfl⟩ PySem.F.slot_tuple_ge PySem.F.entry_tuple_ge (PySem.F.args_tuple_ge_2 _ _) (ZgX l b items items2 n n2 dd dd2 sl sl2 ks ms hi hj hs)
  ⟨ho,ho2,show Value.bool (!ZP ks ms)≠Value.notImplemented∧Q (.bool (!ZP ks ms)) s from⟨(fun x=>nomatch x),h⟩⟩ hu
end
section
variable {X:Cx}
noncomputable def Zsp(K:PySem.W.Frag):R2:=fun x y H Q=>∃ (a b:Addr) (ks ms:List Key),x=.ref a∧y=.ref b∧SqT K H a (ks.map kV)∧SqT K H b (ms.map kV)∧ZV ks=ZV ms∧Q (.bl (!ZP ks ms)) H
theorem ZqI(hu:X.A.units<cLine):OpR X (compareOp .GtE) (Zsp X.K):=by
 intro pins s σ H x y v u Q I rx ry h
 obtain⟨a,b,ks,ms,rfl,rfl,ha,hb,hs,q⟩:=h
 cases rx
 cases ry
 obtain⟨its,r1,p1,_⟩:=I.tuple ha
 obtain⟨its2,r2,p2,_⟩:=I.tuple hb
 exact ZkH p1 p2 r1 r2 hs hu ⟨.bl (!ZP ks ms),H,I,rfl,q⟩
theorem geK(K:PySem.W.Frag){k:Nat}(hr:ZaN k X.A)(h:X.K=K:=by rfl):OpR X (compareOp .GtE) (Zsp K):=by subst h;exact ZqI (by have:=hr.units;omega)
end
section
variable {X:Cx}
end
section
variable {X:Cx} {T name id:String} {r:V→List V→Hp→VK→Prop} {o e:Expr} {es:List Expr} {to:TE} {t:TA} {apos cpos:Pos}
theorem ZqB(K:PySem.W.Frag){X:Cx}{T:String}{name:Str}{id:String}{r:V→List V→Hp→VK→Prop}{o e:Expr}{es:List Expr}{to:TE}{t:TA}{apos cpos:Pos}(pa:PlainAttrs T)(slot:Slot T name id)(hty:typeOf (.builtin id)=pure (.type "method_descriptor"))(hm:MtR X id r)(ho:PE X o to)(ha:PA X (e::es) t)
  (hK:X.K=K:=by rfl)
  (hbase:attributeBase o name X.env (eval o X.env)=eval o X.env:=by rfl)
  (hfew:((backTo cpos (starEach (e::es) X.env)).all (fun x=>!x.1)&&(backToKw cpos (keywordEach [] X.env)).all (fun x=>x.1.isSome)
   && decide ((e::es).length+([]:List Keyword).length+(if ([]:List Keyword).isEmpty then 0 else 1)<30))=true:=by rfl)
  (hline:(apos.endLine == cpos.line)=true:=by rfl) (hs:starEach (e::es) X.env=(false,eval e X.env)::starEach es X.env:=by rfl) (hplain:(backTo cpos (starEach es X.env)).any (·.1)=false:=by rfl) :
  PE X (.Call (.Attribute o name apos) (e::es) [] cpos) (tBM K T r to t):=by
 subst hK
 exact ZcA pa slot hty hm ho ha hbase hfew hline hs hplain
end
section
variable {X:Cx}
noncomputable def Zqj(K:PySem.W.Frag):List V→Hp→VK→Prop:=fun vs H Q=>∃ (p:Addr) (ns:List Int),vs=[.ref p]∧SqL K H p (ns.map V.int)∧ns.length≤1000∧(∀n∈ns,0≤n∧n≤10000000000000)∧Q (.int ns.sum) H
theorem Zmk(hc:X.calm=true):Zae X (.builtin "sum") (Zqj X.K):=by
 intro pins s σ H vs us Q I r h
 obtain⟨p,ns,rfl,hq,hn,hb,q⟩:=h
 obtain⟨u,rfl,rx⟩:=ZbJ r
 cases rx
 obtain⟨its,rv,pl,_⟩:=I.list hq
 have hi:=Zgb rv
 obtain⟨xs,e⟩:=hi.allInts.items
 have hns:ns=xs.toList.map (·.1):=by rw[← hi.numsOf,← nums_intItems,← e]
 have hsz:xs.size=ns.length:=by rw[hns,Qa,QaJ]
 have hnum:numAt xs=fun j=>ns.getD j 0:=by funext j;rw[numAt_eq,hns]
 have hl:=pl.isList
 rw[e]at hl
 have bound:∀n,n≤ns.length→0≤(ns.take n).sum∧(ns.take n).sum≤10000000000000*n:=by
  intro n
  induction n with
  | zero=>intro _;exact⟨by simp,by simp⟩
  | succ n ih =>
   intro h
   have ih:=ih (by clear ih hb hn;omega)
   have hm:=hb ns[n] (QT (by clear ih hb hn;omega))
   have e2:ns.take (n+1)=ns.take n++[ns[n]]:=by rw[QI,Qb (by clear hm ih hb hn;omega)];rfl
   rw[e2,Qan]
   have e3:([ns[n]]:List Int).sum=ns[n]:=by simp
   rw[e3]
   clear hb e3 ih hsz hn;omega
 refine sum_intList (I.ok.hd hc) hl (fun j hj=>?_) fun h' tk t' hk=>⟨.int _,H,I.kept hk,⟨t',rfl⟩,?_⟩
 ·rw[hnum]
  have hm:=hb ns[j] (QT (by omega))
  have hg:ns.getD j 0=ns[j]:=by rw[Qk,Qb (by omega)];rfl
  have hp:=bound (j+1) (by omega)
  refine⟨⟨?_,?_⟩,⟨?_,?_⟩⟩
  ·show -(2 ^ 63)≤ns.getD j 0
   rw[hg];clear hp bound hb hn hg;omega
  ·show ns.getD j 0<2 ^ 63
   rw[hg];clear hp bound hb hn hg;omega
  ·rw[ZeO ns (j+1) (by omega)];omega
  ·rw[ZeO ns (j+1) (by omega)];omega
 ·rw[hnum,hsz,ZeO ns ns.length (Qg _),Qy (Qg _)]
  exact q
theorem Zsb(K:PySem.W.Frag)(hc:X.calm=true:=by rfl)(h:X.K=K:=by rfl):Zae X (.builtin "sum") (Zqj K):=by subst h;exact Zmk hc
end
theorem Zo2{H:Hp}{k:List Key}{kvs:List (List Key×V)}{xs:List (List Key×Addr×Value)}(r:Zfy H kvs xs):∀ {v:V},Zb2 kvs k=some v→∃p,atKey xs k=some p∧ZG v p.2:=by
 induction r with
 | nil=>intro v h;cases h
 | @cons p q ps qs h t ih =>
  intro v hv
  unfold Zb2 at hv
  unfold atKey
  rw[Qao]at hv ⊢
  rw[← h.1]
  by_cases e:p.1=k
  ·rw[decide_eq_true e]at hv ⊢
   cases hv
   exact⟨q.2,rfl,h.2.2⟩
  ·rw[decide_eq_false e]at hv ⊢
   exact ih hv
theorem ZpU{H:Hp}{k:List Key}{kvs:List (List Key×V)}{xs:List (List Key×Addr×Value)}(r:Zfy H kvs xs):Zb2 kvs k=none→atKey xs k=none:=by
 induction r with
 | nil=>intro _;rfl
 | @cons p q ps qs h t ih =>
  intro hv
  unfold Zb2 at hv
  unfold atKey
  rw[Qao]at hv ⊢
  rw[← h.1]
  by_cases e:p.1=k
  ·rw[decide_eq_true e]at hv
   cases hv
  ·rw[decide_eq_false e]at hv ⊢
   exact ih hv
theorem Zfp{kvs:List (List Key×V)}{k k':List Key}{v:V}:Zb2 (kvs++[(k,v)]) k'=(Zb2 kvs k').or (if k=k' then some v else none):=by
 unfold Zb2
 rw[List.find?_append]
 cases h:kvs.find? fun kv=>decide (kv.1=k') with
 | some x=>rfl
 | none =>
  by_cases e:k=k'
  ·simp[e]
  ·simp[e]
section
variable {X:Cx}
noncomputable def ZiE:R2:=fun x y H Q=>∃d kvs b ks v,x=.ref d∧y=.ref b∧H d=some (.dT kvs)∧H b=some (.tup (ks.map kV))∧Zb2 kvs ks=some v∧Q v H
theorem Zsf(hu:X.A.units+64<cLine):IxR X ZiE:=by
 intro value slice pins s σ H x y v u Q I rx ry h hs
 obtain⟨d,kvs,b,ks,z,rfl,rfl,hH,hb,hk,q⟩:=h
 cases rx
 cases ry
 obtain⟨_,hd,xs,rel,o,es,ep,ho,hex,hdat,hent,hnd⟩:=(show Zap X.prog X.w H s.heap d (.dT kvs) from I.hok d _ hH)
 have hm:s.heap.DictOfH (tupleKind (ZO X.prog X.w)) d xs:=⟨o,es,ep,ho,hex,hdat,hent,Zjz (R:=fun ks b=>(tupleKind (ZO X.prog X.w)).is s.heap ks b) (fun ks b e=>I.tkey e) rel,hnd⟩
 obtain⟨p,hp,rp⟩:=Zo2 rel hk
 exact subscriptTail_builtinR (x:=p.2) hm.typeIs PySem.F.slot_dict_getitem.lookup (wpAny_getItem_heap (knd:=tupleKind (ZO X.prog X.w)) (by show X.A.units+1<cLine;omega) (I.tkey hb) hm hp ⟨rfl,z,H,I.tok _,rp,q⟩) hs
theorem ixD{k:Nat}(hr:ZaN k X.A):IxR X ZiE:=Zsf hr.units
noncomputable def ZkE:ZmC:=fun o i v H Q=>∃d kvs b ks,o=.ref d∧i=.ref b∧H d=some (.dT kvs)∧H b=some (.tup (ks.map kV))∧Zb2 kvs ks=none∧kvs.length<sizeLine∧Q (upd H d (.dT (kvs++[(ks,v)])))
theorem Zrm(hu:X.A.units+64<cLine):Zn5 X ZkE:=by
 intro pins s σ H o i v ov iv u Q I ro ri rv h
 obtain⟨d,kvs,b,ks,rfl,rfl,hH,hb,hk,hz,q⟩:=h
 cases ro
 cases ri
 obtain⟨_,hd,xs,rel,o,es,ep,ho,hex,hdat,hent,hnd⟩:=(show Zap X.prog X.w H s.heap d (.dT kvs) from I.hok d _ hH)
 have hm:s.heap.DictOfH (tupleKind (ZO X.prog X.w)) d xs:=⟨o,es,ep,ho,hex,hdat,hent,Zjz (R:=fun ks b=>(tupleKind (ZO X.prog X.w)).is s.heap ks b) (fun ks b e=>I.tkey e) rel,hnd⟩
 have hl:=ZmT rel
 have hno:=ZpU rel hk
 refine wpAny_setItem_heap (knd:=tupleKind (ZO X.prog X.w)) (k:=ks) (by show X.A.units+1<cLine;omega) (I.tkey hb) hm (fun h' hm' hs=>?_) (by omega)
 rw[storedH_new hno]at hm'
 obtain⟨o',es',ep',g1,g2,g3,g4,_,g5⟩:=hm'
 refine⟨_,?_,q⟩
 refine I.write (x:=d) (e:=d) (by rw[hH];exact True.intro) (.inl rfl) (fun c q hc z=>(hs.2 c hc).trans z) ⟨o',g1⟩ ?_
 refine⟨by rw[Qe,Qm];omega,hd,xs++[(ks,b,u)],?_,o',es',ep',g1,g2,g3,g4,g5⟩
 refine ZlW (fun c ys ec=>?_) (ZlT rel ⟨rfl,hb,rv⟩)
 rw[Ze (Zk7 ec hH (fun z=>nomatch z))]
 exact ec
theorem ZsY{k:Nat}(hr:ZaN k X.A):Zn5 X ZkE:=Zrm hr.units
end
section
variable {prog:Program} {w:World} {A:Around} {E:Value→Shared→Prop} {s:Shared}
end
section
variable {prog:Program} {w:World} {A:Around} {R:Result→Shared→Prop} {s:Shared}
end
section
variable {X:Cx} {N N':List Str} {o c:Scope}
end
end L2
namespace Hf
open L2
noncomputable abbrev PW:=List (Int×Nat)
noncomputable def val(P:PW):Int:=(P.map fun p=>p.1*(p.2:Int)).sum
noncomputable def ws(P:PW):List Int:=P.map (·.1)
noncomputable def ds(P:PW):List Nat:=P.map (·.2)
noncomputable def zs(z:Nat):List Int:=List.replicate z 0
noncomputable def kr(w E:Nat)(D:List Nat):Nat:=(D.map fun d=>w ^ (E-d)).sum
inductive Hu (w:Nat):List Int→Nat→Int→Prop
 | stop {e:Int} {m:Nat}:Hu w [e] m 0
 | step {E L:List Int} {m:Nat} {C:Int}:1<L.length→E.Perm L→L.Pairwise (·≤·)→Hu w (L.drop m++[(L.take m).sum]) w C→Hu w E m (C+(L.take m).sum)
noncomputable def Fit(w n m:Nat):Prop:=n=1∨∃t,n=m+t*(w-1)
structure Fits (w n m:Nat):Prop where
 w2:2≤w
 m2:2≤m
 mw:m≤w
 ok:Fit w n m
end Hf
namespace L2
open PySem PySem.Spec PyProof.Rows
section
variable {prog:Program} {w:World} {A:Around} {R:Result→Shared→Prop} {s:Shared}
end
section
variable {X:Cx} {N N':List Str} {o c:Scope}
end
section
variable {κ:Type} [DecidableEq κ]
noncomputable def ZcH(kvs:List (κ×V))(k:κ):Option V:=(kvs.find? fun kv=>decide (kv.1=k)).map (·.2)
noncomputable def Zei(kvs:List (κ×V))(k:κ)(v:V):List (κ×V) :=
 if (kvs.any fun kv=>decide (kv.1=k))=true then kvs.map (fun kv=>if kv.1=k then (kv.1,v) else kv) else kvs++[(k,v)]
theorem ZdY{p:κ×V}{r:List (κ×V)}{k:κ}(e:p.1=k):ZcH (p::r) k=some p.2:=by simp[ZcH,List.find?_cons,e]
theorem ZdU{p:κ×V}{r:List (κ×V)}{k:κ}(e:¬ p.1=k):ZcH (p::r) k=ZcH r k:=by simp[ZcH,List.find?_cons,e]
theorem Zgj(k:κ):∀kvs:List (κ×V),(kvs.any fun kv=>decide (kv.1=k))=(ZcH kvs k).isSome
 | []=>rfl
 | p::r=>by
  rw[Qay]
  by_cases e:p.1=k
  ·simp only[ZdY e,decide_eq_true e,Bool.true_or,Option.isSome_some]
  ·rw[ZdU e,decide_eq_false e,Bool.false_or];exact Zgj k r
theorem Zfz(kvs:List (κ×V))(k:κ)(v:V):(Zei kvs k v).length≤kvs.length+1:=by
 unfold Zei
 split
 ·rw[Qa];omega
 ·rw[Qe,QE,List.length_nil];omega
theorem ZoO{kvs:List (κ×V)}{k:κ}(v:V)(h:ZcH kvs k=none):Zei kvs k v=kvs++[(k,v)]:=by
 unfold Zei
 rw[Zgj,h]
 exact if_neg (by decide)
theorem Zdu.isSome_eq{o:Option V}{u:Option Value}(r:Zdu o u):o.isSome=u.isSome:=by
 cases o with
 | none=>cases u with
  | none=>rfl
  | some _=>exact(show False from r).elim
 | some _=>cases u with
  | none=>exact(show False from r).elim
  | some _=>rfl
theorem Zdu.getD{o:Option V}{u:Option Value}{d:V}{d':Value}(r:Zdu o u)(rd:ZG d d'):ZG (o.getD d) (u.getD d'):=by
 cases o with
 | none=>cases u with
  | none=>exact rd
  | some _=>exact(show False from r).elim
 | some _=>cases u with
  | none=>exact(show False from r).elim
  | some _=>exact r
theorem KV.val{kvs:List (κ×V)}{vs:List (κ×Value)}(r:KV kvs vs)(k:κ):Zdu (ZcH kvs k) (valueAt vs k):=by
 unfold KV at r
 induction r with
 | nil=>exact True.intro
 | @cons p q ps qs h t ih =>
  obtain⟨h1,h2⟩:=h
  by_cases e:p.1=k
  ·have e':q.1=k:=h1.symm.trans e
   have b:valueAt (q::qs) k=some q.2:=by simp[valueAt,List.find?_cons,e']
   rw[ZdY e,b];exact h2
  ·have e':¬ q.1=k:=fun z=>e (h1.trans z)
   have b:valueAt (q::qs) k=valueAt qs k:=by simp[valueAt,List.find?_cons,e']
   rw[ZdU e,b];exact ih
theorem KV.any{kvs:List (κ×V)}{vs:List (κ×Value)}(r:KV kvs vs)(k:κ):(kvs.any fun kv=>decide (kv.1=k))=vs.any fun kv=>decide (kv.1=k):=by
 unfold KV at r
 induction r with
 | nil=>rfl
 | cons h t ih=>rw[Qay,Qay,ih,h.1]
theorem KV.repl{kvs:List (κ×V)}{vs:List (κ×Value)}(r:KV kvs vs)(k:κ){y:V}{u:Value}(ry:ZG y u) :
  KV (kvs.map fun kv=>if kv.1=k then (kv.1,y) else kv) (vs.map fun kv=>if kv.1=k then (kv.1,u) else kv):=by
 unfold KV at r ⊢
 induction r with
 | nil=>exact .nil
 | @cons p q ps qs h t ih =>
  rw[Ql,Ql]
  refine .cons ?_ ih
  obtain⟨h1,h2⟩:=h
  by_cases e:p.1=k
  ·rw[if_pos e,if_pos (h1.symm.trans e)];exact⟨h1,ry⟩
  ·rw[if_neg e,if_neg (fun z=>e (h1.trans z))];exact⟨h1,h2⟩
theorem KV.put{kvs:List (κ×V)}{vs:List (κ×Value)}(r:KV kvs vs)(k:κ){y:V}{u:Value}(ry:ZG y u):KV (Zei kvs k y) (stored vs k u):=by
 unfold Zei stored
 rw[r.any k]
 by_cases e:(vs.any fun kv=>decide (kv.1=k))=true
 ·rw[if_pos e,if_pos e];exact r.repl k ry
 ·rw[if_neg e,if_neg e];exact Paired.snoc r ⟨rfl,ry⟩
theorem KV.length{kvs:List (κ×V)}{vs:List (κ×Value)}(r:KV kvs vs):kvs.length=vs.length:=Paired.length r
end
theorem ZkW{P:Program}{w:World}{k:Key}{u:Value}(r:ZG (kV k) u):(ZO P w).is k u=true:=by
 cases k with
 | inl i=>obtain⟨t,e⟩:=(show ∃t,u=Value.int i t from r);subst e;exact ZfF P w i t
 | inr x=>obtain⟨t,e⟩:=(show ∃t,u=Value.str x t from r);subst e;exact ZfC P w x t
theorem Zhi{P:Program}{w:World}:∀ {ks:List Key} {us:List Value},Zw (ks.map kV) us→ItemsAre (ZO P w) ks us
 | [],_,r=>by rw[Qag]at r;cases r;exact .nil
 | k::ks,_,r=>by
  rw[Ql]at r
  cases r with
  | cons h t=>exact .cons (ZkW h) (Zhi t)
noncomputable abbrev KT(H:Hp):List (List Key×V)→List (List Key×Addr×Value)→Prop:=Paired fun p q=>p.1=q.1∧H q.2.1=some (.tup (p.1.map kV))∧ZG p.2 q.2.2
theorem KT.val{H:Hp}{kvs:List (List Key×V)}{xs:List (List Key×Addr×Value)}(r:KT H kvs xs)(k:List Key):Zdu (ZcH kvs k) ((atKey xs k).map (·.2)):=by
 induction r with
 | nil=>exact True.intro
 | @cons p q ps qs h t ih =>
  obtain⟨h1,_,h2⟩:=h
  by_cases e:p.1=k
  ·have e':q.1=k:=h1.symm.trans e
   have b:atKey (q::qs) k=some q.2:=by simp[atKey,List.find?_cons,e']
   rw[ZdY e,b];exact h2
  ·have e':¬ q.1=k:=fun z=>e (h1.trans z)
   have b:atKey (q::qs) k=atKey qs k:=by simp[atKey,List.find?_cons,e']
   rw[ZdU e,b];exact ih
theorem KT.repl{H:Hp}{kvs:List (List Key×V)}{xs:List (List Key×Addr×Value)}(r:KT H kvs xs)(k:List Key){y:V}{u:Value}(ry:ZG y u) :
  KT H (kvs.map fun kv=>if kv.1=k then (kv.1,y) else kv) (xs.map (putAt k u)):=by
 induction r with
 | nil=>exact .nil
 | @cons p q ps qs h t ih =>
  rw[Ql,Ql]
  refine .cons ?_ ih
  obtain⟨h1,h2,h3⟩:=h
  unfold putAt
  by_cases e:p.1=k
  ·rw[if_pos e,if_pos (h1.symm.trans e)];exact⟨h1,h2,ry⟩
  ·rw[if_neg e,if_neg (fun z=>e (h1.trans z))];exact⟨h1,h2,h3⟩
theorem KT.put{H:Hp}{kvs:List (List Key×V)}{xs:List (List Key×Addr×Value)}(r:KT H kvs xs)(k:List Key){b:Addr}{y:V}{u:Value}(hb:H b=some (.tup (k.map kV)))(ry:ZG y u) :
  KT H (Zei kvs k y) (storedH xs k b u):=by
 have e:(kvs.any fun kv=>decide (kv.1=k))=(atKey xs k).isSome:=by
  rw[Zgj,(r.val k).isSome_eq,Option.isSome_map]
 unfold Zei storedH
 rw[e]
 by_cases q:(atKey xs k).isSome=true
 ·rw[if_pos q,if_pos q];exact r.repl k ry
 ·rw[if_neg q,if_neg q];exact Paired.snoc r ⟨rfl,hb,ry⟩
theorem KT.keeps{H H':Hp}{kvs:List (List Key×V)}{xs:List (List Key×Addr×Value)}(r:KT H kvs xs)(ht:∀b ys,H b=some (.tup ys)→H' b=some (.tup ys)):KT H' kvs xs :=
 Paired.mapP r fun _ _ z=>⟨z.1,ht _ _ z.2.1,z.2.2⟩
section
variable {P:Program} {w:World} {H:Hp} {h:Heap} {a:Addr}
theorem Zqp{u:HO}(ok:HOk P w H h)(e:Rd H a u):Zap P w H h a u:=e.ok ok
theorem Zhj{kvs:List (Key×V)}(ok:HOk P w H h)(e:Rd H a (.dK kvs)):kvs.length≤sizeLine∧(a == sysModules)=false∧∃vs,KV kvs vs∧h.DictOf (ZO P w) a vs :=
 show Zap P w H h a (.dK kvs) from Zqp ok e
theorem Zsh{kvs:List (Key×V)}(ok:HOk P w H h)(e:H a=some (.dK kvs)):kvs.length≤sizeLine∧(a == sysModules)=false∧∃vs,KV kvs vs∧h.DictOf (ZO P w) a vs:=Zhj ok (.inl e)
theorem ZiB{ks:List Key}(ok:HOk P w H h)(e:H a=some (.tup (ks.map kV))):(tupleKind (ZO P w)).is h ks a:=by
 obtain⟨_,its,r,o,h1,h2,n,h3⟩:=(show Zap P w H h a (.tup (ks.map kV)) from ok a _ e)
 exact⟨o,its.toArray,n,h1,h2,h3,by simpa using Zhi r⟩
theorem Zje{kvs:List (List Key×V)}(ok:HOk P w H h)(e:Rd H a (.dT kvs)):kvs.length≤sizeLine∧(a == sysModules)=false ∧
  ∃xs,KT H kvs xs∧h.DictOfH (tupleKind (ZO P w)) a xs:=by
 obtain⟨z,y,xs,r,o,es,ep,h1,h2,h3,h4,h5⟩:=(show Zap P w H h a (.dT kvs) from Zqp ok e)
 refine⟨z,y,xs,r,o,es,ep,h1,h2,h3,h4,fun x hx=>?_,h5⟩
 have all:∀ {l:List (List Key×V)} {m:List (List Key×Addr×Value)},KT H l m→∀x∈m,(tupleKind (ZO P w)).is h x.1 x.2.1:=by
  intro l m q
  induction q with
  | nil=>intro x hx;exact nomatch hx
  | @cons p q ps qs hq t ih =>
   intro x hx
   rcases QK.mp hx with e|hx
   ·subst e
    exact ZiB ok (by rw[← hq.1];exact hq.2.1)
   ·exact ih x hx
 exact all r x hx
theorem Zsi{kvs:List (List Key×V)}(ok:HOk P w H h)(e:H a=some (.dT kvs)):kvs.length≤sizeLine∧(a == sysModules)=false ∧
  ∃xs,KT H kvs xs∧h.DictOfH (tupleKind (ZO P w)) a xs:=Zje ok (.inl e)
end
noncomputable def Zdv(H:Hp)(a:Addr)(y:V)(r:Option V):Prop :=
 (∃kvs k,Rd H a (.dK kvs)∧y=kV k∧r=ZcH kvs k)∨∃kvs k b,Rd H a (.dT kvs)∧y=.ref b∧H b=some (.tup (k.map kV))∧r=ZcH kvs k
noncomputable def ZgD(H:Hp)(a:Addr)(y v:V)(H':Hp):Prop :=
 (∃kvs k,H a=some (.dK kvs)∧y=kV k∧kvs.length<sizeLine∧H'=upd H a (.dK (Zei kvs k v))) ∨
 ∃kvs k b,H a=some (.dT kvs)∧y=.ref b∧H b=some (.tup (k.map kV))∧kvs.length<sizeLine∧H'=upd H a (.dT (Zei kvs k v))
theorem Zdv.k{H:Hp}{a:Addr}{kvs:List (Key×V)}{k:Key}(e:H a=some (.dK kvs)):Zdv H a (kV k) (ZcH kvs k):=.inl ⟨kvs,k,.inl e,rfl,rfl⟩
theorem Zdv.t{H:Hp}{a b:Addr}{kvs:List (List Key×V)}{k:List Key}(e:H a=some (.dT kvs))(eb:H b=some (.tup (k.map kV))):Zdv H a (.ref b) (ZcH kvs k):=.inr ⟨kvs,k,b,.inl e,rfl,eb,rfl⟩
theorem ZgD.k{H:Hp}{a:Addr}{kvs:List (Key×V)}{k:Key}{v:V}(e:H a=some (.dK kvs))(hl:kvs.length<sizeLine):ZgD H a (kV k) v (upd H a (.dK (Zei kvs k v))):=.inl ⟨kvs,k,e,rfl,hl,rfl⟩
theorem ZgD.t{H:Hp}{a b:Addr}{kvs:List (List Key×V)}{k:List Key}{v:V}(e:H a=some (.dT kvs))(eb:H b=some (.tup (k.map kV)))(hl:kvs.length<sizeLine) :
  ZgD H a (.ref b) v (upd H a (.dT (Zei kvs k v))):=.inr ⟨kvs,k,b,e,rfl,eb,hl,rfl⟩
section
variable {X:Cx} {pins:List (Addr×Obj)} {σ:St} {H:Hp} {s:Shared} {a:Addr} {y v:V} {u r:Value} {o:Option V} {A:Around} {E:Value→Shared→Prop}
theorem Inv.big(I:Inv X pins σ H s):sysModules<s.heap.objs.size:=by
 have h:mainGlobals<s.heap.objs.size:=(I.mod.glob.keeps I.bk).lt
 exact Nat.lt_trans (by decide) h
theorem ZlJ{Q:Value→Shared→Prop}(hu:A.units+1<cLine)(I:Inv X pins σ H s)(g:Zdv H a y (some v))(ry:ZG y u)(h:∀w' s',Inv X pins σ H s'→ZG v w'→Q w' s') :
  wpAny (model X.prog X.w) A (getItem (.ref a) u) Q E s:=by
 rcases g with⟨kvs,k,e,ey,l⟩|⟨kvs,k,b,e,ey,eb,l⟩
 ·subst ey
  obtain⟨z,hd,vs,rel,dd⟩:=Zhj I.hok e
  obtain⟨w',hw,rw'⟩:=Zdu.some_of (v:=v) (o:=valueAt vs k) (by rw[l];exact rel.val k)
  exact wpAny_getItem_of (ZkW ry) dd.mapOf hw (h w' _ (I.tok _) rw')
 ·subst ey
  cases (show u=Value.ref b from ry)
  obtain⟨z,hd,xs,rel,dd⟩:=Zje I.hok e
  obtain⟨w',hw,rw'⟩:=Zdu.some_of (v:=v) (o:=(atKey xs k).map (·.2)) (by rw[l];exact rel.val k)
  obtain⟨p,hp,hp2⟩:=QaQ.mp hw
  refine wpAny_getItem_heap (tupleKind_room_in1 hu) (ZiB I.hok eb) dd hp ?_
  rw[hp2]
  exact h w' _ (I.tok _) rw'
theorem Zlf{h':Heap}{t':Nat}{ob:HO}(I:Inv X pins σ H s)(mu:Mut (H a))(hs:Heap.SameBut a s.heap h')(he:∃q,h'.get? a=some q)(new:Zap X.prog X.w (upd H a ob) h' a ob) :
  Inv X pins σ (upd H a ob) { s with heap:=h',toks:=t' } :=
 I.write (x:=a) (e:=a) mu (.inl rfl) (fun b q hb z=>(hs.2 b hb).trans z) he new
theorem Zq4{P:Program}{w:World}{H':Hp}{h':Heap}{kvs:List (Key×V)}{vs:List (Key×Value)}(z:kvs.length≤sizeLine)(hd:(a == sysModules)=false)(rel:KV kvs vs)(dd:h'.DictOf (ZO P w) a vs) :
  Zap P w H' h' a (.dK kvs):=⟨z,hd,vs,rel,dd⟩
theorem Zmj{H':Hp}{Q:Unit→Shared→Prop}(hu:A.units+1<cLine)(I:Inv X pins σ H s)(g:ZgD H a y v H')(ry:ZG y u)(rv:ZG v r)(h:∀s',Inv X pins σ H' s'→Q () s') :
  wpAny (model X.prog X.w) A (setItem (.ref a) u r) Q E s:=by
 rcases g with⟨kvs,k,e,ey,l,eH⟩|⟨kvs,k,b,e,ey,eb,l,eH⟩
 ·subst ey eH
  obtain⟨z,hd,vs,rel,dd⟩:=Zsh I.hok e
  have hz:vs.length≤sizeLine:=by rw[← rel.length];exact z
  have hl:(Zei kvs k v).length≤sizeLine:=by have:=Zfz kvs k v;omega
  refine wpAny_setItem_pairs (hsz:=hz) (ZkW ry) dd fun h' dd' hs=>h _ ?_
  have he:∃q,h'.get? a=some q:=let ⟨q,_,_,hq,_⟩:=dd';⟨q,hq⟩
  exact Zlf I (by rw[e];exact True.intro) hs he (Zq4 hl hd (rel.put k rv) dd')
 ·subst ey eH
  cases (show u=Value.ref b from ry)
  obtain⟨z,hd,xs,rel,dd⟩:=Zsi I.hok e
  have hz:xs.length≤sizeLine:=by rw[← Paired.length rel];exact z
  have hl:(Zei kvs k v).length≤sizeLine:=by have:=Zfz kvs k v;omega
  refine wpAny_setItem_heap (hsz:=hz) (tupleKind_room_in1 hu) (ZiB I.hok eb) dd fun h' dd' hs=>h _ ?_
  obtain⟨q,es,ep,hq,h2,h3,h4,_,h5⟩:=dd'
  refine Zlf I (by rw[e];exact True.intro) hs ⟨q,hq⟩ ⟨hl,hd,_,(rel.put k eb rv).keeps fun c ys ec=>?_,q,es,ep,hq,h2,h3,h4,h5⟩
  rw[Ze (Zk7 ec e (fun z=>nomatch z))]
  exact ec
end
section
variable {X:Cx} {pins:List (Addr×Obj)} {σ:St} {H:Hp} {s:Shared} {a:Addr} {kvs:List (Key×V)} {k:Key} {u:Value} {A:Around} {E:Value→Shared→Prop}
theorem Zsr{Q:Value→Shared→Prop}(I:Inv X pins σ H s)(e:Rd H a (.dK kvs))(h:∀t s',Inv X pins σ H s'→Q (.int kvs.length t) s'):wpAny (model X.prog X.w) A (call (.builtin "len") [.ref a]) Q E s:=by
 obtain⟨z,hd,vs,rel,dd⟩:=Zhj I.hok e
 refine call_len_dict hd dd (by rw[← rel.length];rw[sizeLine_eq]at z;omega) ?_
 rw[← rel.length]
 exact h _ _ (I.tok _)
end
theorem Zjm{X:Cx}{pins:List (Addr×Obj)}{σ:St}{H:Hp}{s:Shared}{a:Addr}{y:V}{o:Option V}(I:Inv X pins σ H s)(g:Zdv H a y o):s.TypeIs (.ref a) "dict":=by
 rcases g with⟨kvs,k,e,_,_⟩|⟨kvs,k,b,e,_,_,_⟩
 ·obtain⟨_,_,vs,_,dd⟩:=Zhj I.hok e
  exact dd.typeIs
 ·obtain⟨_,_,xs,_,dd⟩:=Zje I.hok e
  exact dd.typeIs
section
variable {X:Cx} {o i e value:Expr} {pos pos' tpos:Pos} {td ty tv:TE}
end
theorem Znf{P:Program}{w:World}{H:Hp}(h:Heap)(hb:sysModules<h.objs.size):Zap P w H (h.push { cls:=.type "dict",data:=.dict #[] }) h.objs.size (.dK []) :=
 ⟨Qv _,beq_eq_false_iff_ne.mpr (Ne.symm (QV hb)),[],.nil,Heap.DictOf.new h⟩
noncomputable def Zqx:TE:=fun _ H Q=>∀p,H p=none→Q (.ref p) (upd H p (.dK []))
section
variable {X:Cx} {pos:Pos}
theorem Zm6:PE X (.Dict [] [] pos) Zqx:=fun pins s σ H Q I h =>
 wpAny_Dict_empty ⟨.ref s.heap.objs.size,_,I.laid (a:=s.heap.objs.size) (o:=.dK []) (t':=s.toks) (fun _ _ q=>Qj _ q) (Qg _) (Znf s.heap I.big),rfl,h _ (I.hok.fresh (Qg _))⟩
end
structure M1 (X:Cx) (o:Expr) (m:Str) (apos:Pos) (e:Expr) (cpos:Pos):Prop where
 base:attributeBase o m X.env (eval o X.env)=eval o X.env
 few:((backTo cpos (starEach [e] X.env)).all (fun x=>!x.1)&&(backToKw cpos (keywordEach [] X.env)).all (fun x=>x.1.isSome)
  && decide (([e]:List Expr).length+([]:List Keyword).length+(if ([]:List Keyword).isEmpty then 0 else 1)<30))=true
 line:(apos.endLine == cpos.line)=true
 trees:backTo cpos (starEach [e] X.env)=[(false,eval e X.env)]
structure M2 (X:Cx) (o:Expr) (m:Str) (apos:Pos) (e f:Expr) (cpos:Pos):Prop where
 base:attributeBase o m X.env (eval o X.env)=eval o X.env
 few:((backTo cpos (starEach [e,f] X.env)).all (fun x=>!x.1)&&(backToKw cpos (keywordEach [] X.env)).all (fun x=>x.1.isSome)
  && decide (([e,f]:List Expr).length+([]:List Keyword).length+(if ([]:List Keyword).isEmpty then 0 else 1)<30))=true
 line:(apos.endLine == cpos.line)=true
 trees:backTo cpos (starEach [e,f] X.env)=[(false,eval e X.env),(false,eval f X.env)]
noncomputable def IsD(H:Hp)(a:Addr):Prop:=(∃kvs,Rd H a (.dK kvs))∨∃kvs,Rd H a (.dT kvs)
theorem Zrn{X:Cx}{pins:List (Addr×Obj)}{σ:St}{H:Hp}{s:Shared}{a:Addr}(I:Inv X pins σ H s)(d:IsD H a) :
  s.TypeIs (.ref a) "dict"∧(∀b,Value.ref a=.ref b→∃ob,s.heap.get? b=some ob∧ob.dict=none)∧(a == sysModules)=false:=by
 rcases d with⟨kvs,e⟩|⟨kvs,e⟩
 ·obtain⟨_,hd,vs,_,dd⟩:=Zhj I.hok e
  refine⟨dd.typeIs,fun b q=>?_,hd⟩
  cases q
  obtain⟨ob,_,_,h1,h2,_⟩:=dd
  exact⟨ob,h1,h2.2.1⟩
 ·obtain⟨_,hd,xs,_,dd⟩:=Zje I.hok e
  refine⟨dd.typeIs,fun b q=>?_,hd⟩
  cases q
  obtain⟨ob,_,_,h1,h2,_⟩:=dd
  exact⟨ob,h1,h2.2.1⟩
section
variable {X:Cx} {pins:List (Addr×Obj)} {σ:St} {H:Hp} {s:Shared} {a:Addr} {y d:V} {u r:Value} {o:Option V} {A:Around} {E:Value→Shared→Prop}
theorem Zrr{Q:Value→Shared→Prop}(hu:A.units+1<cLine)(I:Inv X pins σ H s)(g:Zdv H a y o)(ry:ZG y u)(h:∀w' s',Inv X pins σ H s'→ZG (o.getD .non) w'→Q w' s') :
  wpAny (model X.prog X.w) A (call (.builtin "dict.get") [.ref a,u]) Q E s:=by
 rcases g with⟨kvs,k,e,ey,l⟩|⟨kvs,k,b,e,ey,eb,l⟩
 ·subst ey
  obtain⟨z,hd,vs,rel,dd⟩:=Zhj I.hok e
  refine call_meetsIn PySem.F.slot_dict_get dd.typeIs PySem.F.entry_dict_get (PySem.F.args_dict_get_2 _ _) (meets_dict_get (ZO X.prog X.w) a (ZkW ry) hd) ⟨_,dd.mapOf,h _ _ (I.tok _) ?_⟩
  rw[l]
  exact(rel.val k).getD rfl
 ·subst ey
  cases (show u=Value.ref b from ry)
  obtain⟨z,hd,xs,rel,dd⟩:=Zje I.hok e
  refine call_meetsIn PySem.F.slot_dict_get dd.typeIs PySem.F.entry_dict_get (PySem.F.args_dict_get_2 _ _) (meetsH_dict_get (tupleKind (ZO X.prog X.w)) a b hd) ⟨tupleKind_room_in1 hu,k,xs,ZiB I.hok eb,dd,h _ _ (I.tok _) ?_⟩
  rw[l]
  exact(rel.val k).getD rfl
end
noncomputable def Zm8(td ty:TE):TE:=fun σ H Q=>td σ H fun x H1=>∃a,x=.ref a∧IsD H1 a∧ty σ H1 fun y H2=>∃o,Zdv H2 a y o∧Q (o.getD .non) H2
section
variable {X:Cx} {o e f:Expr} {apos cpos:Pos} {td ty tx:TE}
theorem ZmG(hu:X.A.units+1<cLine)(ho:PE X o td)(he:PE X e ty)(m:M1 X o "get" apos e cpos):PE X (.Call (.Attribute o "get" apos) [e] [] cpos) (Zm8 td ty):=by
 intro pins s σ H Q I h
 refine wpAny_Call_method m.base m.few m.line PySem.F.plainAttrs_dict PySem.F.slot_dict_get PySem.F.type_dict_get (thn (ho pins s σ H _ I h) ?_)
 rintro u s1 ⟨x,H1,I1,rx,a,ex,d,q1⟩
 subst ex
 obtain rfl:u=Value.ref a:=rx
 obtain⟨t1,t2,_⟩:=Zrn I1 d
 refine⟨t1,t2,?_⟩
 rw[m.trees]
 refine Calls.callWith_builtin rfl (Calls.evalArgs_plain (Calls.spliced_cons (thn (he pins s1 σ H1 _ I1 q1) fun iv s2 ⟨y,H2,I2,ry,ov,g,q2⟩=>Calls.spliced_nil ?_)))
 exact Zrr hu I2 g ry fun w' s3 I3 rw'=>⟨_,H2,I3,rw',q2⟩
end
section
variable {X:Cx} {pins:List (Addr×Obj)} {σ:St} {H:Hp} {s:Shared} {a:Addr} {kvs:List (Key×V)} {A:Around} {E:Value→Shared→Prop}
end
section
variable {X:Cx} {pins:List (Addr×Obj)} {σ:St} {H:Hp} {s:Shared} {a:Addr} {y:V} {u:Value} {A:Around} {E:Value→Shared→Prop}
end
section
variable {X:Cx}
theorem Zl6:Zae X (.builtin "len") (fun xs H Q=>∃a kvs,xs=[V.ref a]∧H a=some (.dK kvs)∧Q (.int kvs.length) H):=by
 intro pins s σ H xs us Q I r h
 obtain⟨a,kvs,rfl,ha,q⟩:=h
 obtain⟨u,rfl,ru⟩:=ZbJ r
 cases ru
 exact Zsr I (.inl ha) fun t s' I'=>⟨.int kvs.length,H,I',⟨t,rfl⟩,q⟩
end
section
variable {κ:Type} [DecidableEq κ]
end
structure Mf (P:Program) (w:World) (K:PySem.W.Frag) (mg:Str→Option Value) (base:Heap) (k:Nat) (C:Addr) (m:Str) (ps:List Str) (sp:Sp):Prop where
 ex:∃f fd,Zem P w K mg base CX0 k f fd ps sp∧Zoz K C m f∧Zcp K fd ps []
structure Cf (P:Program) (w:World) (K:PySem.W.Frag) (mg:Str→Option Value) (base:Heap) (k:Nat) (C:Addr) (x:Str) (ps:List Str) (sp:Sp):Prop where
 ex:∃f fd,Zem P w K mg base CX0 k f fd ps sp∧Mk K C f∧Zcp K fd ps []∧mg x=some (.ref C)
structure Ze7 (K:PySem.W.Frag) (C:Addr) (m qual:Str) (st:Stmt) (ps:List Str):Prop where
 ex:∃f fd,Fun K m qual st f fd∧Zoz K C m f∧Zcp K fd ps []
structure Zp7 (K:PySem.W.Frag) (mg:Str→Option Value) (C:Addr) (x qual:Str) (st:Stmt) (ps:List Str):Prop where
 ex:∃f fd,Fun K "__init__" qual st f fd∧Mk K C f∧Zcp K fd ps []∧mg x=some (.ref C)
section
variable {P:Program} {w:World} {K:PySem.W.Frag} {mg:Str→Option Value} {base:Heap}
theorem Ze7.mf{C:Addr}{m qual:Str}{st:Stmt}{N ps:List Str}{k:Nat}{sp:Sp}(T:Ze7 K C m qual st ps)(S:Zq N ps (Zf st))(len:∀vs H Q E,sp vs H Q E→vs.length=ps.length)
  (hbody:∀ (cdv:Value) (f:Addr) (A:Around) (outer:List Env) (s:Shared) (H:Hp) (vs:List V) (Q:VK) (E:XK),ZaN k (A.deeper (envOfC qual (Zf st) s.heap.objs.size f cdv))→sp vs H Q E →
   ∃t,PSs (Zix CX0 P w K mg base N qual (Zf st) f cdv A outer s H E).nox (Zl st) t∧t { nx:=fun _ H'=>Q .non H',rt:=Q } (ZdS N vs) H):Mf P w K mg base (k+1) C m ps sp:=by
 obtain⟨f,fd,F,m,b⟩:=T.ex
 exact⟨f,fd,F.ok S len (fun cdv A outer s H vs Q E hr h=>hbody cdv f A outer s H vs Q E hr h),m,b⟩
theorem Zp7.cf{C:Addr}{x qual:Str}{st:Stmt}{N ps:List Str}{k:Nat}{sp:Sp}(T:Zp7 K mg C x qual st ps)(S:Zq N ps (Zf st))(len:∀vs H Q E,sp vs H Q E→vs.length=ps.length)
  (hbody:∀ (cdv:Value) (f:Addr) (A:Around) (outer:List Env) (s:Shared) (H:Hp) (vs:List V) (Q:VK) (E:XK),ZaN k (A.deeper (envOfC qual (Zf st) s.heap.objs.size f cdv))→sp vs H Q E →
   ∃t,PSs (Zix CX0 P w K mg base N qual (Zf st) f cdv A outer s H E).nox (Zl st) t∧t { nx:=fun _ H'=>Q .non H',rt:=Q } (ZdS N vs) H):Cf P w K mg base (k+1) C x ps sp:=by
 obtain⟨f,fd,F,m,b,g⟩:=T.ex
 exact⟨f,fd,F.ok S len (fun cdv A outer s H vs Q E hr h=>hbody cdv f A outer s H vs Q E hr h),m,b,g⟩
end
section
variable {X:Cx} {k j:Nat} {C:Addr} {m x:Str} {ps:List Str} {sp:Sp} {o e:Expr} {es:List Expr} {ta:TE} {t:TA} {p apos pos:Pos} {pl:Sem Bool}
theorem ZfB(F:Mf X.prog X.w X.K X.mg X.base k C m ps sp)(c:Cls X.K C)(hr:ZaN j X.A)(he:PE X o ta)(ha:PA X (e::es) t)(hjk:k≤j:=by decide)
  (hst:starEach (e::es) X.env=(false,eval e X.env)::starEach es X.env:=by rfl) (hpl:(backTo pos (starEach es X.env)).any (·.1)=false:=by rfl)
  (ht:eval (.Call (.Attribute o m apos) (e::es) [] pos) X.env=(do
   let ov ← eval o X.env
   standAt apos.atName
   let (f,first) ← holding [ov] (getMethod ov m pl)
   callWith pos f first (backTo pos (starEach (e::es) X.env)) (backToKw pos (keywordEach [] X.env))):=by rfl) :
  PE X (.Call (.Attribute o m apos) (e::es) [] pos) (Zk4 C m sp [] E0 ta t):=by
 obtain⟨f,fd,F,g,b⟩:=F.ex
 exact Zpa he c g F (hr.mono hjk) b .nil ZkV ha hst hpl ht
theorem Zde(F:Mf X.prog X.w X.K X.mg X.base k C m ps sp)(c:Cls X.K C)(hr:ZaN j X.A)(he:PE X o ta)(hjk:k≤j:=by decide)
  (ht:eval (.Call (.Attribute o m apos) [] [] pos) X.env=(do
   let ov ← eval o X.env
   standAt apos.atName
   let (f,first) ← holding [ov] (getMethod ov m pl)
   callWith pos f first (backTo pos (starEach [] X.env)) (backToKw pos (keywordEach [] X.env))):=by rfl) :
  PE X (.Call (.Attribute o m apos) [] [] pos) (Zk4 C m sp [] E0 ta ZrQ):=by
 obtain⟨f,fd,F,g,b⟩:=F.ex
 exact Zno he c g F (hr.mono hjk) b .nil ZkV ht
theorem Zqr(F:Cf X.prog X.w X.K X.mg X.base k C x ps sp)(hr:ZaN j X.A)(ha:PA X (e::es) t)(hjk:k+1≤j:=by decide)(hg:Gl X x:=by rfl)(hdb:(x == ("__debug__" : Str))=false:=by decide)
  (he:starEach (e::es) X.env=(false,eval e X.env)::starEach es X.env:=by rfl) (hpl:(backTo pos (starEach es X.env)).any (·.1)=false:=by rfl) :
  PE X (.Call (.Name x p) (e::es) [] pos) (Zqg C sp [] E0 t):=by
 obtain⟨f,fd,F,g,b,gm⟩:=F.ex
 exact Zo9 g F (hr.mono hjk) hg gm b .nil ZkV ha hdb he hpl
end
section
variable {X:Cx} {pins:List (Addr×Obj)} {σ:St} {H:Hp} {s:Shared} {d:Addr} {o:Obj} {u:HO}
end
theorem Zpy{P:Program}{w:World}{k:Key}{v:Value}(h:(ZO P w).is k v=true):ZG (kV k) v:=by
 rw[ZkG]at h
 rcases Zas h with⟨i,t,rfl,rfl⟩|⟨x,t,rfl,rfl⟩
 ·exact⟨t,rfl⟩
 ·exact⟨t,rfl⟩
noncomputable def ZoC:List V→Hp→VK→Prop:=fun xs H Q=>∃d kvs,xs=[.ref d]∧H d=some (.dK kvs)∧∀l,H l=none→Q (.ref l) (upd H l (.lst (kvs.map fun kv=>kV kv.1)))
theorem Zmw{P:Program}{w:World}:∀ (kvs:List (Key×V)) (vs:List (Key×Value)) (us:List Value),KV kvs vs→us.length=vs.length→(∀ (j:Nat) (v:Value),us[j]? = some v→∃k x,vs[j]? = some (k,x)∧(ZO P w).is k v=true)→Zw (kvs.map fun kv=>kV kv.1) us:=by
 intro kvs vs us r
 unfold KV at r
 induction r generalizing us with
 | nil =>
  intro hl _
  cases us with
  | nil=>exact .nil
  | cons a b=>simp at hl
 | @cons p q ps qs h t ih =>
  intro hl hp
  cases us with
  | nil=>simp at hl
  | cons a b =>
   obtain⟨k,x,e,hk⟩:=hp 0 a rfl
   have e':q=(k,x):=by simpa using e
   rw[Ql]
   refine .cons ?_ (ih b (by simpa using hl) fun j v hv=>?_)
   ·rw[h.1,e'];exact Zpy hk
   ·simpa using hp (j+1) v (by simpa using hv)
theorem Zj8{X:Cx}(hc:X.calm=true):Zae X (.type "list") ZoC:=by
 intro pins s σ H xs us Q I r h
 obtain⟨d,kvs,rfl,hd,q⟩:=h
 obtain⟨u,rfl,ru⟩:=ZbJ r
 cases ru
 obtain⟨z,lo,vs,rel,dd⟩:=(show Zap X.prog X.w H s.heap d (.dK kvs) from I.hok d _ hd)
 obtain⟨ep,da⟩:=dd.dictAt
 have hl:kvs.length=vs.length:=rel.length
 refine PySem.W.kdl_call (PySem.W.kdl_dict lo) (I.ok.hd hc) da (by omega) fun h' tk acc c hk hD hacc=>?_
 have hv:Zw (kvs.map fun kv=>kV kv.1) acc.toList:=Zmw (P:=X.prog) (w:=X.w) kvs vs acc.toList rel (by rw[QaJ];exact hacc.1) fun j v e=>hacc.2 j v (by rw[← Array.getElem?_toList];exact e)
 refine⟨.ref s.heap.objs.size,_,I.laid (a:=s.heap.objs.size) (o:=.lst (kvs.map fun kv=>kV kv.1)) (t':=tk) hk (Qg _) ?_,rfl,q _ (I.hok.fresh (Qg _))⟩
 exact⟨by rw[Qa];exact z,acc.toList,c,hv,by simpa using hD⟩
end L2
namespace L2
open PySem PySem.Spec PyProof.Rows
end L2
namespace L2
open PySem PySem.Spec PyProof.Rows
section
variable {X:Cx} {N N':List Str} {o c:Scope}
end
section
variable {X:Cx}
end
section
variable {prog:Program} {w:World} {A:Around} {R:Result→Shared→Prop} {I:Addr} {fp wr:List Addr} {G:Array GenState→Array GenState→Prop} {n:Nat} {P:Nat→Value→Prop} {St:Nat→Shared→Prop} {K:Type} [DecidableEq K] {knd:KeyKind prog w K}
end
section
variable {prog:Program} {w:World} {A:Around} {E:Value→Shared→Prop} {s:Shared} {K:Type} [DecidableEq K] {knd:KeyKind prog w K}
end
noncomputable def Zto:R2:=fun x y H Q=>∃a v,x=.ref a∧Zdv H a y (some v)∧Q v H
section
variable {X:Cx} {k:Nat}
noncomputable def Zsy:ZmC:=fun o i v H Q=>∃a H',o=.ref a∧ZgD H a i v H'∧Q H'
theorem Zou(hr:ZaN k X.A):Zn5 X Zsy:=by
 intro pins s σ H o i v ov iv u Q I ro ri rv h
 obtain⟨a,H',rfl,g,q⟩:=h
 cases ro
 exact Zmj (ZnP hr) I g ri rv fun s4 I4=>⟨H',I4,q⟩
theorem ZkF{prog:Program}{w:World}{A:Around}{E:Value→Shared→Prop}{s:Shared}{value slice:Expr}{o i:Value}{T id:String}{Q:Value→Shared→Prop}(hT:s.TypeIs o T)
  (hl:typeLookup (.type T) "__getitem__" = pure (some (.builtin id))) (hs:subscripted slice false o i=operate [o,i] (getItem o i)) (h:wpAny (model prog w) A (getItem o i) Q E s) :
  wpAny (model prog w) A (subscriptTail value slice o i) Q E s:=by
 unfold subscriptTail
 refine wpAny_bind ?_
 rw[getitemInPython_of_ne hT.not_modules]
 refine wpAny_bind (wpAny_specialOf hT hl ?_)
 have fin:wpAny (model prog w) A (subscripted slice false o i) (fun r s₃=>wpAny (model prog w) A (letTemporaryGo value o r >>= fun _=>pure r) Q E s₃) E s:=by
  rw[hs]
  exact wpAny_operating (wpAny_mono h (fun r s₃ h₃=>wpAny_bind (wpAny_letTemporaryGo (wpAny_pure h₃))) fun _ _ x=>x)
 first
  | exact wpAny_pure (wpAny_bind fin)
  | exact wpAny_bind (wpAny_pure (wpAny_bind fin))
  | exact wpAny_bind fin
theorem ixG(hr:ZaN k X.A):IxR X Zto:=by
 intro value slice pins s σ H x y v u Q I rx ry h hs
 obtain⟨a,z,rfl,g,q⟩:=h
 cases rx
 exact ZkF (Zjm I g) PySem.F.slot_dict_getitem.lookup hs (ZlJ (ZnP hr) I g ry fun w' s' I' rw'=>⟨z,H,I',rw',q⟩)
theorem Ztm:Zae X (.builtin "len") (fun xs H Q=>∃a kvs,xs=[V.ref a]∧H a=some (.dK kvs)∧Q (.int kvs.length) H):=Zl6
theorem ZsD(hc:X.calm=true:=by rfl):Zae X (.type "list") ZoC:=Zj8 hc
end
mutual
inductive DH (H:Hp):V→PyData→Prop where
 | non:DH H .non .none
 | bl (b:Bool):DH H (.bl b) (.bool b)
 | int (i:Int):DH H (.int i) (.int i)
 | str (s:Str):DH H (.str s) (.str s)
 | lst {a:Addr} {xs:List V} {ds:List PyData}:H a=some (.lst xs)→DHs H xs ds→DH H (.ref a) (.list ds)
 | tup {a:Addr} {xs:List V} {ds:List PyData}:H a=some (.tup xs)→DHs H xs ds→DH H (.ref a) (.tuple ds)
inductive DHs (H:Hp):List V→List PyData→Prop where
 | nil:DHs H [] []
 | cons {x:V} {d:PyData} {xs:List V} {ds:List PyData}:DH H x d→DHs H xs ds→DHs H (x::xs) (d::ds)
end
mutual
theorem DH.mono{H H':Hp}(s:ZC H H'):∀ {x:V} {d:PyData},DH H x d→DH H' x d
 | _,_,.non=>.non
 | _,_,.bl b=>.bl b
 | _,_,.int i=>.int i
 | _,_,.str z=>.str z
 | _,_,.lst h hs=>.lst (s _ _ h) (DHs.mono s hs)
 | _,_,.tup h hs=>.tup (s _ _ h) (DHs.mono s hs)
theorem DHs.mono{H H':Hp}(s:ZC H H'):∀ {xs:List V} {ds:List PyData},DHs H xs ds→DHs H' xs ds
 | _,_,.nil=>.nil
 | _,_,.cons h hs=>.cons (DH.mono s h) (DHs.mono s hs)
end
mutual
theorem DH.dv{K:PySem.W.Frag}{H:Hp}:∀ {x:V} {d:PyData},DH H x d→DV K H x d
 | _,_,.non=>.non
 | _,_,.bl b=>.bl b
 | _,_,.int i=>.int i
 | _,_,.str z=>.str z
 | _,_,.lst h hs=>.lst (SqL.of h) (DHs.dv hs)
 | _,_,.tup h hs=>.tup (SqT.of h) (DHs.dv hs)
theorem DHs.dv{K:PySem.W.Frag}{H:Hp}:∀ {xs:List V} {ds:List PyData},DHs H xs ds→DVs K H xs ds
 | _,_,.nil=>.nil
 | _,_,.cons h hs=>.cons (DH.dv h) (DHs.dv hs)
end
section
open PySem.W
end
theorem ZdA:∀ {a b:List Int},a.Nodup→(∀x∈a,x∈b)→b.length≤a.length→a.Perm b
 | [],b,_,_,l=>by
  have:b=[]:=List.length_eq_zero_iff.mp (by simpa using l)
  rw[this]
 | x::r,b,na,h,l=>by
  obtain⟨n1,n2⟩:=QY.mp na
  have hx:=h x (by simp)
  have hp:=List.perm_cons_erase hx
  refine(List.Perm.cons x (ZdA n2 (fun y hy=>?_) ?_)).trans hp.symm
  ·have nyx:y≠x:=fun e=>n1 (by rw[← e];exact hy)
   exact(QaB nyx).mpr (h y (Qu _ hy))
  ·rw[Qac hx]
   simp only[List.length_cons]at l
   omega
theorem Zkz{a b:List Int}(ha:a.Pairwise (·≤·))(hb:b.Pairwise (·≤·))(p:a.Perm b):a=b:=QaL (fun x y _ _ h1 h2=>by omega) ha hb p
theorem ZmY{kvs:List (Key×V)}{k:Key}{v:V}(h:ZcH kvs k=some v):(k,v)∈kvs:=by
 unfold ZcH at h
 obtain⟨p,hp,rfl⟩:=QaQ.mp h
 have h1:=List.find?_some hp
 have h2:=List.mem_of_find?_eq_some hp
 have:p.1=k:=by simpa using h1
 rw[← this];exact h2
theorem ZjN{kvs:List (Key×V)}(hn:(kvs.map (·.1)).Nodup){k:Key}{v:V}(h:(k,v)∈kvs):ZcH kvs k=some v:=by
 induction kvs with
 | nil=>cases h
 | cons p r ih =>
  obtain⟨n1,n2⟩:=QY.mp (by simpa using hn:(p.1::r.map (·.1)).Nodup)
  rcases QK.mp h with rfl|h
  ·exact ZdY rfl
  ·rw[ZdU fun e=>n1 (e ▸ Qp (f:=(·.1)) h)]
   exact ih n2 h
end L2
namespace L2
open PySem PySem.Spec PyProof.Rows
noncomputable def off(p:Addr)(H:Hp):Hp:=fun b=>if b=p then none else H b
section
variable {prog:Program} {w:World} {A:Around} {R:Result→Shared→Prop} {I:Addr} {fp wr:List Addr} {G:Array GenState→Array GenState→Prop} {n:Nat} {P:Nat→Value→Prop} {St:Nat→Shared→Prop} {K:Type} [DecidableEq K] {knd:KeyKind prog w K}
end
theorem Zpe{X:Cx}{s:Stmt}:PS X s (fun _ _ _=>False):=fun pins s' σ H D I h=>h.elim
theorem Zrv{X:Cx}{k:Nat}{o e:Expr}{td ty:TE}{apos cpos:Pos}(hr:ZaN k X.A)(ho:PE X o td)(he:PE X e ty)(hb:attributeBase o "get" X.env (eval o X.env)=eval o X.env:=by rfl)
  (hl:(apos.endLine == cpos.line)=true:=by rfl) (ht:backTo cpos (starEach [e] X.env)=[(false,eval e X.env)]:=by rfl):PE X (.Call (.Attribute o "get" apos) [e] [] cpos) (Zm8 td ty):=by
 refine ZmG (ZnP hr) ho he ⟨hb,?_,hl,ht⟩
 rw[ht];rfl
section
variable {prog:Program} {w:World} {A:Around} {E:Value→Shared→Prop} {s:Shared} {l:Addr} {xs:Array (Int×Tok)}
end
section
variable {X:Cx}
end
section
variable {X:Cx}
end
noncomputable def Ztq(t u:TS):TS:=fun D σ H=>∃M:St→Hp→Prop,t { D with nx:=M } σ H∧∀σ' H',M σ' H'→u D σ' H'
theorem ZpG{X:Cx}{st:Stmt}{rest:List Stmt}{t u:TS}(h1:PS X st t)(h2:PSs X rest u):PSs X (st::rest) (Ztq t u):=by
 intro pins s σ H D I h
 obtain⟨M,h,hm⟩:=h
 refine wpAny_execs_cons (thn (h1 pins s σ H { D with nx:=M } I h) fun f s1 q=>?_)
 cases f with
 | next =>
  obtain⟨σ',H',I',q⟩:=q
  exact h2 pins s1 σ' H' D I' (hm σ' H' q)
 | ret v=>exact q
 | brk=>exact q
 | cont=>exact q
section
variable {prog:Program} {w:World} {A:Around} {E:Value→Shared→Prop} {s:Shared} {K:Type} [DecidableEq K] {knd:KeyKind prog w K}
end
section
variable {prog:Program} {w:World} {A:Around} {E:Value→Shared→Prop} {s:Shared} {K:Type} [DecidableEq K] {knd:HeapKind prog w K}
end
noncomputable def apart:List Int→Bool
 | []=>true
 | x::r=>r.all (fun y=>x != y)&&apart r
theorem ZaJ:∀ (names:List (Str×NameKind)) (n:Nat) (acc:List (Str×Addr)),cellsFrom n names acc=cellsFrom n names []++acc
 | [],_,_=>rfl
 | (x,k)::r,n,acc=>by
  unfold cellsFrom
  split
  ·rw[ZaJ r (n+1) ((x,n)::acc),ZaJ r (n+1) [(x,n)],Q6];rfl
  ·exact ZaJ r n acc
theorem ZbW:∀ (names:List (Str×NameKind)) (n:Nat) (x:Str) (a:Addr),(x,a)∈cellsFrom n names []→(x,NameKind.cell)∈names
 | [],_,_,_,h=>absurd h (by simp[cellsFrom])
 | (y,k)::r,n,x,a,h=>by
  unfold cellsFrom at h
  split at h
  ·rename_i hk
   rw[ZaJ]at h
   rcases Qh.mp h with q|q
   ·exact Qu _ (ZbW r _ x a q)
   ·have:(x,a)=(y,n):=by simpa using q
    cases this
    have hk':k=.cell:=by simpa using hk
    rw[hk'];exact Q1
  ·exact Qu _ (ZbW r _ x a h)
theorem Zh4{M:Model}{A:Around}{E:Value→Shared→Prop}{s:Shared}{scope:Scope}{g:Addr}{cl:List (Str×Addr)}{qual:Str}{env:Env}{Q:Env→Shared→Prop}
  (hQ:Q { scope:=scope,locals:=s.heap.objs.size,globals:=g,cells:=cellsFrom (s.heap.objs.size+1) scope.names cl,qual:=qual,func:=none,code:=env.code,frame:=env.frame,builtins:=env.builtins }
   { s with heap:=pushCells (s.heap.push { cls:=.type "dict",data:=.dict #[] }) scope.names }) :
  wpAny M A (newFunctionEnv scope g cl [] qual none .none (some env)) Q E s:=by
 simp only[newFunctionEnv,Option.isSome_some,if_true]
 refine wpAny_bind (wpAny_alloc ?_)
 refine wpAny_bind (wpAny_layCells _ (fun name kind cells=>by cases hkc:kind == NameKind.cell<;>simp[hkc]) _ _ _ _ ?_)
 rw[show ({ s with heap:=s.heap.push { cls:=.type "dict",data:=.dict #[] } }:Shared).heap.objs.size=s.heap.objs.size+1 from QaA ..]
 refine wpAny_bind ?_
 rw[List.forIn_nil]
 exact wpAny_pure (wpAny_pure hQ)
structure ZE (N N':List Str) (o c:Scope):Prop where
 kind:c.kind=.function
 okind:o.kind=.function
 cel:∀y∈c.names,y.2=.cell→c.names.lookup y.1=some .cell
 loc:∀y∈c.names,y.2=.local→c.names.lookup y.1=some .local
 free:∀y∈c.names,y.2=.free→c.names.lookup y.1=some .free∧(o.names.lookup y.1=some .cell∨o.names.lookup y.1=some .free)
 len:N.length≤N'.length
 same:∀i∈List.range N.length,∀x∈N'[i]?,c.names.lookup x=some .local∨c.names.lookup x=some .free∨c.names.lookup x=some .cell→c.names.lookup x=some .free∧N[i]? = some x
 nd:N'.Nodup
noncomputable def Zcb(X:Cx)(c:Scope)(C:Addr):List (Str×Addr):=cellsFrom (C+1) c.names (Zct X.env.cells c.names [])
noncomputable def Z5(X:Cx)(c:Scope)(N':List Str)(C:Addr)(s:Shared)(H:Hp)(fp:List Addr):Cx :=
 { X with N:=N',s₀:=s,H₀:=H,env:=compEnvC c (Zcb X c C) C X.env,outer:=X.stack,stack:=X.stack,ex:=fp,fn:=fun x=>c.names.lookup x == some .cell,pn:=[],xe:=fun _ _=>False }
section
variable {X:Cx} {N N':List Str} {o c:Scope}
theorem ZbN(S:ZE N N' o c)(ho:X.env.scope=o)(cl:List (Str×Addr))(C:Addr)(x:Str):(compEnvC c cl C X.env).kindOf x =
  match c.names.lookup x with
  | some .free=>if X.env.kindOf x=some .cell then some .cell else some .free
  | k=>k:=ZdH (env:=X.env) (by rw[ho];exact S.okind) c.names x
theorem ZgC(S:ZE N N' o c)(ho:X.env.scope=o)(ok:X.Ok){x:Str}{a:Addr}(h:(Zct X.env.cells c.names []).lookup x=some a) :
  X.env.cells.lookup x=some a∧c.names.lookup x=some .free:=by
 rcases ZdP _ _ _ _ _ h with⟨y,hy,rfl,hf,e⟩|q
 ·have hk:=S.free y hy hf
  have hv:X.env.kindOf y.1=some .cell∨X.env.kindOf y.1=some .free:=by
   show X.env.scope.names.lookup y.1=_∨X.env.scope.names.lookup y.1=_
   rw[ho];exact hk.2
  obtain⟨b,hb⟩:=ok.has y.1 hv
  rw[hb]at e
  exact⟨by rw[hb,e];rfl,hk.1⟩
 ·cases q
theorem ZbP(S:ZE N N' o c)(ho:X.env.scope=o)(ok:X.Ok){C:Addr}{x:Str}{a:Addr}(h:(Zcb X c C).lookup x=some a) :
  ((x,a)∈cellsFrom (C+1) c.names []∧c.names.lookup x=some .cell)∨(X.env.cells.lookup x=some a∧c.names.lookup x=some .free):=by
 unfold Zcb at h
 rw[ZaJ,List.lookup_append]at h
 cases q:(cellsFrom (C+1) c.names []).lookup x with
 | none=>rw[q]at h;exact .inr (ZgC S ho ok h)
 | some b =>
  rw[q]at h
  have h:some b=some a:=h
  cases h
  have m:=Qab q
  exact .inl ⟨m,S.cel _ (ZbW _ _ _ _ m) rfl⟩
theorem ZhG(S:ZE N N' o c)(ho:X.env.scope=o)(ok:X.Ok)(C:Addr){x:Str}(h:c.names.lookup x=some .free):∃a,(Zcb X c C).lookup x=some a∧X.env.cells.lookup x=some a:=by
 obtain⟨a,ha⟩:=ZfU X.env.cells c.names [] x (.inl ⟨(x,.free),Zgd h,rfl,rfl⟩)
 refine⟨a,?_,(ZgC S ho ok ha).1⟩
 unfold Zcb
 rw[ZaJ,List.lookup_append]
 cases q:(cellsFrom (C+1) c.names []).lookup x with
 | none=>exact ha
 | some b=>have:=S.cel _ (ZbW _ _ _ _ (Qab q)) rfl;rw[show c.names.lookup x=_ from h]at this;cases this
theorem ZlL(C:Addr){x:Str}(h:c.names.lookup x=some .cell):∃a,(Zcb X c C).lookup x=some a:=by
 obtain⟨a,ha⟩:=ZgJ (n:=C+1) h
 refine⟨a,?_⟩
 unfold Zcb
 rw[ZaJ,List.lookup_append,ha];rfl
theorem Zib(h:Heap)(c:Scope):CellsOk (pushCells (h.push { cls:=.type "dict",data:=.dict #[] }) c.names) (h.objs.size+1) (cellsFrom (h.objs.size+1) c.names []):=by
 have ok:=cellsFrom_ok c.names (h.push { cls:=.type "dict",data:=.dict #[] }) (h.objs.size+1) [] ⟨fun _ _ hm=>(nomatch hm),List.Pairwise.nil⟩ (by rw[QaA];exact Qg _)
 rw[QaA]at ok
 exact ok
theorem ZnH(S:ZE N N' o c)(ho:X.env.scope=o){pins:List (Addr×Obj)}{σ:St}{H:Hp}{s:Shared}{fp:List Addr}(I:Inv X pins σ H s)
  (hf:∀b∈fp,ZfW X pins H b) (ht:∀b∈fp,b<s.heap.objs.size):(Z5 X c N' s.heap.objs.size s H fp).Ok where
 mod:=I.ok.mod
 kind:=S.kind
 glob:=I.ok.glob
 blt:=I.ok.blt
 above:=Qg _
 inj:=fun x y a h1 h2=>by
  have ow:=Zib s.heap c
  have old:∀z,X.env.cells.lookup z=some a→a<s.heap.objs.size:=fun z hz=>by
   obtain⟨v,ob,e,_⟩:=I.cell z a hz
   exact Qz e
  rcases ZbP S ho I.ok h1 with⟨q1,_⟩|⟨q1,_⟩<;>rcases ZbP S ho I.ok h2 with⟨q2,_⟩|⟨q2,_⟩
  ·exact name_of_addr ow.apart q1 q2
  ·exact absurd (old _ q2) (Nat.not_lt.mpr (QJ (Q4 _) (ow.empty _ _ q1).2))
  ·exact absurd (old _ q1) (Nat.not_lt.mpr (QJ (Q4 _) (ow.empty _ _ q2).2))
  ·exact I.ok.inj x y a q1 q2
 has:=fun x hx=>by
  have e:=ZbN (X:=X) S ho (Zcb X c s.heap.objs.size) s.heap.objs.size x
  have hx':(compEnvC c (Zcb X c s.heap.objs.size) s.heap.objs.size X.env).kindOf x=some .cell∨(compEnvC c (Zcb X c s.heap.objs.size) s.heap.objs.size X.env).kindOf x=some .free:=hx
  rw[e]at hx'
  cases q:c.names.lookup x with
  | none=>rw[q]at hx';rcases hx' with z|z<;>cases z
  | some k =>
   by_cases hk:k=.free
   ·subst hk
    obtain⟨a,ha,_⟩:=ZhG S ho I.ok s.heap.objs.size q
    exact⟨a,ha⟩
   ·rw[q]at hx'
    have hc:k=.cell:=by
     cases k<;>first|rfl|exact absurd rfl hk|(rcases hx' with z|z<;>cases z)
    subst hc
    exact ZlL s.heap.objs.size q
 cab:=fun x a h h'=>by
  have h:(c.names.lookup x == some NameKind.cell)=true:=h
  have h:c.names.lookup x=some .cell:=by simpa using h
  rcases ZbP S ho I.ok h' with⟨q,_⟩|⟨_,q⟩
  ·exact QJ (Q4 _) ((Zib s.heap c).empty _ _ q).2
  ·rw[h]at q;cases q
 hd:=I.ok.hd
 frames:=I.ok.frames
 stk:=.inl rfl
 exf:=fun b hb=>⟨QV (ht b hb),fun x a h=>by
  rcases ZbP S ho I.ok h with⟨q,_⟩|⟨q,_⟩
  ·exact QaP (QF (ht b hb) (QJ (Q4 _) ((Zib s.heap c).empty _ _ q).2))
  ·exact(hf b hb).2.2.2.2.1 x a q⟩
 bs:=fun b ob e=>I.bs b ob e
 bsz:=QJ I.ok.bsz I.sz
 noex:=fun b ob e hb=>by
  rcases(hf b hb).2.2.2.1 with z|z
  ·exact I.ok.noex b ob e z
  ·exact absurd (QF (Qz e) (QJ I.ok.bsz z)) (Qas _)
 exfs:=fun b hb hb'=>by
  rcases QK.mp (I.stkSub b hb') with z|z
  ·exact(hf b hb).2.1 z
  ·exact(hf b hb).2.2.1 z
 funs:=I.stack
 frf:=I.stkFree
theorem Zmr(S:ZE N N' o c)(hN:X.N=N)(ho:X.env.scope=o){pins:List (Addr×Obj)}{σ:St}{H:Hp}{s:Shared}{fp:List Addr}{h₁:Heap}{tk:Nat}{m₀:Str→Option Value}(I:Inv X pins σ H s)
  (hf:∀b∈fp,ZfW X pins H b) (ht:∀b∈fp,b<s.heap.objs.size) (hns:h₁.Ns s.heap.objs.size m₀) (hk:∀b ob,s.heap.get? b=some ob→h₁.get? b=some ob)
  (ow:CellsOk h₁ (s.heap.objs.size+1) (cellsFrom (s.heap.objs.size+1) c.names [])) :
  Inv (Z5 X c N' s.heap.objs.size s H fp) [] (σ++List.replicate (N'.length-N.length) none) H { s with heap:=h₁,toks:=tk } where
 ok:=ZnH S ho I hf ht
 os:=rfl
 bare:=I.bare
 base:=Un.kept hk
 loc:=by
  refine⟨m₀,hns,fun i x v e1 e2 e3=>?_⟩
  obtain⟨m,hn,hl⟩:=I.loc
  have hlen:σ.length=N.length:=by rw[I.len,hN]
  have hi:i<σ.length:=by
   by_cases hi:i<σ.length
   ·exact hi
   ·rw[QW (by omega),List.getElem?_replicate]at e2
    split at e2<;>cases e2
  have e2':σ[i]? = some (some v):=by rw[QX hi]at e2;exact e2
  have kd:=ZbN (X:=X) S ho (Zcb X c s.heap.objs.size) s.heap.objs.size x
  have vis:c.names.lookup x=some .local∨c.names.lookup x=some .free∨c.names.lookup x=some .cell:=by
   have e3':(compEnvC c (Zcb X c s.heap.objs.size) s.heap.objs.size X.env).kindOf x=some .local∨(compEnvC c (Zcb X c s.heap.objs.size) s.heap.objs.size X.env).kindOf x=some .cell∨(compEnvC c (Zcb X c s.heap.objs.size) s.heap.objs.size X.env).kindOf x=some .free:=e3
   rw[kd]at e3'
   cases q:c.names.lookup x with
   | none=>rw[q]at e3';rcases e3' with z|z|z<;>cases z
   | some k =>
    cases k with
    | «local»=>exact .inl rfl
    | free=>exact .inr (.inl rfl)
    | cell=>exact .inr (.inr rfl)
    | _=>rw[q]at e3';rcases e3' with z|z|z<;>cases z
  obtain⟨hfr,hNi⟩:=S.same i (QU.mpr (by omega)) x (by rw[show N'[i]? = some x from e1];rfl) vis
  have hok:X.env.kindOf x=some .cell∨X.env.kindOf x=some .free:=by
   show X.env.scope.names.lookup x=_∨X.env.scope.names.lookup x=_
   rw[ho];exact(S.free _ (Zgd hfr) rfl).2
  obtain⟨u,r,l⟩:=hl i x v (by rw[hN];exact hNi) e2' (.inr hok)
  refine⟨u,r,.inr ⟨?_,?_⟩⟩
  ·show (compEnvC c (Zcb X c s.heap.objs.size) s.heap.objs.size X.env).kindOf x=some .cell∨(compEnvC c (Zcb X c s.heap.objs.size) s.heap.objs.size X.env).kindOf x=some .free
   rw[kd,hfr]
   show (if X.env.kindOf x=some .cell then some NameKind.cell else some NameKind.free)=some .cell∨(if X.env.kindOf x=some .cell then some NameKind.cell else some NameKind.free)=some .free
   by_cases q:X.env.kindOf x=some .cell
   ·rw[if_pos q];exact .inl rfl
   ·rw[if_neg q];exact .inr rfl
  ·obtain⟨a,ha,ha'⟩:=ZhG S ho I.ok s.heap.objs.size hfr
   refine⟨a,ha,?_⟩
   rcases l with⟨z,_⟩|⟨_,a',e,ob,hob,hd⟩
   ·rcases hok with q|q<;>rw[q]at z<;>cases z
   ·rw[ha']at e;cases e
    exact⟨ob,hk _ _ hob,hd⟩
 cell:=fun x a h=>by
  rcases ZbP S ho I.ok h with⟨q,_⟩|⟨q,_⟩
  ·exact⟨_,(ow.empty _ _ q).1⟩
  ·obtain⟨v,ob,e,d⟩:=I.cell x a q
   exact⟨v,ob,hk _ _ e,d⟩
 free:=I.hok.fresh (Qg _)
 freeC:=fun x a h=>by
  rcases ZbP S ho I.ok h with⟨q,_⟩|⟨q,_⟩
  ·exact I.hok.fresh (QJ (Q4 _) (ow.empty _ _ q).2)
  ·exact I.freeC x a q
 pin:=fun p hp=>absurd (show p∈([]:List (Addr×Obj)) from hp) (by simp)
 hok:=I.hok.kept hk
 len:=by
  have hlen:σ.length=N.length:=by rw[I.len,hN]
  have:=S.len
  show (σ++List.replicate (N'.length-N.length) none).length=N'.length
  rw[Qe,List.length_replicate]
  omega
theorem Zhr{elt tg iter:Expr}{ifs:List Expr}{pos pos':Pos}{wi:TI}{g:TG}{tc:TT}{te:TE}{use:Option (Value→Sem Unit)}{QQ:Value→Shared→Prop}(S:ZE N N' o c)(hN:X.N=N)(ho:X.env.scope=o)(hc:X.calm=true)
  (hi:PI X tg iter wi) (hg:∀C s H fp,PG (Z5 X c N' C s H fp) tg g) (ht:∀C s H fp,PTs (Z5 X c N' C s H fp) ifs tc) (he:∀C s H fp,PE (Z5 X c N' C s H fp) elt te)
  (hs:∀x,foldedSetIterable iter X.env x=pure x) {pins:List (Addr×Obj)} {s:Shared} {σ:St} {H:Hp} {Q:VK} (I:Inv X pins σ H s) (h:Znr (N'.length-N.length) wi g tc te σ H Q)
  (post:∀ (D C:Addr) (s5:Shared) (H5:Hp) (m:Str→Option Value),Inv X pins σ H5 s5→H5 C=none→s5.heap.Ns C m→C≠X.env.locals→X.s₀.heap.objs.size≤C→(∀x a,X.env.cells.lookup x=some a→a≠C)→(∀p∈X.pn++pins,p.1≠C) →
   Q (.ref D) H5→compPost (model X.prog X.w) X.A X.xe use QQ (.ref D) C (.ok .next) s5) :
  wpAny (model X.prog X.w) X.A (comprehension (.ListComp elt [⟨tg,iter,ifs,0⟩] c pos) c X.env pos' (newList []) false (eval iter X.env) use) QQ X.xe s:=by
 have hclos:closureFor c X.env=pure (Zct X.env.cells c.names []):=Zg1 fun y hy hf=>by
  refine I.ok.has y.1 ?_
  show X.env.scope.names.lookup y.1=_∨X.env.scope.names.lookup y.1=_
  rw[ho];exact(S.free y hy hf).2
 refine wpAny_comprehension_free (use:=use) rfl hs hclos S.kind S.loc (thn (hi pins s σ H _ I h) fun v s1 h1=>thn h1 fun itv s2 h2=>?_)
 obtain⟨it,fp,tn,J,H2,e,I2,T,st2,f2,hR⟩:=h2
 subst e
 have hD:H2 s2.heap.objs.size=none:=I2.fresh
 have I3:Inv X pins σ (upd H2 s2.heap.objs.size (.lst [])) { s2 with heap:=s2.heap.push { cls:=.type "list",data:=.seq ([]:List Value).toArray } } :=
  I2.lnew (ys:=[]) (its:=[]) (t':=s2.toks) .nil (Qv _)
 have fpl:∀b∈fp,b<s2.heap.objs.size:=fun b hb=>by
  obtain⟨ob,e,_⟩:=T.obj 0 _ st2 b hb
  exact Qz e
 refine wpAny_newObj_type (Zh4 ?_)
 have e3:∃s3:Shared,s3={ s2 with heap:=s2.heap.push { cls:=.type "list",data:=.seq ([]:List Value).toArray } }:=⟨_,rfl⟩
 obtain⟨s3,hs3⟩:=e3
 have e3:s3.heap=s2.heap.push { cls:=.type "list",data:=.seq ([]:List Value).toArray }:=by rw[hs3]
 have sz3:s3.heap.objs.size=s2.heap.objs.size+1:=by rw[e3,QaA]
 have fpl3:∀b∈fp,b<s3.heap.objs.size:=fun b hb=>QF (fpl b hb) (by rw[sz3];exact Q4 _)
 have f3:∀b∈fp,ZfW X pins (upd H2 s2.heap.objs.size (.lst [])) b:=fun b hb=>⟨by rw[Ze (QV (fpl b hb))];exact(f2 b hb).1,(f2 b hb).2⟩
 have st3:tn 0 s3.heap:=T.keep 0 _ _ st2 fun b _ ob e=>by rw[e3];exact Qj _ e
 rw[← hs3]at I3
 show codeAny (model X.prog X.w) X.A (.compStart _ 0 (.ref it) (.ref s2.heap.objs.size) (compEnvC c (Zcb X c (s2.heap.push { cls:=.type "list",data:=.seq ([]:List Value).toArray }).objs.size) (s2.heap.push { cls:=.type "list",data:=.seq ([]:List Value).toArray }).objs.size X.env))
  (compPost (model X.prog X.w) X.A X.xe use QQ (.ref s2.heap.objs.size) (s2.heap.push { cls:=.type "list",data:=.seq ([]:List Value).toArray }).objs.size)
  { s2 with heap:=pushCells ((s2.heap.push { cls:=.type "list",data:=.seq ([]:List Value).toArray }).push { cls:=.type "dict",data:=.dict #[] }) c.names }
 rw[← e3]
 have ow:=Zib s3.heap c
 have hns:(pushCells (s3.heap.push { cls:=.type "dict",data:=.dict #[] }) c.names).Ns s3.heap.objs.size (fun _=>none):=(Heap.Ns.new s3.heap (.type "dict")).keeps (pushCells_keeps _ _)
 have hk1:∀b ob,s3.heap.get? b=some ob→(pushCells (s3.heap.push { cls:=.type "dict",data:=.dict #[] }) c.names).get? b=some ob:=fun b ob e=>pushCells_keeps _ _ b ob (Qj _ e)
 generalize pushCells (s3.heap.push { cls:=.type "dict",data:=.dict #[] }) c.names=h₁ at ow hns hk1 ⊢
 have es4:({ s2 with heap:=h₁ }:Shared)={ s3 with heap:=h₁,toks:=s2.toks }:=by rw[hs3]
 rw[es4]
 obtain⟨W,⟨m0,w0⟩,turn⟩:=hR s2.heap.objs.size hD
 have I4:=Zmr (tk:=s2.toks) S hN ho I3 f3 fpl3 hns hk1 ow
 have st4:tn 0 h₁:=T.keep 0 _ _ st3 fun b _ ob e=>hk1 b ob e
 generalize hX:Z5 X c N' s3.heap.objs.size s3 (upd H2 s2.heap.objs.size (.lst [])) fp=Y at I4
 have Yp:Y.prog=X.prog:=by rw[← hX];rfl
 have Yw:Y.w=X.w:=by rw[← hX];rfl
 have YK:Y.K=X.K:=by rw[← hX];rfl
 have Yc:Y.calm=true:=by rw[← hX];exact hc
 have YA:Y.A=X.A:=by rw[← hX];rfl
 have Yenv:Y.env=compEnvC c (Zcb X c s3.heap.objs.size) s3.heap.objs.size X.env:=by rw[← hX];rfl
 have Yl:Y.env.locals=s3.heap.objs.size:=by rw[Yenv];rfl
 have Yxe:Y.xe=fun _ _=>False:=by rw[← hX];rfl
 have hg':=hg s3.heap.objs.size s3 (upd H2 s2.heap.objs.size (.lst [])) fp
 have ht':=ht s3.heap.objs.size s3 (upd H2 s2.heap.objs.size (.lst [])) fp
 have he':=he s3.heap.objs.size s3 (upd H2 s2.heap.objs.size (.lst [])) fp
 rw[hX]at hg' ht' he'
 have stat:∀ {H':Hp},(∀b∈fp,H' b=none)→∀b∈fp,ZfW Y [] H' b:=fun {H'} hn b hb=>by
  obtain⟨_,q1,q2,q3,q4,_⟩:=f3 b hb
  have z1:=I4.ok.exf b (by rw[← hX];exact hb)
  refine⟨hn b hb,z1.1,I4.ok.exfs b (by rw[← hX];exact hb),.inl (by rw[← hX];exact hb),z1.2,fun p hp=>?_⟩
  have hp':p∈([]:List (Addr×Obj)):=by
   have:Y.pn=[]:=by rw[← hX];rfl
   rw[this]at hp;exact hp
  cases hp'
 have fin:∀ (s5:Shared) (σ5:St) (H5:Hp),Inv Y [] σ5 H5 s5→Q (.ref s2.heap.objs.size) H5→compPost (model X.prog X.w) X.A X.xe use QQ (.ref s2.heap.objs.size) s3.heap.objs.size (.ok .next) s5:=fun s5 σ5 H5 I5 q=>by
  obtain⟨m,hn,_⟩:=id I5.loc
  rw[Yl]at hn
  have hCn:H5 s3.heap.objs.size=none:=by have:=I5.free;rw[Yl]at this;exact this
  have un:Un (frs X.stack) fp (upd H2 s2.heap.objs.size (.lst [])) H5 s3.heap s5.heap:=by
   have:=I5.base
   rw[← hX]at this
   exact this
  have os5:s5.os=s3.os:=by have:=I5.os;rw[← hX]at this;exact this
  have hok5:HOk X.prog X.w H5 s5.heap:=by
   have:=I5.hok
   rw[Yp,Yw]at this
   exact this
  refine post _ _ s5 H5 m (I3.call' (s':=s5) (ch:=fp) os5 un hok5 I5.bare fun b hb=>?_) hCn hn (QaP I3.lt) I3.sz (fun x a e=>?_) (fun p hp=>?_) q
  ·obtain⟨_,q1,_,q3,q4,q5⟩:=f3 b hb
   exact⟨q3,q1,q4,q5⟩
  ·obtain⟨v,ob,e',_⟩:=I3.cell x a e
   exact QV (Qz e')
  ·exact QV (Qz (I3.pin p hp).1)
 have loop:codeAny (model X.prog X.w) X.A (.compLoop (.ListComp elt [⟨tg,iter,ifs,0⟩] c pos) 0 (.ref it) (.ref s2.heap.objs.size) (compEnvC c (Zcb X c s3.heap.objs.size) s3.heap.objs.size X.env))
   (compPost (model X.prog X.w) X.A X.xe use QQ (.ref s2.heap.objs.size) s3.heap.objs.size) { s3 with heap:=h₁,toks:=s2.toks }:=by
  rw[← Yenv,← YA]
  refine Zh2 (E:=fun _ _=>False) (fun n s'=>∃i ys σ' H',Inv Y [] σ' H' s'∧tn i s'.heap∧(∀b∈fp,H' b=none)∧W i n ys σ' H') (fun _ _ z=>z) ?_ m0
   ⟨0,[],_,_,I4,st4,fun b hb=>(f3 b hb).1,?_⟩
  ·rintro n s5 ⟨i,ys,σ5,H5,I5,st5,fr5,w5⟩
   rcases turn i n ys σ5 H5 w5 with⟨stop,qn⟩|⟨go,Nn,hNn,step⟩
   ·refine thn (T.done Y Yp Yw YK Yc i [] s5 σ5 H5 _ I5 (stat fr5) st5 stop) ?_
    rintro r s6 ⟨hr,I6⟩
    subst hr
    have fq:=fin s6 σ5 H5 I6 qn
    rw[← YA]at fq
    exact fq
   ·refine thn (T.item Y Yp Yw YK Yc i [] s5 σ5 H5 _ I5 (stat fr5) st5 go) ?_
    rintro r s6 ⟨u,hr,h6⟩
    subst hr
    refine thn h6 ?_
    rintro _ s7 ⟨x,H7,I7,r7,y7,st7,fr7⟩
    have I7':=I7.pinned (stat fr7) (T.obj _ _ st7)
    have back:∀ {σ9:St} {H9:Hp} {s9:Shared},Inv Y ([]++Zf1 fp s7.heap) σ9 H9 s9→Inv Y [] σ9 H9 s9∧tn (i+1) s9.heap∧∀b∈fp,H9 b=none:=fun {σ9 H9 s9} I9=>by
     refine⟨I9.unpinned,T.keep _ _ _ st7 fun b hb ob e=>(I9.pin (b,ob) (Qn _ (Qn _ (Zdf hb e)))).1,fun b hb=>?_⟩
     obtain⟨ob,e,d⟩:=T.obj _ _ st7 b hb
     exact(I9.pin (b,ob) (Qn _ (Qn _ (Zdf hb e)))).2.1
    have P1:=hg' _ s7 σ5 H7 x u _ I7' r7 (step x H7 y7)
    rw[Yp,Yw,Yxe]at P1
    refine thn P1 ?_
    rintro _ s8 ⟨σ8,H8,I8,q8⟩
    have P2:=ht' _ s8 σ8 H8 _ I8 q8
    rw[Yp,Yw,Yxe]at P2
    refine thn P2 ?_
    rintro ok s9 ⟨H9,I9,q9⟩
    cases ok with
    | false =>
     rw[if_neg QC]at q9
     rw[if_neg QC]
     obtain⟨b1,b2,b3⟩:=back I9
     obtain⟨m',hm',w9⟩:=hNn _ _ _ q9
     exact⟨m',hm',i+1,ys,σ8,H9,b1,b2,b3,w9⟩
    | true =>
     rw[if_pos rfl]at q9
     rw[if_pos rfl]
     have P3:=he' _ s9 σ8 H9 _ I9 q9
     rw[Yp,Yw,Yxe]at P3
     refine thn P3 ?_
     rintro y s10 ⟨vy,H10,I10,r10,hDl,hsz,q10⟩
     have P4:=Zay (X:=Y) _ s10 σ8 H10 (.ref s2.heap.objs.size) [vy] (.ref s2.heap.objs.size) [y] (fun _ H'=>Nn (ys++[vy]) σ8 H') I10 rfl (.cons r10 .nil) ⟨_,ys,vy,rfl,rfl,hDl,hsz,q10⟩
     rw[Yp,Yw,Yxe]at P4
     refine thn P4 ?_
     rintro _ s11 ⟨_,H11,I11,_,q11⟩
     obtain⟨b1,b2,b3⟩:=back I11
     obtain⟨m',hm',w11⟩:=hNn _ _ _ q11
     exact⟨m',hm',i+1,ys++[vy],σ8,H11,b1,b2,b3,w11⟩
  ·exact w0
 have lp:=T.self X.A 0 { s3 with heap:=h₁,toks:=s2.toks } (fun it' s'=>codeAny (model X.prog X.w) X.A (.compLoop (.ListComp elt [⟨tg,iter,ifs,0⟩] c pos) 0 it' (.ref s2.heap.objs.size) (compEnvC c (Zcb X c s3.heap.objs.size) s3.heap.objs.size X.env))
   (compPost (model X.prog X.w) X.A X.xe use QQ (.ref s2.heap.objs.size) s3.heap.objs.size) s') (fun _ _=>False) st4 loop
 exact codeAny_compStart_list loop (wpAny_mono lp (fun _ _ z=>z) fun _ _ z=>z.elim)
theorem Zav{elt tg iter:Expr}{ifs:List Expr}{pos:Pos}{wi:TI}{g:TG}{tc:TT}{te:TE}(S:ZE N N' o c)(hN:X.N=N)(ho:X.env.scope=o)(hc:X.calm=true)
  (hi:PI X tg iter wi) (hg:∀C s H fp,PG (Z5 X c N' C s H fp) tg g) (ht:∀C s H fp,PTs (Z5 X c N' C s H fp) ifs tc) (he:∀C s H fp,PE (Z5 X c N' C s H fp) elt te)
  (hs:∀x,foldedSetIterable iter X.env x=pure x:=by intro _;rfl) :
  PE X (.ListComp elt [⟨tg,iter,ifs,0⟩] c pos) (Znr (N'.length-N.length) wi g tc te):=by
 intro pins s σ H Q I h
 rw[eval_ListComp]
 refine Zhr (use:=none) S hN ho hc hi hg ht he hs I h fun D C s5 H5 m I5 hCn hn n1 n2 n3 n4 q=>⟨m,hn,fun h' hsb=>?_⟩
 exact⟨.ref D,H5,I5.let hCn n1 n2 n3 n4 hsb,rfl,q⟩
theorem Zcy{i:Nat}{x:Str}{elt tg iter:Expr}{ifs:List Expr}{pos pos' spos:Pos}{wi:TI}{g:TG}{tc:TT}{te:TE}(hnd:X.N.Nodup)(hx:X.N[i]? = some x)(hl:Loc X.env.scope x)(S:ZE N N' o c)(hN:X.N=N)(ho:X.env.scope=o)(hc:X.calm=true)
  (hi:PI X tg iter wi) (hg:∀C s H fp,PG (Z5 X c N' C s H fp) tg g) (ht:∀C s H fp,PTs (Z5 X c N' C s H fp) ifs tc) (he:∀C s H fp,PE (Z5 X c N' C s H fp) elt te)
  (hsw:swapsWith (.ListComp elt [⟨tg,iter,ifs,0⟩] c pos) (some (.Name x pos')) spos.line X.env=pure true)
  (hs:∀x,foldedSetIterable iter X.env x=pure x:=by intro _;rfl) (hf:X.fn x=true∨X.env.scope.names.lookup x=some .local:=by first|exact .inl rfl|exact .inr rfl|assumption) :
  PS X (.Assign [.Name x pos'] (.ListComp elt [⟨tg,iter,ifs,0⟩] c pos) spos) (ZrK (Znr (N'.length-N.length) wi g tc te) (Zjv i)):=by
 intro pins s σ H D I h
 rw[exec_Assign_Name_used _ _ _ _ hsw]
 refine wpAny_bind (wpAny_standAt (wpAny_bind ?_))
 show wpAny _ X.A (do let _ ← comprehension (.ListComp elt [⟨tg,iter,ifs,0⟩] c pos) c X.env _ (newList []) false (eval iter X.env) (some (assign (.Name x pos') X.env))) _ _ s
 refine wpAny_bind (thn (Zhr (QQ:=fun _ s'=>SP X pins D .next s') (use:=some (assign (.Name x pos') X.env)) S hN ho hc hi hg ht he hs I h ?_) fun _ s' hq=>wpAny_pure (wpAny_pure hq))
 intro L C s5 H5 m I5 hCn hn n1 n2 n3 n4 q
 show wpAny _ X.A (assign (.Name x pos') X.env (.ref L)) _ _ _
 refine wpAny_assign_Name (ZhV (v:=.ref L) I5 hnd hx hl rfl (?_) hf)
 rintro s6 I6 ⟨a,hsb,ha⟩
 have nCa:C≠a:=by
  rcases ha with z|z
  ·rw[z];exact n1
  ·exact(n3 x a z).symm
 exact⟨m,hn.sameBut hsb nCa,fun h' hsb'=>⟨_,H5,I6.let hCn n1 n2 n3 n4 hsb',q⟩⟩
variable {x:Str} {pos:Pos} {C:Addr} {s:Shared} {H:Hp} {fp:List Addr}
theorem ZdM(S:ZE N N' o c)(ho:X.env.scope=o)(hl:c.names.lookup x=some .local):(Z5 X c N' C s H fp).env.scope.names.lookup x=some .local:=by
 have e:=ZbN (X:=X) S ho (Zcb X c C) C x
 rw[hl]at e
 exact e
theorem Zhs(S:ZE N N' o c)(ho:X.env.scope=o)(hl:c.names.lookup x=some .cell):(Z5 X c N' C s H fp).env.scope.names.lookup x=some .cell:=by
 have e:=ZbN (X:=X) S ho (Zcb X c C) C x
 rw[hl]at e
 exact e
theorem ZaY(S:ZE N N' o c)(ho:X.env.scope=o)(hl:c.names.lookup x=some .globalImplicit):Gl (Z5 X c N' C s H fp) x:=by
 have e:=ZbN (X:=X) S ho (Zcb X c C) C x
 rw[hl]at e
 exact e
theorem ZlC(S:ZE N N' o c)(ho:X.env.scope=o)(hl:c.names.lookup x=some .free):Vis (Z5 X c N' C s H fp).env.scope x:=by
 have e:=ZbN (X:=X) S ho (Zcb X c C) C x
 rw[hl]at e
 have e':(Z5 X c N' C s H fp).env.scope.names.lookup x=if X.env.kindOf x=some .cell then some NameKind.cell else some NameKind.free:=e
 by_cases z:X.env.kindOf x=some .cell
 ·rw[if_pos z]at e';exact .inr (.inl e')
 ·rw[if_neg z]at e';exact .inr (.inr e')
theorem cvC(i:Nat)(S:ZE N N' o c)(ho:X.env.scope=o)(hl:c.names.lookup x=some .free)(hN:N'[i]? = some x:=by rfl)(hd:(x == ("__debug__" : Str))=false:=by decide)(hcd:(x == ("__classdict__" : Str))=false:=by decide) :
  PE (Z5 X c N' C s H fp) (.Name x pos) (Zn2 i):=ZiA hN (ZlC S ho hl) hd hcd
theorem cwC(i:Nat)(S:ZE N N' o c)(ho:X.env.scope=o)(hl:c.names.lookup x=some .cell)(hN:N'[i]? = some x:=by rfl)(hd:(x == ("__debug__" : Str))=false:=by decide)(hcd:(x == ("__classdict__" : Str))=false:=by decide) :
  PE (Z5 X c N' C s H fp) (.Name x pos) (Zn2 i):=ZiA hN (.inr (.inl (Zhs S ho hl))) hd hcd
theorem cwL(i:Nat)(S:ZE N N' o c)(ho:X.env.scope=o)(hl:c.names.lookup x=some .local)(hN:N'[i]? = some x:=by rfl)(hd:(x == ("__debug__" : Str))=false:=by decide)(hcd:(x == ("__classdict__" : Str))=false:=by decide) :
  PE (Z5 X c N' C s H fp) (.Name x pos) (Zn2 i):=ZiA hN (.inl (ZdM S ho hl)) hd hcd
theorem cgC(i:Nat)(S:ZE N N' o c)(ho:X.env.scope=o)(hl:c.names.lookup x=some .cell)(hi:N'[i]? = some x:=by rfl):PG (Z5 X c N' C s H fp) (.Name x pos) (Zjv i) :=
 ZA S.nd hi (.inr (Zhs S ho hl)) (.inl (by show (c.names.lookup x == some NameKind.cell)=true;rw[hl];rfl))
theorem cgL(i:Nat)(S:ZE N N' o c)(ho:X.env.scope=o)(hl:c.names.lookup x=some .local)(hi:N'[i]? = some x:=by rfl):PG (Z5 X c N' C s H fp) (.Name x pos) (Zjv i) :=
 ZA S.nd hi (.inl (ZdM S ho hl)) (.inr (ZdM S ho hl))
end
section
variable {prog:Program} {w:World} {A:Around} {E:Value→Shared→Prop} {s:Shared}
theorem Zij{R:Result→Shared→Prop}{r:Addr}{a b c:Int}{t u v:Tok}{n:Nat}(hh:A.handled=none)(hr:IsRange s.heap r a b c t u v)(hsmall:Builtin.Range.small a b c=true)
  (hn:Builtin.Range.rangeSize a b c=n) (hlen:n≤2 ^ 24)
  (hR:∀h' tk acc' c',(∀b o,s.heap.get? b=some o→h'.get? b=some o)→h'.get? s.heap.objs.size=some { cls:=.type "list",dict:=none,data:=.seq acc' c',slots:=#[] } →
   ItemsOf (fun i v=>∃t,v=.int (a+i*c) t) acc' n→R (.ok (.ret (.ref s.heap.objs.size))) { s with heap:=h',toks:=tk }) :
  codeAny (model prog w) A (.builtin "proto.collect" ⟨[.ref r],[]⟩) R s:=by
 refine codeAny_builtin F.entry_proto_collect ?_
 rw[Around.under_plainId F.plain_proto_collect _]
 show wpAny _ A.in1 (newList [] >>= fun l=>again (.builtin "list.__iadd__" ⟨[l,.ref r],[]⟩)) _ _ s
 refine wpAny_bind (wpAny_newObj_type ?_)
 refine wpAny_pure ⟨plainId_quiet F.plain_list_iadd _,codeAny_builtin F.entry_list_iadd ?_⟩
 rw[Around.under_plainId F.plain_list_iadd _]
 show wpAny _ A.in1 (Builtin.List.listExtendWith (.ref s.heap.objs.size) (.ref r) (.ref s.heap.objs.size)) _ _ _
 have hS:(s.heap.push { cls:=.type "list",data:=.seq ([]:List Value).toArray }).get? s.heap.objs.size=some { cls:=.type "list",data:=.seq #[] }:=QD _ rfl
 exact wpAny_extend_range (R:=R) (s:={ s with heap:=s.heap.push { cls:=.type "list",data:=.seq ([]:List Value).toArray } }) (A:=A) hh (Qj _ hr) hsmall hn hlen _ _ _ hS fun h' tk acc' c' hk hS' hacc =>
  hR h' tk acc' c' (fun b o e=>hk b o (QV (Qz e)) (Qj _ e)) hS' hacc
theorem ZgP{Q:List Value→Shared→Prop}{r:Addr}{a b c:Int}{t u v:Tok}{n:Nat}(hh:A.handled=none)(hr:IsRange s.heap r a b c t u v)(hsmall:Builtin.Range.small a b c=true)
  (hn:Builtin.Range.rangeSize a b c=n) (hlen:n≤2 ^ 24)
  (hQ:∀h' tk acc,(∀b o,s.heap.get? b=some o→h'.get? b=some o)→ItemsOf (fun i v=>∃t,v=.int (a+i*c) t) acc n→Q acc.toList { s with heap:=h',toks:=tk }) :
  wpAny (model prog w) A (collect (.ref r)) Q E s:=by
 unfold collect
 refine wpAny_bind (wpAny_runValue (Zij hh hr hsmall hn hlen fun h' tk acc' c' hk hS' hacc=>?_))
 show wpAny _ A (load s.heap.objs.size >>= _) _ _ _
 refine wpAny_bind (wpAny_load hS' ?_)
 exact wpAny_pure (hQ h' tk acc' hk hacc)
theorem Zdt(r:Addr)(a b c:Int)(t u v:Tok)(n:Nat)(hsmall:Builtin.Range.small a b c=true)(hn:Builtin.Range.rangeSize a b c=n)(hlen:n≤2 ^ 24)(hsz:n≤sizeLine) :
  Meets (Builtin.«tuple.__new__» ⟨[.type "tuple",.ref r],[]⟩)
   (fun A R s=>A.handled=none∧IsRange s.heap r a b c t u v∧∀ (h':Heap) (tk:Nat) (acc:Array Value),(∀b o,s.heap.get? b=some o→h'.get? b=some o)→ItemsOf (fun i v=>∃t,v=.int (a+i*c) t) acc n →
    R (.ok (.ret (.ref h'.objs.size))) { s with heap:=h'.push { cls:=.type "tuple",data:=.seq acc },toks:=tk }) :=
 .of_wp fun prog w A R s h=>by
  obtain⟨hh,hr,h⟩:=h
  have hsub:=sub_tuple_self
  have hinit:=init_tuple_lookup
  have hmh:=madeHere_tuple
  have hT:s.TypeIs (.ref r) "range":=⟨_,hr,rfl⟩
  have hh1:A.in1.handled=none:=hh
  wp_walk using wpAny_typeOf hT,ZgP hh1 hr hsmall hn hlen
  intro h' tk acc hk hacc
  show wpAny _ _ (Builtin.Tuple.tupleExact acc.toList.toArray >>= fun v=>ret v) _ _ _
  unfold Builtin.Tuple.tupleExact
  refine wpAny_bind (wpAny_newObj_type ?_ (show acc.toList.toArray.size≤sizeLine by simp only[Array.toArray_toList];rw[hacc.1];exact hsz))
  refine wpAny_pure ⟨_,rfl,?_⟩
  have e:acc.toList.toArray=acc:=by simp
  rw[e]
  exact h h' tk acc hk hacc
theorem Zfn{Q:Value→Shared→Prop}{r:Addr}{a b c:Int}{t u v:Tok}{n:Nat}(hh:A.handled=none)(hr:IsRange s.heap r a b c t u v)(hsmall:Builtin.Range.small a b c=true)(hn:Builtin.Range.rangeSize a b c=n)(hlen:n≤2 ^ 24)(hsz:n≤sizeLine)
  (h:∀ (h':Heap) (tk:Nat) (acc:Array Value),(∀b o,s.heap.get? b=some o→h'.get? b=some o)→ItemsOf (fun i v=>∃t,v=.int (a+i*c) t) acc n→Q (.ref h'.objs.size) { s with heap:=h'.push { cls:=.type "tuple",data:=.seq acc },toks:=tk }) :
  wpAny (model prog w) A (call (.type "tuple") [.ref r]) Q E s :=
 callType_new F.called_tuple (by decide) (F.typeCall_tuple_1 _) (F.newCall_tuple_1 _) (fun obj=>F.args_object_init_2 obj _) F.entry_tuple_new
  (Zdt r a b c t u v n hsmall hn hlen hsz) ⟨hh,hr,fun h' tk acc hk hacc=>⟨⟨_,QD _ rfl,rfl⟩,h h' tk acc hk hacc⟩⟩
end
noncomputable def Zsc:List V→Hp→VK→Prop:=fun xs H Q=>∃ (p:Addr) (lo hi:Int),xs=[.ref p]∧H p=some (.rng lo hi) ∧ -(2 ^ 62)≤lo∧lo<2 ^ 62 ∧ -(2 ^ 62)≤hi∧hi<2 ^ 62∧(hi-lo).toNat≤1000 ∧
 ∀l,H l=none→Q (.ref l) (upd H l (.tup ((Zx lo (hi-lo).toNat).map V.int)))
theorem Ztn{X:Cx}(hc:X.calm=true:=by rfl):Zae X (.type "tuple") Zsc:=by
 intro pins s σ H xs us Q I r h
 obtain⟨p,lo,hi,rfl,hp,h1,h2,h3,h4,h5,q⟩:=h
 obtain⟨u,rfl,rx⟩:=ZbJ r
 cases rx
 obtain⟨t,u,v,e⟩:=I.hok _ _ hp
 have sz:Builtin.Range.rangeSize lo hi 1=(((hi-lo).toNat:Nat):Int):=by rw[rangeSize_one];split<;>omega
 refine Zfn (I.ok.hd hc) e (small_one h1 h2 h3 h4) sz (by omega) (Qav (ZH h5)) fun h' tk acc' kp it=>?_
 have I1:Inv X pins σ H { s with heap:=h',toks:=tk }:=I.kept kp
 have I2:=I1.laid (t':=tk) (a:=h'.objs.size) (h':=h'.push { cls:=.type "tuple",data:=.seq acc' }) (fun b o e=>Qj _ e) (Qg _) (show Zap X.prog X.w _ _ _ (.tup ((Zx lo (hi-lo).toNat).map V.int)) from⟨?_,acc'.toList,Zgo _ _ (by simpa using it.1) (fun j v hv=>it.2 j v (by simpa using hv)),by simpa using IsTup.new _ _⟩)
 ·exact⟨.ref h'.objs.size,_,I2,rfl,q _ (I1.hok.fresh (Qg _))⟩
 ·rw[Qa,ZR]
  exact Qav (ZH h5)
end L2
set_option maxHeartbeats 1000000
namespace My
open PySem L2 PyProof.Rows
noncomputable abbrev Ztl:=@List.tail Stmt
noncomputable abbrev Zt2(x:List Stmt):=Ztl (Ztl x)
noncomputable abbrev Zt4(x:List Stmt):=Zt2 (Zt2 x)
noncomputable abbrev Zt8(x:List Stmt):=Zt4 (Zt4 x)
noncomputable abbrev Zt16(x:List Stmt):=Zt8 (Zt8 x)
noncomputable abbrev Zt32(x:List Stmt):=Zt16 (Zt16 x)
local macro_rules|`(‹$i:num›)=>`(@pv _ $i _ _ (by rfl) (Or.inl rfl) (by decide) (by decide))
local macro_rules|`(tactic|trivial)=>`(tactic|first|exact .inl rfl|exact .inr rfl|decide|exact Nat.le_refl _|omega)
local macro_rules
|`(#[Xns,$a,$b,$c])=>`(PySem.W.nsIn $a mainGlobals $b=some (some (.ref $c)))
|`(#[Xfi,$a,$b,$c,$d])=>`(PySem.W.findIn $a (.ref $b) $c=some (some (.ref $d)))
|`(#[Xlk,$z,$a,$b,$c,$d,$e,$f,$g,$h,$i,$j,$k,$l,$m])=>`(($z).lookup $a=some ⟨$b,$c,.func (PySem.W.fnOf $d $e (Zp $f) (Zl $f) (Zf $f) .none $g $h $i $j $k $l),$m⟩)
|`(#[Xci,$a,$b,$c])=>`(PySem.W.codeIn $a $b $c=true)
|`(#[Xki,$a,$b])=>`(PySem.W.keepIn $a (.ref $b)=true)
|`(#[Xif,$a,$b])=>`(PySem.W.isFn $a (.ref $b)=true)
|`(#[Zg,$a,$b])=>`(@Zg _ _ _ _ _ $a $b)
|`(#[Zy,$a,$b,$c,$d])=>`(@Zy _ _ $a _ _ _ _ $b rfl $c $d (by rfl) (by trivial))
|`(#[ZF,$a,$b,$c])=>`(@ZF _ _ _ _ _ _ _ _ $a $b $c)
|`(#[Zi])=>`(@Zi _ _ _ _)
|`(#[Zj,$a])=>`(@Zj _ _ _ $a)
|`(#[Zm,$a])=>`(@Zm _ _ _ _ $a)
|`(#[Zbq,$a,$b,$c])=>`(@Zbq _ _ _ _ _ _ _ _ $a $b $c)
|`(#[Zn,$a,$b,$c,$d])=>`(@Zn _ _ _ _ _ _ _ _ $a $b $c $d)
|`(#[Zk,$a,$b,$c,$d,$e])=>`(@Zk _ _ _ _ _ _ _ _ _ $a $b $c $d $e (by decide) (by decide) (by rfl) (by rfl))
|`(#[Za,$a,$b])=>`(@Za _ _ _ _ _ $a $b (by rfl))
|`(#[Zc])=>`(@Zc _)
|`(#[Zz,$a,$b,$c])=>`(@Zz _ _ _ _ _ _ _ $a $b $c (fun _ _=>rfl))
|`(#[Zbg,$a])=>`(@Zbg _ _ _ _ $a)
|`(#[Z4,$a,$b,$c,$d])=>`(@Z4 _ _ _ _ _ _ _ _ _ $a (by rfl) $b $c $d (by decide) (by decide) (by rfl) (by rfl))
|`(#[ZaZ,$a,$b])=>`(@ZaZ _ _ _ _ _ _ $a $b (by rfl) (by rfl) (by rfl))
|`(#[ZdC,$a,$b,$c])=>`(@ZdC _ _ _ _ _ _ _ $a $b $c (by intro _;rfl))
|`(#[ZZ,$a,$b,$c])=>`(@ZZ _ _ _ _ _ _ _ _ $a $b $c)
|`(#[ZD])=>`(@ZD _)
|`(#[ZB,$a,$b,$c,$d])=>`(@ZB _ _ _ _ _ _ _ _ _ _ _ $a $b $c (by trivial) $d (by decide) (by rfl) (by rfl))
|`(#[ZbA])=>`(@ZbA _ _ _ _)
|`(#[Zav,$a,$b,$c,$d,$e])=>`(@Zav _ _ _ _ _ _ _ _ _ _ _ _ _ _ $a rfl rfl rfl $b $c $d $e (by intro _;rfl))
|`(#[Zbu,$a,$b])=>`(@Zbu _ _ _ _ _ _ rfl $a $b (by rfl))
|`(#[pv,$a,$b])=>`(@pv _ $a _ _ (by rfl) $b (by decide) (by decide))
|`(#[cgL,$a,$b])=>`(@cgL _ _ _ _ _ _ _ _ _ _ _ $a $b rfl (by ac_rfl) (by rfl))
|`(#[cvC,$a,$b])=>`(@cvC _ _ _ _ _ _ _ _ _ _ _ $a $b rfl (by ac_rfl) (by rfl) (by decide) (by decide))
|`(#[ZcA,$a,$b,$c,$d,$e,$f])=>`(@ZcA _ _ _ _ _ _ _ _ _ _ _ _ $a $b $c $d $e $f (by rfl) (by rfl) (by rfl) (by rfl) (by rfl))
|`(#[ZeA,$a,$b])=>`(@ZeA _ _ _ _ _ _ _ $a $b)
|`(#[Zbt,$a,$b,$c,$d])=>`(@Zbt _ _ _ _ _ _ _ _ $a rfl $b $c $d (by intro _;rfl))
|`(#[iE,$a,$b,$c])=>`(@iE _ $a _ _ _ _ _ _ _ $b $c (by rfl) (by rfl) (by rfl))
|`(#[gT,$a,$b,$c])=>`(@gT _ $a _ _ _ $b _ $c (by rfl) (by rfl) (by rfl) (by rfl))
|`(#[Zv,$a,$b])=>`(@Zv _ _ _ _ _ $a $b (by rfl))
|`(#[ZA,$a,$b])=>`(@ZA _ _ $a _ $b rfl (Or.inl rfl) (by trivial))
|`(#[ZaO,$a])=>`(@ZaO _ _ _ _ $a (by rfl))
|`(#[ZT,$a])=>`(@ZT _ _ _ _ _ $a)
|`(#[Zc8,$a,$b])=>`(@Zc8 _ _ _ _ _ _ _ rfl $a $b (by rfl) (by rfl))
|`(#[ZaQ])=>`(@ZaQ _ _ _)
|`(#[ZcL,$a,$b,$c,$d])=>`(@ZcL _ _ _ _ _ _ _ _ _ _ $a $b $c $d)
|`(#[ZbD,$a])=>`(@ZbD _ _ _ $a)
|`(#[Zad,$a])=>`(@Zad _ _ _ _ _ $a (by rfl))
|`(#[Zde,$a,$b,$c,$d])=>`(@Zde _ _ _ _ _ _ _ _ _ _ _ _ $a $b $c $d (by trivial) (by rfl))
|`(#[Zb6,$a,$b])=>`(@Zb6 _ _ _ _ _ _ _ _ $a $b (by rfl))
|`(#[Zf2,$a,$b])=>`(@Zf2 _ _ _ _ _ _ _ $a $b)
|`(#[ZfB,$a,$b,$c,$d,$e])=>`(@ZfB _ _ _ _ _ _ _ _ _ _ _ _ _ _ _ $a $b $c $d $e (by trivial) (by rfl) (by rfl) (by rfl))
|`(#[Zqr,$a,$b,$c])=>`(@Zqr _ _ _ _ _ _ _ _ _ _ _ _ $a $b $c (by trivial) (by rfl) (by decide) (by rfl) (by rfl))
|`(#[iL,$a,$b])=>`(@iL _ $a _ _ _ $b (by rfl))
|`(#[cwL,$a,$b])=>`(@cwL _ _ _ _ _ _ _ _ _ _ _ $a $b rfl (by ac_rfl) (by rfl) (by decide) (by decide))
|`(#[Zhq,$a,$b])=>`(@Zhq _ _ _ _ $a $b (by rfl) (by decide) (by decide))
|`(#[Zcy,$a,$b,$c,$d,$e,$f,$g])=>`(@Zcy _ _ _ _ _ $a _ _ _ _ _ _ _ _ _ _ _ _ $b rfl (Or.inl rfl) $c rfl rfl rfl $d $e $f $g (by rfl) (by intro _;rfl) (by trivial))
|`(#[Zet,$a])=>`(@Zet _ _ _ $a (by intro _;rfl))
|`(#[Zdo])=>`(@Zdo _ _ _ _)
theorem xw4{α0:Type _}{α1:Type _}{α2:Type _}{α3:Type _}{p:α0→α1→α2→α3→Prop}(a0:α0)(a1:α1)(a2:α2)(a3:α3)(h:p a0 a1 a2 a3):∃a0 a1 a2 a3,p a0 a1 a2 a3:=⟨a0,a1,a2,a3,h⟩
theorem xw5{α0:Type _}{α1:Type _}{α2:Type _}{α3:Type _}{α4:Type _}{p:α0→α1→α2→α3→α4→Prop}(a0:α0)(a1:α1)(a2:α2)(a3:α3)(a4:α4)(h:p a0 a1 a2 a3 a4):∃a0 a1 a2 a3 a4,p a0 a1 a2 a3 a4:=⟨a0,a1,a2,a3,a4,h⟩
theorem xw7{α0:Type _}{α1:Type _}{α2:Type _}{α3:Type _}{α4:Type _}{α5:Type _}{α6:Type _}{p:α0→α1→α2→α3→α4→α5→α6→Prop}(a0:α0)(a1:α1)(a2:α2)(a3:α3)(a4:α4)(a5:α5)(a6:α6)(h:p a0 a1 a2 a3 a4 a5 a6):∃a0 a1 a2 a3 a4 a5 a6,p a0 a1 a2 a3 a4 a5 a6:=⟨a0,a1,a2,a3,a4,a5,a6,h⟩
theorem xw9{α0:Type _}{α1:Type _}{α2:Type _}{α3:Type _}{α4:Type _}{α5:Type _}{α6:Type _}{α7:Type _}{α8:Type _}{p:α0→α1→α2→α3→α4→α5→α6→α7→α8→Prop}(a0:α0)(a1:α1)(a2:α2)(a3:α3)(a4:α4)(a5:α5)(a6:α6)(a7:α7)(a8:α8)(h:p a0 a1 a2 a3 a4 a5 a6 a7 a8):∃a0 a1 a2 a3 a4 a5 a6 a7 a8,p a0 a1 a2 a3 a4 a5 a6 a7 a8:=⟨a0,a1,a2,a3,a4,a5,a6,a7,a8,h⟩
theorem Ztc{α0:Type _}{α1:Type _}{α2:Type _}{α3:Type _}{α4:Type _}{α5:Type _}{α6:Type _}{α7:Type _}{α8:Type _}{α9:Type _}{α10:Type _}{p:α0→α1→α2→α3→α4→α5→α6→α7→α8→α9→α10→Prop}(a0:α0)(a1:α1)(a2:α2)(a3:α3)(a4:α4)(a5:α5)(a6:α6)(a7:α7)(a8:α8)(a9:α9)(a10:α10)(h:p a0 a1 a2 a3 a4 a5 a6 a7 a8 a9 a10):∃a0 a1 a2 a3 a4 a5 a6 a7 a8 a9 a10,p a0 a1 a2 a3 a4 a5 a6 a7 a8 a9 a10:=⟨a0,a1,a2,a3,a4,a5,a6,a7,a8,a9,a10,h⟩
noncomputable def hdS:List Stmt→Stmt
 | a::_=>a
 | []=>.Pass ⟨0,0,0,0⟩
noncomputable abbrev ZW:List Stmt:=PySem.Challenge.pw_mergetree_k72_whole_runs_merged_by_any_t.main.body
noncomputable abbrev Zj1:Stmt:=hdS (Zt16 (Zt8 (Zt4 (Zt2 ZW))))
noncomputable abbrev Zbo:Stmt:=hdS (Zt16 (Zt8 (Zt4 (Zt2 (Ztl ZW)))))
noncomputable abbrev ZbF:Stmt:=hdS (Zt2 ZW)
noncomputable abbrev Zbz:Stmt:=hdS (Zt4 ZW)
noncomputable abbrev Za1:Stmt:=hdS (Zt4 (Ztl ZW))
noncomputable abbrev Zbl:Stmt:=hdS (Zt4 (Zt2 ZW))
noncomputable abbrev Za4:Stmt:=hdS (Zt4 (Zt2 (Ztl ZW)))
noncomputable abbrev Za9:Stmt:=hdS (Zt8 ZW)
noncomputable abbrev Zdw:Stmt:=hdS (Zt8 (Zt2 ZW))
noncomputable abbrev Zdx:Stmt:=hdS (Zt8 (Zt2 (Ztl ZW)))
noncomputable abbrev Zbr:Stmt:=hdS (Zt8 (Zt4 ZW))
noncomputable abbrev Zbn:Stmt:=hdS (Zt8 (Zt4 (Ztl ZW)))
noncomputable abbrev Zb1:Stmt:=hdS (Zt8 (Zt4 (Zt2 ZW)))
noncomputable abbrev ZbH:Stmt:=hdS (Zt16 ZW)
noncomputable abbrev ZbU:Stmt:=hdS (Zt16 (Ztl ZW))
noncomputable abbrev Zbk:Stmt:=hdS (Zt16 (Zt2 ZW))
noncomputable abbrev ZcI:Stmt:=hdS (Zt16 (Zt2 (Ztl ZW)))
noncomputable abbrev Zc7:Stmt:=hdS (Zt16 (Zt4 (Ztl ZW)))
noncomputable abbrev ZcT:Stmt:=hdS (Zt16 (Zt4 (Zt2 ZW)))
noncomputable abbrev Za8:Stmt:=hdS (Zt16 (Zt8 (Zt2 (Ztl ZW))))
noncomputable abbrev ZcM:Stmt:=hdS (Zt16 (Zt8 (Zt4 ZW)))
noncomputable abbrev Za0:Stmt:=hdS (Zt32 ZW)
noncomputable abbrev Zbm:Stmt:=hdS (Zt32 (Ztl ZW))
noncomputable abbrev Zci:Stmt:=hdS (Zt32 (Zt2 (Ztl ZW)))
noncomputable abbrev Zbw:Stmt:=hdS (Zt32 (Zt4 ZW))
noncomputable abbrev ZaC:Stmt:=hdS (Zt32 (Zt4 (Zt2 ZW)))
noncomputable abbrev ZbS:Stmt:=hdS (Zt32 (Zt4 (Zt2 (Ztl ZW))))
noncomputable abbrev ZbC:Stmt:=hdS (Zt32 (Zt8 ZW))
noncomputable abbrev ZdX:Stmt:=hdS (Zt32 (Zt8 (Zt2 ZW)))
noncomputable abbrev Zc5:Stmt:=hdS (Zt32 (Zt8 (Zt2 (Ztl ZW))))
noncomputable abbrev ZcV:Stmt:=hdS (Zt32 (Zt8 (Zt4 ZW)))
noncomputable abbrev ZbO:Stmt:=hdS (Zt32 (Zt8 (Zt4 (Ztl ZW))))
noncomputable abbrev ZcX:Stmt:=hdS (Zt32 (Zt8 (Zt4 (Zt2 ZW))))
noncomputable abbrev Zb0:Stmt:=hdS (Zt32 (Zt8 (Zt4 (Zt2 (Ztl ZW)))))
noncomputable abbrev ZcR:Stmt:=hdS (Zt32 (Zt16 ZW))
noncomputable abbrev ZaK:Stmt:=hdS (Zt32 (Zt16 (Ztl ZW)))
noncomputable abbrev ZcU:Stmt:=hdS (Zt32 (Zt16 (Zt2 ZW)))
noncomputable abbrev Zbv:Stmt:=hdS (Zt32 (Zt16 (Zt2 (Ztl ZW))))
noncomputable abbrev Zau:Stmt:=hdS (Zt32 (Zt16 (Zt4 ZW)))
noncomputable abbrev Z9:Stmt:=hdS (Zt32 (Zt16 (Zt4 (Ztl ZW))))
noncomputable abbrev Zda:Stmt:=hdS (Zt32 (Zt16 (Zt4 (Zt2 ZW))))
noncomputable abbrev Za6:Stmt:=Zbe Zj1 0
noncomputable abbrev ZaU:Stmt:=Zbe Zj1 2
noncomputable abbrev Za7:Stmt:=Zbe Zj1 3
noncomputable abbrev ZaM:Stmt:=Zbe Zbo 0
noncomputable abbrev Zah:Stmt:=Zbe Zbo 1
noncomputable abbrev ZaG:Stmt:=Zbe Zbo 2
noncomputable abbrev Z2:Stmt:=Zbe Zbo 3
noncomputable abbrev ZaP:Stmt:=Zbe Zbo 7
noncomputable abbrev Z0:Stmt:=Zbe Zbo 13
noncomputable abbrev ZaL:Stmt:=Zbe Zbo 14
noncomputable abbrev Z3:Stmt:=Zbe Zbo 15
noncomputable abbrev ZS:Stmt:=Zbe Zbo 16
noncomputable abbrev ZaI:Stmt:=Zbe Zbo 17
theorem ZjW:Zq ["_law_cell", "_law_k", "_law_m"] ["_law_cell", "_law_k"] (Zf ZdX):=⟨rfl,rfl,rfl,by ac_rfl,rfl,by ac_rfl,by ac_rfl⟩
theorem Zhb:Zq ["_law_script", "_law_k", "_law_cell"] ["_law_script", "_law_k"] (Zf Zc5):=⟨rfl,rfl,rfl,by ac_rfl,rfl,by ac_rfl,by ac_rfl⟩
theorem Zhz:Zq ["_law_left_here", "_law_many", "_law_digit"] ["_law_left_here", "_law_many"] (Zf ZcV):=⟨rfl,rfl,rfl,by ac_rfl,rfl,by ac_rfl,by ac_rfl⟩
theorem ZgK:Zq ["_law_left_here", "_law_some"] ["_law_left_here"] (Zf ZbO):=⟨rfl,rfl,rfl,by ac_rfl,rfl,by ac_rfl,by ac_rfl⟩
theorem Zjc:Zq ["_law_left_here", "_law_stems_here", "_law_tail"] ["_law_left_here", "_law_stems_here"] (Zf ZcX):=⟨rfl,rfl,rfl,by ac_rfl,rfl,by ac_rfl,by ac_rfl⟩
theorem ZcC:Zq ["one", "other", "far", "at"] ["one", "other", "far"] (Zf Zbn):=⟨rfl,rfl,rfl,by ac_rfl,rfl,by ac_rfl,by ac_rfl⟩
theorem Zos:Zq ["one", "other"] ["one", "other"] (Zf Zdw):=⟨rfl,rfl,rfl,by ac_rfl,rfl,by ac_rfl,by ac_rfl⟩
theorem Zd3:Zq ["row", "told", "place", "key"] ["row"] (Zf ZcM):=⟨rfl,rfl,rfl,by ac_rfl,rfl,by ac_rfl,by ac_rfl⟩
theorem Zi5:Zq ["one", "other", "at"] ["one", "other", "at"] (Zf Zb1):=⟨rfl,rfl,rfl,by ac_rfl,rfl,by ac_rfl,by ac_rfl⟩
theorem Zoq:Zq ["one", "other"] ["one", "other"] (Zf Zdx):=⟨rfl,rfl,rfl,by ac_rfl,rfl,by ac_rfl,by ac_rfl⟩
theorem Zes:Zq ["one", "other", "far", "at"] ["one", "other", "far"] (Zf Zbr):=⟨rfl,rfl,rfl,by ac_rfl,rfl,by ac_rfl,by ac_rfl⟩
theorem ZdL:Zq ["keys", "place"] ["keys"] (Zf Za8):=⟨rfl,rfl,rfl,by ac_rfl,rfl,by ac_rfl,by ac_rfl⟩
theorem Zhc:Zq ["numbers", "middle"] ["numbers"] (Zf Zc7):=⟨rfl,rfl,rfl,by ac_rfl,rfl,by ac_rfl,by ac_rfl⟩
theorem Ziq:Zq ["self"] ["self"] (Zf ZaU):=⟨rfl,rfl,rfl,by ac_rfl,rfl,by ac_rfl,by ac_rfl⟩
theorem ZjL:Zq ["self"] ["self"] (Zf Za7):=⟨rfl,rfl,rfl,by ac_rfl,rfl,by ac_rfl,by ac_rfl⟩
theorem Zjt:Zq ["self", "keys"] ["self", "keys"] (Zf Za6):=⟨rfl,rfl,rfl,by ac_rfl,rfl,by ac_rfl,by ac_rfl⟩
theorem ZcG:Zq ["self", "rows", "number", "keys"] ["self", "rows"] (Zf ZaM):=⟨rfl,rfl,rfl,by ac_rfl,rfl,by ac_rfl,by ac_rfl⟩
theorem Zdn:Zq ["self", "row"] ["self"] (Zf Zah):=⟨rfl,rfl,rfl,by ac_rfl,rfl,by ac_rfl,by ac_rfl⟩
theorem ZeT:Zq ["self"] ["self"] (Zf Z0):=⟨rfl,rfl,rfl,by ac_rfl,rfl,by ac_rfl,by ac_rfl⟩
theorem Zab:Zq ["self", "numbers", "first_side", "other_side", "one", "other", "winner", "loser", "far"] ["self", "numbers"] (Zf ZaL):=⟨rfl,rfl,rfl,by ac_rfl,rfl,by ac_rfl,by ac_rfl⟩
theorem ZbX:Zq ["self", "one", "other", "far", "order", "alike_far", "seen"] ["self", "one", "other", "far"] (Zf ZaI):=⟨rfl,rfl,rfl,by ac_rfl,rfl,by ac_rfl,by ac_rfl⟩
theorem Zdp:Zq ["number", "keys", "place"] ["number", "keys"] (Zf Za0):=⟨rfl,rfl,rfl,by ac_rfl,rfl,by ac_rfl,by ac_rfl⟩
theorem Zep:Zq ["self", "thing"] ["self"] (Zf ZaG):=⟨rfl,rfl,rfl,by ac_rfl,rfl,by ac_rfl,by ac_rfl⟩
theorem Zcx:Zq ["self", "many", "things"] ["self", "many"] (Zf Z2):=⟨rfl,rfl,rfl,by ac_rfl,rfl,by ac_rfl,by ac_rfl⟩
theorem ZaB:Zq ["self", "number", "row", "comer", "meeting"] ["self", "number"] (Zf Z3):=⟨rfl,rfl,rfl,by ac_rfl,rfl,by ac_rfl,by ac_rfl⟩
theorem Zal:Zq ["self", "meeting", "comer", "stayer", "winner", "loser", "far"] ["self", "meeting", "comer"] (Zf ZS):=⟨rfl,rfl,rfl,by ac_rfl,rfl,by ac_rfl,by ac_rfl⟩
theorem ZaH:Zq ["numbers", "n", "matches", "least", "greatest", "others"] ["numbers", "n"] (Zf Zbm):=⟨rfl,rfl,rfl,by ac_rfl,rfl,by ac_rfl,by ac_rfl⟩
theorem ZbL:Zq ["numbers", "n", "others", "side", "first", "rest"] ["numbers", "n"] (Zf ZcT):=⟨rfl,rfl,rfl,by ac_rfl,rfl,by ac_rfl,by ac_rfl⟩
theorem Zi9:Zq ["rows"] ["rows"] (Zf Zbw):=⟨rfl,rfl,rfl,by ac_rfl,rfl,by ac_rfl,by ac_rfl⟩
theorem ZlQ:Zq ["rows"] ["rows"] (Zf Zci):=⟨rfl,rfl,rfl,by ac_rfl,rfl,by ac_rfl,by ac_rfl⟩
theorem Zaz:Zq ["_law_left_here", "_law_stems_here", "_law_many", "_law_found", "_law_k", "_law_key_here", "_law_way", "_law_cut"] ["_law_left_here"] (Zf Zb0):=⟨rfl,rfl,rfl,by ac_rfl,rfl,by ac_rfl,by ac_rfl⟩
theorem Zl8:Zq ["_law_left_here"] ["_law_left_here"] (Zf ZcR):=⟨rfl,rfl,rfl,by ac_rfl,rfl,by ac_rfl,by ac_rfl⟩
theorem ZgO:Zq ["_law_things_here"] ["_law_things_here"] (Zf ZaK):=⟨rfl,rfl,rfl,by ac_rfl,rfl,by ac_rfl,by ac_rfl⟩
theorem ZiD:Zq ["thing"] ["thing"] (Zf ZbF):=⟨rfl,rfl,rfl,by ac_rfl,rfl,by ac_rfl,by ac_rfl⟩
theorem Zca:Zq ["things", "runs", "tree", "parts", "rows"] ["things", "runs", "tree"] (Zf ZaC):=⟨rfl,rfl,rfl,by ac_rfl,rfl,by ac_rfl,by ac_rfl⟩
theorem Zd7:Zq ["_law_left_here", "_law_begin", "_law_end", "_law_ways", "_law_found", "_law_many", "_law_at"] ["_law_left_here", "_law_begin", "_law_end", "_law_ways"] (Zf ZcU):=⟨rfl,rfl,rfl,by ac_rfl,rfl,by ac_rfl,by ac_rfl⟩
theorem ZgU:Zq ["run", "key", "comer"] ["run", "key", "comer"] (Zf Zbk):=⟨rfl,rfl,rfl,by ac_rfl,rfl,by ac_rfl,by ac_rfl⟩
theorem ZaW:Zq ["things", "room", "inside", "next_in", "runs", "goer", "run", "key", "number"] ["things", "room"] (Zf ZbU):=⟨rfl,rfl,rfl,by ac_rfl,rfl,by ac_rfl,by ac_rfl⟩
theorem Zcd:Zq ["things", "runs", "number", "key"] ["things"] (Zf ZbH):=⟨rfl,rfl,rfl,by ac_rfl,rfl,by ac_rfl,by ac_rfl⟩
theorem Ze5:Zq ["things", "thing", "number", "place"] ["things", "thing"] (Zf ZcI):=⟨rfl,rfl,rfl,by ac_rfl,rfl,by ac_rfl,by ac_rfl⟩
theorem Zdi:Zq ["groves", "begin", "end", "most", "price", "middle"] ["groves", "begin", "end", "most"] (Zf Za9):=⟨rfl,rfl,rfl,by ac_rfl,rfl,by ac_rfl,by ac_rfl⟩
theorem ZdV:Zq ["groves", "alone", "begin", "end", "most", "cut"] ["groves", "alone", "begin", "end", "most"] (Zf Za4):=⟨rfl,rfl,rfl,by ac_rfl,rfl,by ac_rfl,by ac_rfl⟩
theorem ZcF:Zq ["groves", "sizes", "ways", "begin", "end", "price", "parts"] ["groves", "sizes", "ways", "begin", "end"] (Zf Zbl):=⟨rfl,rfl,rfl,by ac_rfl,rfl,by ac_rfl,by ac_rfl⟩
theorem Zai:Zq ["sizes", "ways", "groves", "many", "begin", "end", "alone", "most"] ["sizes", "ways"] (Zf Za1):=⟨rfl,rfl,rfl,by ac_rfl,rfl,by ac_rfl,by ac_rfl⟩
theorem Zdg:Zq ["sizes", "ways", "price", "trees"] ["sizes", "ways"] (Zf Zbz):=⟨rfl,rfl,rfl,by ac_rfl,rfl,by ac_rfl,by ac_rfl⟩
theorem ZiI:Zq ["things", "thing"] ["things", "thing"] (Zf ZbC):=⟨rfl,rfl,rfl,by ac_rfl,rfl,by ac_rfl,by ac_rfl⟩
theorem Zdk:Zq ["things", "room", "ways", "runs", "cost", "tree"] ["things", "room", "ways"] (Zf ZbS):=⟨rfl,rfl,rfl,by ac_rfl,rfl,by ac_rfl,by ac_rfl⟩
theorem Zfv:Zq ["_law_tree_here", "_law_names"] ["_law_tree_here", "_law_names"] (Zf Zbv):=⟨rfl,rfl,rfl,by ac_rfl,rfl,by ac_rfl,by ac_rfl⟩
theorem Zcs:Zq ["_law_things_here", "_law_lists", "_law_tree_here", "_law_found", "_law_keys"] ["_law_things_here", "_law_lists", "_law_tree_here"] (Zf Zau):=⟨rfl,rfl,rfl,by ac_rfl,rfl,by ac_rfl,by ac_rfl⟩
theorem Zat:Zq ["_law_left_here", "_law_things_here", "_law_lists", "_law_due", "_law_ways", "_law_tree_here", "_law_names", "_law_halfway"] ["_law_left_here", "_law_things_here", "_law_lists", "_law_due"] (Zf Z9):=⟨rfl,rfl,rfl,by ac_rfl,rfl,by ac_rfl,by ac_rfl⟩
theorem ZdF:Zq ["_law_script", "_law_k", "_law_left_here", "_law_things_here", "_law_due", "_law_room_here", "_law_lists", "_law_turn"] ["_law_script"] (Zf Zda):=⟨rfl,rfl,rfl,by ac_rfl,rfl,by ac_rfl,by ac_rfl⟩
noncomputable abbrev zsc(l:List (Str×NameKind)):Scope:={ kind:=.function,names:=l,isGenerator:=false,isCoroutine:=false,more:=[] }
noncomputable def Zqb:Scope:=zsc [(".0",.«local»),("_law_k",.«local»),("_law_pick",.globalImplicit),("_law_left_here",.free),("_law_some",.free)]
theorem Zoa:ZE ["_law_left_here", "_law_some"] ["_law_left_here", "_law_some", "_law_k"] (Zf ZbO) Zqb:=⟨rfl,rfl,by ac_rfl,by ac_rfl,by ac_rfl,by decide,by ac_rfl,by ac_rfl⟩
noncomputable def Zpd:Scope:=zsc [(".0",.«local»),("_law_k",.«local»),("_law_pick",.globalImplicit),("_law_left_here",.free)]
theorem ZpZ:ZE ["_law_left_here", "_law_stems_here", "_law_tail"] ["_law_left_here", "_law_stems_here", "_law_tail", "_law_k"] (Zf ZcX) Zpd:=⟨rfl,rfl,by ac_rfl,by ac_rfl,by ac_rfl,by decide,by ac_rfl,by ac_rfl⟩
noncomputable def ZoY:Scope:=zsc [(".0",.«local»),("row",.«local»),("len",.globalImplicit)]
theorem ZpS:ZE ["rows"] ["rows", "row"] (Zf Zbw) ZoY:=⟨rfl,rfl,by ac_rfl,by ac_rfl,by ac_rfl,by decide,by ac_rfl,by ac_rfl⟩
noncomputable def Zpb:Scope:=zsc [(".0",.«local»),("row",.«local»),("place",.«local»),("key",.«local»)]
theorem Zmt:ZE ["rows"] ["rows", "row", "place", "key"] (Zf Zci) Zpb:=⟨rfl,rfl,by ac_rfl,by ac_rfl,by ac_rfl,by decide,by ac_rfl,by ac_rfl⟩
noncomputable def Zpq:Scope:=zsc [(".0",.«local»),("_law_key_here",.«local»),("_law_number",.«local»)]
theorem Zpt:ZE ["_law_things_here"] ["_law_things_here", "_law_key_here", "_law_number"] (Zf ZaK) Zpq:=⟨rfl,rfl,by ac_rfl,by ac_rfl,by ac_rfl,by decide,by ac_rfl,by ac_rfl⟩
noncomputable def Zpc:Scope:=zsc [(".0",.«local»),("_law_number",.«local»),("_law_key_here",.«local»)]
theorem ZmJ:ZE ["_law_things_here"] ["_law_things_here", "_law_number", "_law_key_here"] (Zf ZaK) Zpc:=⟨rfl,rfl,by ac_rfl,by ac_rfl,by ac_rfl,by decide,by ac_rfl,by ac_rfl⟩
noncomputable def Zpu:Scope:=zsc [(".0",.«local»),("part",.«local»),("merged_by",.globalImplicit),("runs",.free),("things",.free)]
theorem ZlM:ZE ["things", "runs", "tree", "parts", "rows"] ["things", "runs", "tree", "parts", "rows", "part"] (Zf ZaC) Zpu:=⟨rfl,rfl,by ac_rfl,by ac_rfl,by ac_rfl,by decide,by ac_rfl,by ac_rfl⟩
noncomputable def ZpO:Scope:=zsc [(".0",.«local»),("part",.«local»),("things",.free)]
theorem ZrP:ZE ["things", "runs", "tree", "parts", "rows"] ["things", "runs", "tree", "parts", "rows", "part"] (Zf ZaC) ZpO:=⟨rfl,rfl,by ac_rfl,by ac_rfl,by ac_rfl,by decide,by ac_rfl,by ac_rfl⟩
noncomputable def Zm7:Scope:=zsc [(".0",.«local»),("part",.«local»),("things",.cell)]
noncomputable def Zpl:Scope:=zsc [(".0",.«local»),("number",.«local»),("things",.free)]
theorem Zp8:ZE ["things", "runs", "tree", "parts", "rows", "part"] ["things", "runs", "tree", "parts", "rows", "part", "number"] Zm7 Zpl:=⟨rfl,rfl,by ac_rfl,by ac_rfl,by ac_rfl,by decide,by ac_rfl,by ac_rfl⟩
noncomputable def Zpi:Scope:=zsc [(".0",.«local»),("part",.«local»),("place",.«local»),("parts",.free)]
theorem Zmo:ZE ["things", "runs", "tree", "parts", "rows"] ["things", "runs", "tree", "parts", "rows", "part", "place"] (Zf ZaC) Zpi:=⟨rfl,rfl,by ac_rfl,by ac_rfl,by ac_rfl,by decide,by ac_rfl,by ac_rfl⟩
noncomputable def ZmR:Scope:=zsc [(".0",.«local»),("number",.«local»),("things",.free)]
theorem Zjd:ZE ["things", "room", "inside", "next_in", "runs", "goer", "run", "key", "number"] ["things", "room", "inside", "next_in", "runs", "goer", "run", "key", "?number", "number"] (Zf ZbU) ZmR:=⟨rfl,rfl,by ac_rfl,by ac_rfl,by ac_rfl,by decide,by ac_rfl,by ac_rfl⟩
noncomputable def ZoL:Scope:=zsc [(".0",.«local»),("middle",.«local»),("begin",.free),("end",.free),("groves",.free),("most",.free)]
theorem Zeq:ZE ["groves", "begin", "end", "most", "price", "middle"] ["groves", "begin", "end", "most", "price", "?middle", "middle"] (Zf Za9) ZoL:=⟨rfl,rfl,by ac_rfl,by ac_rfl,by ac_rfl,by decide,by ac_rfl,by ac_rfl⟩
noncomputable def Zny:Scope:=zsc [(".0",.«local»),("run",.«local»),("len",.globalImplicit)]
theorem Zln:ZE ["things", "room", "ways", "runs", "cost", "tree"] ["things", "room", "ways", "runs", "cost", "tree", "run"] (Zf ZbS) Zny:=⟨rfl,rfl,by ac_rfl,by ac_rfl,by ac_rfl,by decide,by ac_rfl,by ac_rfl⟩
noncomputable def ZoJ:Scope:=zsc [(".0",.«local»),("_law_part",.«local»),("_law_called",.globalImplicit),("_law_names",.free)]
theorem Zi4:ZE ["_law_tree_here", "_law_names"] ["_law_tree_here", "_law_names", "_law_part"] (Zf Zbv) ZoJ:=⟨rfl,rfl,by ac_rfl,by ac_rfl,by ac_rfl,by decide,by ac_rfl,by ac_rfl⟩
noncomputable def Znz:Scope:=zsc [(".0",.«local»),("_law_number",.«local»),("_law_things_here",.free)]
theorem Zlg:ZE ["_law_things_here", "_law_lists", "_law_tree_here", "_law_found", "_law_keys"] ["_law_things_here", "_law_lists", "_law_tree_here", "_law_found", "_law_keys", "_law_number"] (Zf Zau) Znz:=⟨rfl,rfl,by ac_rfl,by ac_rfl,by ac_rfl,by decide,by ac_rfl,by ac_rfl⟩
noncomputable def ZoK:Scope:=zsc [(".0",.«local»),("_law_part",.cell),("_law_found",.free)]
theorem ZkN:ZE ["_law_things_here", "_law_lists", "_law_tree_here", "_law_found", "_law_keys"] ["_law_things_here", "_law_lists", "_law_tree_here", "_law_found", "_law_keys", "_law_part"] (Zf Zau) ZoK:=⟨rfl,rfl,by ac_rfl,by ac_rfl,by ac_rfl,by decide,by ac_rfl,by ac_rfl⟩
noncomputable def Zml:Scope:=zsc [(".0",.«local»),("_law_part",.cell),("_law_found",.cell)]
noncomputable def ZnV:Scope:=zsc [(".0",.«local»),("_law_number",.«local»),("_law_part",.free)]
theorem ZjA:ZE ["_law_things_here", "_law_lists", "_law_tree_here", "_law_found", "_law_keys", "_law_part"] ["_law_things_here", "_law_lists", "_law_tree_here", "_law_found", "_law_keys", "_law_part", "_law_number"] Zml ZnV:=⟨rfl,rfl,by ac_rfl,by ac_rfl,by ac_rfl,by decide,by ac_rfl,by ac_rfl⟩
noncomputable def Zov:Scope:=zsc [(".0",.«local»),("_law_turn",.«local»),("_law_pick",.globalImplicit),("len",.globalImplicit),("_law_left_here",.free),("_law_names",.free)]
theorem Zgs:ZE ["_law_left_here", "_law_things_here", "_law_lists", "_law_due", "_law_ways", "_law_tree_here", "_law_names", "_law_halfway"] ["_law_left_here", "_law_things_here", "_law_lists", "_law_due", "_law_ways", "_law_tree_here", "_law_names", "_law_halfway", "_law_turn"] (Zf Z9) Zov:=⟨rfl,rfl,by ac_rfl,by ac_rfl,by ac_rfl,by decide,by ac_rfl,by ac_rfl⟩
noncomputable def Znx:Scope:=zsc [(".0",.«local»),("_law_part",.«local»),("merged_by",.globalImplicit),("_law_lists",.free),("_law_things_here",.free)]
theorem ZhH:ZE ["_law_left_here", "_law_things_here", "_law_lists", "_law_due", "_law_ways", "_law_tree_here", "_law_names", "_law_halfway"] ["_law_left_here", "_law_things_here", "_law_lists", "_law_due", "_law_ways", "_law_tree_here", "_law_names", "_law_halfway", "_law_part"] (Zf Z9) Znx:=⟨rfl,rfl,by ac_rfl,by ac_rfl,by ac_rfl,by decide,by ac_rfl,by ac_rfl⟩
structure Bt (mg:Str→Option Value):Prop where
 n_abs:mg "abs" = none
 n_all:mg "all" = none
 n_bool:mg "bool" = none
 n_enumerate:mg "enumerate" = none
 n_int:mg "int" = none
 n_isinstance:mg "isinstance" = none
 n_len:mg "len" = none
 n_list:mg "list" = none
 n_max:mg "max" = none
 n_min:mg "min" = none
 n_range:mg "range" = none
 n_sorted:mg "sorted" = none
 n_sum:mg "sum" = none
 n_tuple:mg "tuple" = none
structure Zaf (K:PySem.W.Frag) (mg:Str→Option Value) (cRow:Addr) (cMerge:Addr):Prop where
 b:Bt mg
 t_is_number:Top K mg "is_number" ZbF ["thing"]
 t_near_plan:Top K mg "near_plan" Zbz ["sizes", "ways"]
 t_least_groves:Top K mg "least_groves" Za1 ["sizes", "ways"]
 t_least_tree:Top K mg "least_tree" Zbl ["groves", "sizes", "ways", "begin", "end"]
 t_least_grove:Top K mg "least_grove" Za4 ["groves", "alone", "begin", "end", "most"]
 t_least_cut:Top K mg "least_cut" Za9 ["groves", "begin", "end", "most"]
 t_alike:Top K mg "alike" Zdw ["one", "other"]
 t_liken:Top K mg "liken" Zdx ["one", "other"]
 t_liken_from:Top K mg "liken_from" Zbr ["one", "other", "far"]
 t_alike_from:Top K mg "alike_from" Zbn ["one", "other", "far"]
 t_order_at:Top K mg "order_at" Zb1 ["one", "other", "at"]
 t_stretches:Top K mg "stretches" ZbH ["things"]
 t_runs_of:Top K mg "runs_of" ZbU ["things", "room"]
 t_run_behind:Top K mg "run_behind" Zbk ["run", "key", "comer"]
 t_is_run:Top K mg "is_run" ZcI ["things", "thing"]
 t_halves:Top K mg "halves" Zc7 ["numbers"]
 t_way_up:Top K mg "way_up" ZcT ["numbers", "n"]
 t_first_break:Top K mg "first_break" Za8 ["keys"]
 t_alikes:Top K mg "alikes" ZcM ["row"]
 t_refuse_break:Top K mg "refuse_break" Za0 ["number", "keys"]
 t_matches_up:Top K mg "matches_up" Zbm ["numbers", "n"]
 t_merged:Top K mg "merged" Zci ["rows"]
 t_how_many:Top K mg "how_many" Zbw ["rows"]
 t_merged_by:Top K mg "merged_by" ZaC ["things", "runs", "tree"]
 t_sort_by:Top K mg "sort_by" ZbS ["things", "room", "ways"]
 t_is_sorted:Top K mg "is_sorted" ZbC ["things", "thing"]
 t_l_mix:Top K mg "_law_mix" ZdX ["_law_cell", "_law_k"]
 t_l_left:Top K mg "_law_left" Zc5 ["_law_script", "_law_k"]
 t_l_pick:Top K mg "_law_pick" ZcV ["_law_left_here", "_law_many"]
 t_l_stems:Top K mg "_law_stems" ZbO ["_law_left_here"]
 t_l_key:Top K mg "_law_key" ZcX ["_law_left_here", "_law_stems_here"]
 t_l_things:Top K mg "_law_things" Zb0 ["_law_left_here"]
 t_l_room:Top K mg "_law_room" ZcR ["_law_left_here"]
 t_l_in_order:Top K mg "_law_in_order" ZaK ["_law_things_here"]
 t_l_tree:Top K mg "_law_tree" ZcU ["_law_left_here", "_law_begin", "_law_end", "_law_ways"]
 t_l_called:Top K mg "_law_called" Zbv ["_law_tree_here", "_law_names"]
 t_l_any_right:Top K mg "_law_any_right" Zau ["_law_things_here", "_law_lists", "_law_tree_here"]
 t_l_trees_right:Top K mg "_law_trees_right" Z9 ["_law_left_here", "_law_things_here", "_law_lists", "_law_due"]
 t_Row_init:Zp7 K mg cRow "Row" "Row.__init__" Za6 ["self", "keys"]
 t_Row_to_go:Ze7 K cRow "to_go" "Row.to_go" ZaU ["self"]
 t_Row_head:Ze7 K cRow "head" "Row.head" Za7 ["self"]
 t_Merge_init:Zp7 K mg cMerge "Merge" "Merge.__init__" ZaM ["self", "rows"]
 t_Merge_coming:Ze7 K cMerge "coming" "Merge.coming" Zah ["self"]
 t_Merge_take:Ze7 K cMerge "take" "Merge.take" ZaG ["self"]
 t_Merge_take_few:Ze7 K cMerge "take_few" "Merge.take_few" Z2 ["self", "many"]
 t_Merge_looks:Ze7 K cMerge "looks" "Merge.looks" ZaP ["self"]
 t_Merge_play_all:Ze7 K cMerge "play_all" "Merge.play_all" Z0 ["self"]
 t_Merge_play:Ze7 K cMerge "play" "Merge.play" ZaL ["self", "numbers"]
 t_Merge_send_out:Ze7 K cMerge "send_out" "Merge.send_out" Z3 ["self", "number"]
 t_Merge_play_again:Ze7 K cMerge "play_again" "Merge.play_again" ZS ["self", "meeting", "comer"]
 t_Merge_meet:Ze7 K cMerge "meet" "Merge.meet" ZaI ["self", "one", "other", "far"]
 cl_Row:Cls K cRow
 na_Row_all_keys:Zbh K cRow "all_keys"
 na_Row_fars:Zbh K cRow "fars"
 na_Row_gone:Zbh K cRow "gone"
 cl_Merge:Cls K cMerge
 na_Merge_best:Zbh K cMerge "best"
 na_Merge_likened:Zbh K cMerge "likened"
 na_Merge_looked:Zbh K cMerge "looked"
 na_Merge_next_number:Zbh K cMerge "next_number"
 na_Merge_rows:Zbh K cMerge "rows"
 na_Merge_stays:Zbh K cMerge "stays"
noncomputable def ZaF(H:Hp)(p:Addr)(c:Int):Prop:=∃a b:Int,H p=some (.lst [.int a,.int b,.int c])∧0≤c
noncomputable def But(p:Addr)(H H':Hp):Prop:=∀b o,H b=some o→b≠p→H' b=some o
theorem But.refl(p:Addr)(H:Hp):But p H H:=fun _ _ h _=>h
theorem But.trans{p:Addr}{H H1 H2:Hp}(a:But p H H1)(b:But p H1 H2):But p H H2:=fun c o h n=>b c o (a c o h n) n
theorem But.same{p:Addr}{H H1:Hp}(a:ZC H H1):But p H H1:=fun c o h _=>a c o h
theorem Zh{H:Hp}{p:Addr}(h:H p=none)(o:HO):ZC H (upd H p o):=fun b u q=>by rw[Ze (Zd q h)];exact q
theorem small{n:Nat}(h:n≤1000):n≤sizeLine:=Qav (ZH h)
noncomputable def Zom:Sp:=fun vs H Q _=>∃a k:Int,vs=[.int a,.int k] ∧ -(2 ^ 62)<k∧k<2 ^ 62∧∀r:Int,0≤r→r<2000000000→Q (.int r) H
noncomputable def ZnZ(K:PySem.W.Frag):Sp:=fun vs H Q _=>∃ (a:Addr) (ns:List Int) (k:Int),vs=[.ref a,.int k]∧SqL K H a (ns.map V.int)∧ns.length≤63∧0≤k∧k<100 ∧
 ∀ (p:Addr) (H':Hp),H p=none→ZaF H' p 0→ZC H H'→Q (.ref p) H'
noncomputable def ZdT:Sp:=fun vs H Q _=>∃ (p:Addr) (c m:Int),vs=[.ref p,.int m]∧ZaF H p c∧c<2 ^ 60∧0<m∧m<1000000 ∧
 ∀ (r:Int) (H':Hp),0≤r→r<m→ZaF H' p (c+1)→But p H H'→Q (.int r) H'
theorem ZrX{ns:List Int}{k:Int}(h0:0≤k)(h:k<(ns.length:Int)):∃v:Int,atI (ns.map V.int) k=some (.int v):=by
 have hk:k.toNat<ns.length:=by omega
 have ek:k=((k.toNat:Nat):Int):=by omega
 have q:atI (ns.map V.int) ((k.toNat:Nat):Int)=some (.int ns[k.toNat]):=ZX (by rw[Qi,Qb hk]<;>rfl)
 rw[← ek]at q
 exact⟨_,q⟩
theorem Zj7{ss:List Str}{k:Int}(h0:0≤k)(h:k<(ss.length:Int)):∃s∈ss,atI (ss.map V.str) k=some (.str s):=by
 have hk:k.toNat<ss.length:=by omega
 have ek:k=((k.toNat:Nat):Int):=by omega
 have q:atI (ss.map V.str) ((k.toNat:Nat):Int)=some (.str ss[k.toNat]):=ZX (by rw[Qi,Qb hk]<;>rfl)
 rw[← ek]at q
 exact⟨_,QT hk,q⟩
theorem Zqm(b:Bool):-(2 ^ 64)<(if b=true then (1:Int) else 0)∧(if b=true then (1:Int) else 0)<2 ^ 64:=by cases b<;>decide
theorem ZeM{z:Str}{k:Int}(h0:0≤k)(h:k<(z.length:Int)):∃c:Nat,z.cps.toList[k.toNat]? = some c∧atI z.cps.toList k=some c:=by
 have hl:z.cps.toList.length=z.length:=by simp[Str.length]
 have hk:k.toNat<z.cps.toList.length:=by omega
 have ek:k=((k.toNat:Nat):Int):=by omega
 have q:atI z.cps.toList ((k.toNat:Nat):Int)=some z.cps.toList[k.toNat]:=ZX (Qb hk)
 rw[← ek]at q
 exact⟨_,Qb hk,q⟩
theorem ZmL(sep:Str)(ys:List Str):(Txt.join sep ys).length≤(ys.map (·.length)).sum+ys.length*sep.length:=by
 have e:Txt.join sep ys=Str.join sep ys:=by simpa using join_plain_closes sep ys
 rw[e]
 exact StrLaws.join_length_le sep ys
theorem ZjO:∀ss:List Str,(∀s∈ss,s.length≤1)→(ss.map (·.length)).sum≤ss.length
 | [],_=>Qg _
 | s::r,h=>by
  have h1:=h s Q1
  have h2:=ZjO r fun x hx=>h x (Qu _ hx)
  rw[Ql,Q0,QE]
  omega
noncomputable def lcp:List Nat→List Nat→Nat
 | a::r,b::s=>if a=b then lcp r s+1 else 0
 | _,_=>0
theorem ZfY:∀ (x y:List Nat),lcp x y≤x.length∧lcp x y≤y.length
 | [],_=>⟨Qv _,Qv _⟩
 | _::_,[]=>⟨Qv _,Qv _⟩
 | a::r,b::s=>by
  have h:=ZfY r s
  unfold lcp
  split
  ·exact⟨QaZ h.1,QaZ h.2⟩
  ·exact⟨Qv _,Qv _⟩
theorem Zcq:∀ (x y:List Nat),lcp x y=lcp y x
 | [],[]=>rfl
 | [],_::_=>rfl
 | _::_,[]=>rfl
 | a::r,b::s=>by
  unfold lcp
  by_cases h:a=b
  ·rw[if_pos h,if_pos h.symm,Zcq r s]
  ·rw[if_neg h,if_neg fun e=>h e.symm]
theorem ZjV:∀x:List Nat,lcp x x=x.length
 | []=>rfl
 | a::r=>by unfold lcp;rw[if_pos rfl,ZjV r];rfl
theorem Zd6(x:List Nat):lcp x []=0:=by cases x<;>rfl
theorem lcp_nil'(x:List Nat):lcp [] x=0:=by cases x<;>rfl
theorem Zn0:∀ (x y:List Nat) (k:Nat),k≤lcp x y→∀a,x[k]? = some a→y[k]? = some a→k+1≤lcp x y
 | [],_,k,_,a,h,_=>by simp at h
 | _::_,[],k,_,a,_,h=>by simp at h
 | a::r,b::s,0,_,c,h1,h2=>by
  simp at h1 h2
  unfold lcp
  rw[if_pos (by rw[h1,h2])]
  omega
 | a::r,b::s,k+1,h,c,h1,h2=>by
  unfold lcp at h ⊢
  by_cases e:a=b
  ·rw[if_pos e]at h ⊢
   have:=Zn0 r s k (by omega) c (by simpa using h1) (by simpa using h2)
   omega
  ·rw[if_neg e]at h;omega
theorem ZnX:∀ (x y:List Nat) (k:Nat),k<lcp x y→x[k]? = y[k]?
 | [],_,k,h=>by unfold lcp at h;omega
 | _::_,[],k,h=>by unfold lcp at h;omega
 | a::r,b::s,0,h=>by
  unfold lcp at h
  by_cases e:a=b
  ·simp[e]
  ·rw[if_neg e]at h;omega
 | a::r,b::s,k+1,h=>by
  unfold lcp at h
  by_cases e:a=b
  ·rw[if_pos e]at h
   simpa using ZnX r s k (by omega)
  ·rw[if_neg e]at h;omega
theorem ZiG(x y:List Nat)(k:Nat)(h:k≤lcp x y)(n:x.length≤k∨y.length≤k∨∃a b,x[k]? = some a∧y[k]? = some b∧a≠b):lcp x y=k:=by
 have l:=ZfY x y
 rcases n with n|n|⟨a,b,h1,h2,ne⟩
 ·omega
 ·omega
 ·by_cases q:k<lcp x y
  ·have:=ZnX x y k q
   rw[h1,h2]at this
   exact absurd (Qr this) ne
  ·omega
theorem Zfg:∀ (x y z:List Nat),(lcp x y≤lcp x z∧lcp y z=lcp x y)∨(lcp x y≤lcp y z∧lcp x z=lcp x y)∨(lcp x z≤lcp x y∧lcp y z=lcp x z)
 | [],y,z=>.inr (.inl ⟨by rw[lcp_nil'];exact Qv _,by rw[lcp_nil',lcp_nil']⟩)
 | x,[],z=>.inl ⟨by rw[Zd6];exact Qv _,by rw[Zd6,lcp_nil']⟩
 | x,y,[]=>.inr (.inr ⟨by rw[Zd6];exact Qv _,by rw[Zd6,Zd6]⟩)
 | a::r,b::s,c::t=>by
  have ih:=Zfg r s t
  unfold lcp
  by_cases h1:a=b
  ·by_cases h2:b=c
   ·rw[if_pos h1,if_pos h2,if_pos (h1.trans h2)]
    rcases ih with ⟨p,q⟩|⟨p,q⟩|⟨p,q⟩
    ·exact .inl ⟨by omega,by omega⟩
    ·exact .inr (.inl ⟨by omega,by omega⟩)
    ·exact .inr (.inr ⟨by omega,by omega⟩)
   ·rw[if_pos h1,if_neg h2,if_neg fun e=>h2 (h1.symm.trans e)]
    clear ih;omega
  ·rw[if_neg h1]
   by_cases h2:b=c
   ·rw[if_pos h2,if_neg fun e=>h1 (e.trans h2.symm)]
    clear ih;omega
   ·rw[if_neg h2]
    clear ih;omega
noncomputable abbrev cds(z:Str):List Nat:=z.cps.toList
noncomputable def AZ(z:Str):Prop:=∀c∈cds z,97≤c∧c≤122
theorem ZpM(x y:Str):cds (x++y)=cds x++cds y:=by
 show (x++y).cps.toList=_
 rw[PySem.Str.cps_append]
 simp
theorem AZ.app{x y:Str}(a:AZ x)(b:AZ y):AZ (x++y):=fun c h=>by
 rw[ZpM]at h
 exact(Qh.mp h).elim (a c) (b c)
theorem AZ.nil:AZ "":=by unfold AZ cds;ac_rfl
theorem AZ.join:∀ys:List Str,(∀s∈ys,AZ s)→AZ (Str.join "" ys)
 | [],_=>fun c h=>by cases (show c∈([]:List Nat) from h)
 | [x],h=>h x (by simp)
 | x::y::r,h=>((h x (by simp)).app AZ.nil).app (AZ.join (y::r) fun s hs=>h s (Qu _ hs))
theorem AZ.joinT(ys:List Str)(h:∀s∈ys,AZ s):AZ (Txt.join "" ys):=by
 have e:Txt.join "" ys=Str.join "" ys:=by simpa using join_plain_closes "" ys
 rw[e]
 exact AZ.join ys h
theorem AZ.one{z:Str}(a:AZ z){k:Nat}{c:Nat}(h:z.cps.toList[k]? = some c):AZ ⟨#[c]⟩:=fun d hd=>by
 have e:d=c:=by simpa using hd
 rw[e]
 exact a c (Qo h)
theorem AZ.ok{z:Str}(a:AZ z):PyData.strOk z=true:=by
 unfold PyData.strOk
 rw[Array.all_eq_true]
 intro i hi
 have:=a z.cps[i] (by simp)
 exact decide_eq_true (by omega)
theorem Zq0:AZ "ababcz":=by unfold AZ cds;ac_rfl
noncomputable def ZfM:Sp:=fun vs H Q _=>∃x y:Str,vs=[.str x,.str y]∧x.length≤1000∧y.length≤1000∧Q (.int (lcp (cds x) (cds y))) H
noncomputable def ZcB:Sp:=fun vs H Q _=>∃ (x y:Str) (far:Nat),vs=[.str x,.str y,.int far]∧x.length≤1000∧y.length≤1000∧far≤lcp (cds x) (cds y)∧Q (.int (lcp (cds x) (cds y))) H
noncomputable def IsD(H:Hp):Nat→V→V→Prop
 | 0,_,_=>False
 | n+1,x,y=>(x=y∧(x=.non∨(∃b,x=.bl b)∨(∃i,x=.int i)∨∃s,x=.str s)) ∨
   (∃ (p q:Addr) (xs ys:List V),x=.ref p∧y=.ref q∧((H p=some (.lst xs)∧H q=some (.lst ys))∨(H p=some (.tup xs)∧H q=some (.tup ys)))∧xs.length=ys.length∧xs.length≤1000∧∀ (i:Nat) (x y:V),xs[i]? = some x→ys[i]? = some y→IsD H n x y)
section
variable (K:PySem.W.Frag)
open PySem.W
theorem Zhk:kitOne K (.type "list") (.type "list")=some true:=by unfold kitOne kitCls;rfl
theorem ZhE:kitOne K (.type "tuple") (.type "tuple")=some true:=by unfold kitOne kitCls;rfl
theorem ZnY:kitOne K (.type "int") (.type "bool")=some false:=by unfold kitOne kitCls;rfl
theorem Zmc:kitOne K (.type "int") (.type "int")=some true:=by unfold kitOne kitCls;rfl
end
section
variable {P:Program} {w:World} {K:PySem.W.Frag} {mg:Str→Option Value} {base:Heap} {cRow cMerge:Addr}
theorem Zru(T:Zaf K mg cRow cMerge):Df P w K mg base 1 "_law_mix" ["_law_cell", "_law_k"] Zom:=by
 refine T.t_l_mix.df ZjW (fun vs H Q E h=>?_) (fun cdv f A outer s H vs Q E hr h=>?_)
 ·obtain⟨a,k,rfl,_⟩:=h
  rfl
 obtain⟨a,k,rfl,k1,k2,q⟩:=h
 refine⟨_,#[Zg,#[Zy,2,ZjW.nd,(Or.inl rfl),#[ZF,Zgn,#[ZF,ZeB,#[ZF,Zac,#[ZF,Zac,#[ZF,Zgn,‹0›,#[Zi]],#[ZF,ZeB,#[ZF,ZeB,‹1›,‹1›],#[Zi]]],#[Zi]],#[Zi]],#[Zi]]],#[Zj,#[Zm,#[ZF,Zgn,#[ZF,ZeB,‹2›,‹2›],#[Zi]]]]],?_⟩
 refine⟨_,rfl,_,_,rfl,rfl,(by show (0:Int)<_;decide),_,rfl,_,rfl,_,_,rfl,rfl,.inl ⟨by omega,by omega⟩,_,_,rfl,rfl,.inr ⟨by decide,by decide⟩,_,_,rfl,rfl,_,_,rfl,rfl,_,_,rfl,rfl,.inr ⟨by decide,by decide⟩,_,_,rfl,rfl,(by show (0:Int)<_;decide),?_⟩
 have m0:=Int.emod_nonneg ((a % 2147483629+k*k*7919+11)*48271) (show (2147483647:Int)≠0 by decide)
 have m1:=QaO ((a % 2147483629+k*k*7919+11)*48271) (show (0:Int)<2147483647 by decide)
 refine⟨_,rfl,_,rfl,_,_,rfl,rfl,.inl ⟨by clear m1 q k2 k1 m0;omega,by omega⟩,_,_,rfl,rfl,(by show (0:Int)<_;decide),?_⟩
 exact q _ (Int.emod_nonneg _ (by decide)) (Int.lt_trans (QaO _ (by decide)) (by decide))
theorem Zpv(T:Zaf K mg cRow cMerge):Df P w K mg base 1 "_law_left" ["_law_script", "_law_k"] (ZnZ K):=by
 refine T.t_l_left.df Zhb (fun vs H Q E h=>?_) (fun cdv f A outer s H vs Q E hr h=>?_)
 ·obtain⟨a,ns,k,rfl,_⟩:=h
  rfl
 obtain⟨a,ns,k,rfl,hS,h63,k0,k1,q⟩:=h
 refine⟨_,#[Zg,#[Zy,2,Zhb.nd,(Or.inl rfl),#[Zbq,#[Zn,Zdq,‹1›,#[Zk,(ZaR K),(by rfl),T.b.n_len,Qq,#[Za,‹0›,#[Zc]]],(Zs _)],#[Zz,(ixL K),‹0›,‹1›],#[Zi]]],#[Zj,#[Zm,#[Zbg,#[Za,#[ZF,ZeB,#[Zk,Zi2,(by rfl),T.b.n_abs,boot_abs,#[Za,‹2›,#[Zc]]],#[Z4,ZhX,T.b.n_int,boot_int,#[Za,(@ZeU _ _ _ _ _ _ _ _ Znc #[Zk,Zi2,(by rfl),T.b.n_abs,boot_abs,#[Za,‹2›,#[Zc]]] #[ZF,ZrS,#[Zi],#[Zi]] (Zs _)),#[Zc]]]],#[Za,#[ZF,Zac,‹2›,#[ZF,ZeB,#[Zi],‹1›]],#[Za,#[Zi],#[Zc]]]]]]]],?_⟩
 have hl:(ns.map V.int).length=ns.length:=Qa _
 have pw:Zsw 10 18:=⟨by decide,by decide,by decide⟩
 refine⟨_,rfl,_,rfl,a,_,rfl,.inl hS,_,_,rfl,rfl,_,rfl,?_⟩
 refine ZaX (fun c=>?_) (fun c=>?_)
 ·have c':k<(((ns.map V.int).length:Nat):Int):=of_decide_eq_true c
  rw[hl]at c'
  obtain⟨v,hv⟩:=ZrX (ns:=ns) k0 c'
  refine⟨_,rfl,_,rfl,xw4 a _ _ _ ⟨rfl,rfl,hS,hv,?_⟩⟩
  refine⟨_,rfl,_,rfl,_,rfl,_,rfl,_,_,rfl,rfl,pw,_,_,rfl,rfl,.inr ⟨_,rfl,_,_,rfl,rfl,.inr (Zqm _),_,rfl,_,rfl,_,_,rfl,rfl,.inl ⟨by decide,by decide⟩,_,_,rfl,rfl,(by show 3≤sizeLine;decide),fun p hp=>?_⟩⟩
  exact q p _ hp ⟨_,_,Zb,QaC _⟩ (Zh hp _)
 ·refine⟨_,rfl,_,rfl,_,rfl,_,rfl,_,_,rfl,rfl,pw,_,_,rfl,rfl,.inr ⟨_,rfl,_,_,rfl,rfl,.inr (Zqm _),_,rfl,_,rfl,_,_,rfl,rfl,.inl ⟨by decide,by decide⟩,_,_,rfl,rfl,(by show 3≤sizeLine;decide),fun p hp=>?_⟩⟩
  exact q p _ hp ⟨_,_,Zb,QaC _⟩ (Zh hp _)
theorem ZpY(T:Zaf K mg cRow cMerge)(f_l_mix:Df P w K mg base 1 "_law_mix" ["_law_cell", "_law_k"] Zom):Df P w K mg base 2 "_law_pick" ["_law_left_here", "_law_many"] ZdT:=by
 refine T.t_l_pick.df Zhz (fun vs H Q E h=>?_) (fun cdv f A outer s H vs Q E hr h=>?_)
 ·obtain⟨p,c,m,rfl,_⟩:=h
  rfl
 obtain⟨p,c,m,rfl,⟨a,b,hp,c0⟩,c1,m0,m1,q⟩:=h
 refine⟨_,#[Zg,#[ZaZ,#[ZF,Zac,#[Zz,(ixL K),‹0›,#[Zi]],#[Zi]],#[ZdC,‹0›,#[Zi],ZjY]],#[Zg,#[ZZ,#[Zn,ZfE,#[Zz,(ixL K),‹0›,#[Zi]],#[Zi],(Zs _)],#[Zg,#[Zy,2,Zhz.nd,(Or.inl rfl),#[ZF,Zgn,#[Zz,(ixL K),‹0›,#[Zi]],‹1›]],#[Zg,#[ZaZ,#[ZF,ZeK,#[Zz,(ixL K),‹0›,#[Zi]],‹1›],#[ZdC,‹0›,#[Zi],ZjY]],#[Zj,#[Zm,‹2›]]]],#[ZD]],#[Zj,#[Zm,#[ZF,Zgn,#[ZF,ZeK,#[ZB,f_l_mix,hr,#[Za,#[ZB,f_l_mix,hr,#[Za,#[Zz,(ixL K),‹0›,#[Zi]],#[Za,#[Zz,(ixL K),‹0›,#[Zi]],#[Zc]]],(by rfl)],#[Za,#[ZF,Zac,#[Zz,(ixL K),‹0›,#[Zi]],#[Zi]],#[Zc]]],(by rfl)],#[Zi]],‹1›]]]]],?_⟩
 have u1:(upd H p (.lst [.int a,.int b,.int (c+1)])) p=some (.lst [.int a,.int b,.int (c+1)]):=Zb
 refine⟨_,rfl,xw4 p _ _ _ ⟨rfl,rfl,SqL.of hp,rfl,_,_,rfl,rfl,_,rfl,p,_,_,2,rfl,rfl,hp,rfl,?_⟩⟩
 refine⟨_,rfl,xw4 p _ _ _ ⟨rfl,rfl,SqL.of u1,rfl,_,_,rfl,rfl,_,rfl,?_⟩⟩
 refine ZaX (fun d=>?_) (fun d=>?_)
 ·refine⟨_,rfl,xw4 p _ _ _ ⟨rfl,rfl,SqL.of u1,rfl,_,rfl,_,_,rfl,rfl,m0,?_⟩⟩
  refine⟨_,rfl,xw4 p _ _ _ ⟨rfl,rfl,SqL.of u1,rfl,_,rfl,_,_,rfl,rfl,⟨m0,by omega⟩,_,rfl,p,_,_,0,rfl,rfl,u1,rfl,?_⟩⟩
  refine⟨_,rfl,?_⟩
  refine q _ _ (Int.emod_nonneg _ (by omega)) (QaO _ m0) ⟨a / m,b,Zb,by omega⟩ fun e o h n=>?_
  rw[Ze n,Ze n]
  exact h
 ·refine⟨_,rfl,xw4 p _ _ _ ⟨rfl,rfl,SqL.of u1,rfl,_,rfl,xw4 p _ _ _ ⟨rfl,rfl,SqL.of u1,rfl,_,_,rfl,by omega,by omega,fun r r0 r1=>?_⟩⟩⟩
  refine⟨_,rfl,xw4 p _ _ _ ⟨rfl,rfl,SqL.of u1,rfl,_,_,rfl,rfl,_,_,rfl,by omega,by omega,fun r' r0' r1'=>?_⟩⟩
  refine⟨_,_,rfl,rfl,⟨by decide,by decide⟩,_,rfl,_,_,rfl,rfl,m0,?_⟩
  refine q _ _ (Int.emod_nonneg _ (by omega)) (QaO _ m0) ⟨a,b,Zb,by omega⟩ fun e o h n=>?_
  rw[Ze n]
  exact h
noncomputable def ZbY:List Str:=["", "a", "ab", "aba", "abab", "b", "zebra", "aaaaaaaa", "knowswho", "z", "abababababab",Txt.mul "a" 24]
theorem Zjo:∀s∈ZbY,s.length≤24:=by ac_rfl
theorem Zko:∀s∈ZbY,AZ s:=by unfold AZ cds;ac_rfl
noncomputable def Zii:Sp:=fun vs H Q _=>∃ (p:Addr) (c:Int),vs=[.ref p]∧ZaF H p c∧c<2 ^ 50 ∧
 ∀ (l:Addr) (ss:List Str) (c':Int) (H':Hp),H l=none→H' l=some (.lst (ss.map V.str))→1≤ss.length→ss.length≤4→(∀s∈ss,s.length≤24∧AZ s)→ZaF H' p c'→c≤c'→c'≤c+5→But p H H'→Q (.ref l) H'
noncomputable def ZmP:Sp:=fun vs H Q _=>∃ (p l:Addr) (c:Int) (ss:List Str),vs=[.ref p,.ref l]∧ZaF H p c∧c<2 ^ 50∧H l=some (.lst (ss.map V.str))∧1≤ss.length∧ss.length≤4∧(∀s∈ss,s.length≤24∧AZ s) ∧
 ∀ (z:Str) (c':Int) (H':Hp),z.length≤28→AZ z→ZaF H' p c'→c≤c'→c'≤c+6→But p H H'→Q (.str z) H'
theorem Zow(T:Zaf K mg cRow cMerge)(f_l_pick:Df P w K mg base 2 "_law_pick" ["_law_left_here", "_law_many"] ZdT):Df P w K mg base 3 "_law_stems" ["_law_left_here"] Zii:=by
 refine T.t_l_stems.df ZgK (fun vs H Q E h=>?_) (fun cdv f A outer s H vs Q E hr h=>?_)
 ·obtain⟨p,c,rfl,_⟩:=h
  rfl
 obtain⟨p,c,rfl,hL,c1,q⟩:=h
 refine⟨_,#[Zg,#[Zy,1,ZgK.nd,(Or.inr rfl),#[Zbg,#[Za,#[ZbA],#[Za,#[ZbA],#[Za,#[ZbA],#[Za,#[ZbA],#[Za,#[ZbA],#[Za,#[ZbA],#[Za,#[ZbA],#[Za,#[ZbA],#[Za,#[ZbA],#[Za,#[ZbA],#[Za,#[ZbA],#[Za,#[ZF,Zpx,#[ZbA],#[Zi]],#[Zc]]]]]]]]]]]]]]],#[Zj,#[Zm,#[Zav,Zoa,#[Zbu,T.b.n_range,#[Za,#[ZF,Zac,#[Zi],#[ZB,f_l_pick,hr,#[Za,#[pv,0,(Or.inr (Or.inl rfl))],#[Za,#[Zi],#[Zc]]],(by rfl)]],#[Zc]]],(fun _ _ _ _=>#[cgL,2,Zoa]),(fun _ _ _ _=>(@Zaw _)),(fun _ _ _ _=>#[Zz,(ixL K),#[cvC,1,Zoa],#[ZB,f_l_pick,hr,#[Za,#[cvC,0,Zoa],#[Za,#[Zi],#[Zc]]],(ZaY Zoa rfl (by ac_rfl))]])]]]],?_⟩
 refine⟨_,_,rfl,rfl,by decide,by decide,by decide,(by show 12≤sizeLine;decide),fun l hl=>?_⟩
 have npl:p≠l:=by obtain⟨a,b,hp,_⟩:=hL;exact Zd hp hl
 have hL1:ZaF (upd H l (.lst (ZbY.map V.str))) p c:=by obtain⟨a,b,hp,c0⟩:=hL;exact⟨a,b,by rw[Ze npl];exact hp,c0⟩
 refine⟨_,rfl,p,c,_,rfl,hL1,by omega,by decide,by decide,fun r H1 r0 r1 L1 B1=>?_⟩
 refine⟨_,_,rfl,rfl,_,rfl,by omega,by omega,fun D hD=>?_⟩
 have c0:0≤c:=by obtain⟨a,b,hp,c0⟩:=hL;exact c0
 have h1l:H1 l=some (.lst (ZbY.map V.str)):=B1 l _ Zb npl.symm
 have npD:p≠D:=by obtain⟨a,b,hp,_⟩:=L1;exact Zd hp hD
 have nlD:l≠D:=Zd h1l hD
 refine Zcm (fun i ys σ H2=>∃ (ss:List Str) (v:Option V) (c2:Int),σ=[some (.ref p),some (.ref l),v]∧ys=ss.map V.str∧ss.length=i∧(∀s∈ss,s.length≤24∧AZ s)∧ZaF H2 p c2∧c+1≤c2∧c2≤c+1+i ∧
   H2 l=some (.lst (ZbY.map V.str))∧H2 D=some (.lst ys)∧But p H H2) ?_ ?_ ?_
 ·refine⟨[],none,c+1,rfl,rfl,rfl,(fun s hs=>by cases hs),?_,by omega,by omega,?_,Zb,?_⟩
  ·obtain⟨a,b,hp,q0⟩:=L1
   exact⟨a,b,by rw[Ze npD];exact hp,q0⟩
  ·rw[Ze nlD];exact h1l
  ·intro b o e n
   have e1:(upd H l (.lst (ZbY.map V.str))) b=some o:=by rw[Ze (Zd e hl)];exact e
   have e2:=B1 b o e1 n
   rw[Ze (Zd e2 hD)]
   exact e2
 ·rintro i ys σ H2 hi ⟨ss,v,c2,rfl,rfl,hn,hs,L2',b1,b2,hl2,hD2,B2⟩
  refine⟨_,rfl,_,rfl,p,c2,_,rfl,L2',by clear hs nlD npD npl q b1 hn c0 r0;omega,by decide,by decide,fun r' H3 r0' r1' L3 B3=>?_⟩
  obtain⟨s,hs1,hs2⟩:=Zj7 (ss:=ZbY) r0' r1'
  have hD3:H3 D=some (.lst (ss.map V.str)):=B3 D _ hD2 npD.symm
  have hl3:H3 l=some (.lst (ZbY.map V.str)):=B3 l _ hl2 npl.symm
  refine(xw4 l _ _ _ ⟨rfl,rfl,SqL.of hl3,hs2,hD3,(by rw[Qa,hn];exact ZH (by omega)),ss++[s],_,c2+1,rfl,?_,?_,?_,?_,by omega,by omega,?_,Zb,?_⟩)
  ·rw[Qf];rfl
  ·rw[Qe,hn];rfl
  ·intro x hx
   rcases Qh.mp hx with hx|hx
   ·exact hs x hx
   ·rw[Qd.mp hx];exact⟨Zjo s hs1,Zko s hs1⟩
  ·obtain⟨a,b,hp,q0⟩:=L3
   exact⟨a,b,by rw[Ze npD];exact hp,q0⟩
  ·rw[Ze nlD];exact hl3
  ·intro b o e n
   have e2:=B3 b o (B2 b o e n) n
   have e3:H D=none:=by
    cases w':H D with
    | none=>rfl
    | some u =>
     have nDp:D≠p:=npD.symm
     have z1:(upd H l (.lst (ZbY.map V.str))) D=some u:=by rw[Ze nlD.symm];exact w'
     rw[B1 D u z1 nDp]at hD
     cases hD
   rw[Ze (Zd e e3)]
   exact e2
 ·rintro ys σ H2 ⟨ss,v,c2,rfl,rfl,hn,hs,L2',b1,b2,hl2,hD2,B2⟩
  have e3:H D=none:=by
   cases w':H D with
   | none=>rfl
   | some u =>
    have z1:(upd H l (.lst (ZbY.map V.str))) D=some u:=by rw[Ze nlD.symm];exact w'
    rw[B1 D u z1 npD.symm]at hD
    cases hD
  exact q D ss c2 H2 e3 hD2 (by omega) (by omega) hs L2' (by omega) (by omega) B2
theorem ZqC(T:Zaf K mg cRow cMerge)(f_l_pick:Df P w K mg base 2 "_law_pick" ["_law_left_here", "_law_many"] ZdT):Df P w K mg base 3 "_law_key" ["_law_left_here", "_law_stems_here"] ZmP:=by
 refine T.t_l_key.df Zjc (fun vs H Q E h=>?_) (fun cdv f A outer s H vs Q E hr h=>?_)
 ·obtain⟨p,l,c,ss,rfl,_⟩:=h
  rfl
 obtain⟨p,l,c,ss,rfl,hL,c1,hl,n1,n4,h24,q⟩:=h
 refine⟨_,#[Zg,#[Zy,2,Zjc.nd,(Or.inl rfl),#[ZcA,PySem.F.plainAttrs_str,PySem.F.slot_str_join,PySem.F.type_str_join,(ZsB K),#[ZbA],#[Za,#[Zav,ZpZ,#[Zbu,T.b.n_range,#[Za,#[ZB,f_l_pick,hr,#[Za,#[pv,0,(Or.inr (Or.inl rfl))],#[Za,#[Zi],#[Zc]]],(by rfl)],#[Zc]]],(fun _ _ _ _=>#[cgL,3,ZpZ]),(fun _ _ _ _=>(@Zaw _)),(fun _ _ _ _=>#[Zz,ZgF,#[ZbA],#[ZB,f_l_pick,hr,#[Za,#[cvC,0,ZpZ],#[Za,#[Zi],#[Zc]]],(ZaY ZpZ rfl (by ac_rfl))]])],#[Zc]]]],#[Zj,#[Zm,#[ZF,Zkt,#[Zz,(ixL K),‹1›,#[ZB,f_l_pick,hr,#[Za,#[pv,0,(Or.inr (Or.inl rfl))],#[Za,#[Zk,(ZaR K),(by rfl),T.b.n_len,Qq,#[Za,‹1›,#[Zc]]],#[Zc]]],(by rfl)]],‹2›]]]],?_⟩
 have c0:0≤c:=by obtain⟨a,b,hp,c0⟩:=hL;exact c0
 have npl:p≠l:=by
  obtain⟨a,b,hp,_⟩:=hL
  refine Zk7 hp hl fun e=>?_
  have e1:=congrArg List.length (HO.lst.inj e)
  cases ss with
  | nil=>cases e1
  | cons x r=>exact absurd (HO.lst.inj e) (by intro z;cases z)
 refine⟨rfl,_,rfl,p,c,_,rfl,hL,by omega,by decide,by decide,fun r H1 r0 r1 L1 B1=>?_⟩
 refine⟨_,rfl,by omega,by omega,fun D hD=>?_⟩
 have npD:p≠D:=by obtain⟨a,b,hp,_⟩:=L1;exact Zd hp hD
 have h1l:=B1 l _ hl npl.symm
 have nlD:l≠D:=Zd h1l hD
 have hDn:H D=none:=by
  cases w':H D with
  | none=>rfl
  | some u=>rw[B1 D u w' npD.symm]at hD;cases hD
 refine Zcm (fun i ys σ H2=>∃ (ts:List Str) (v:Option V) (c2:Int),σ=[some (.ref p),some (.ref l),none,v]∧ys=ts.map V.str∧ts.length=i∧(∀s∈ts,s.length≤1∧AZ s)∧ZaF H2 p c2∧c+1≤c2∧c2≤c+1+i ∧
   H2 D=some (.lst ys)∧But p H H2) ?_ ?_ ?_
 ·refine⟨[],none,c+1,rfl,rfl,rfl,(fun s hs=>by cases hs),?_,by omega,by omega,Zb,?_⟩
  ·obtain⟨a,b,hp,q0⟩:=L1
   exact⟨a,b,by rw[Ze npD];exact hp,q0⟩
  ·intro b o e n
   rw[Ze (Zd e hDn)]
   exact B1 b o e n
 ·rintro i ys σ H2 hi ⟨ts,v,c2,rfl,rfl,hn,hs,L2',b1,b2,hD2,B2⟩
  refine⟨_,rfl,p,c2,_,rfl,L2',by clear hs nlD npD npl q h24 n4 n1 b1 hn r0 c0;omega,by decide,by decide,fun r' H3 r0' r1' L3 B3=>?_⟩
  obtain⟨ch,hcm,hch⟩:=ZeM (z := "ababcz") r0' r1'
  have hD3:H3 D=some (.lst (ts.map V.str)):=B3 D _ hD2 npD.symm
  refine⟨_,_,_,rfl,rfl,(by ac_rfl),hch,hD3,(by rw[Qa,hn];exact ZH (by omega)),ts++[⟨#[ch]⟩],_,c2+1,rfl,?_,?_,?_,?_,by omega,by omega,Zb,?_⟩
  ·rw[Qf];rfl
  ·rw[Qe,hn];rfl
  ·intro x hx
   rcases Qh.mp hx with hx|hx
   ·exact hs x hx
   ·rw[Qd.mp hx];exact⟨Qg 1,Zq0.one hcm⟩
  ·obtain⟨a,b,hp,q0⟩:=L3
   exact⟨a,b,by rw[Ze npD];exact hp,q0⟩
  ·intro b o e n
   rw[Ze (Zd e hDn)]
   exact B3 b o (B2 b o e n) n
 ·rintro ys σ H2 ⟨ts,v,c2,rfl,rfl,hn,hs,L2',b1,b2,hD2,B2⟩
  have hsum:=ZjO ts fun s h=>(hs s h).1
  have hjl:=ZmL "" ts
  have e0:("" : Str).length=0:=by ac_rfl
  rw[e0]at hjl
  have hl2:=B2 l _ hl npl.symm
  refine⟨_,D,ts,rfl,rfl,SqL.of hD2,(by rw[e0];omega),?_⟩
  have hlen:(((ss.map V.str).length:Nat):Int)=(ss.length:Int):=by rw[Qa]
  refine⟨_,rfl,_,rfl,_,rfl,l,_,rfl,.inl (SqL.of hl2),p,c2,_,rfl,L2',by omega,by omega,by omega,fun r' H3 r0' r1' L3 B3=>?_⟩
  obtain⟨st,hs1,hs2⟩:=Zj7 (ss:=ss) r0' (by omega)
  have hst:=(h24 st hs1).1
  refine(xw4 l _ _ _ ⟨rfl,rfl,SqL.of (B3 l _ hl2 npl.symm),hs2,_,rfl,_,_,rfl,rfl,small (by omega),?_⟩)
  refine q _ (c2+1) H3 ?_ ((h24 st hs1).2.app (AZ.joinT ts fun s h=>(hs s h).2)) L3 (by omega) (by omega) (B2.trans B3)
  rw[PySem.Str.length_append]
  omega
theorem Zg5(T:Zaf K mg cRow cMerge):Df P w K mg base 1 "alike_from" ["one", "other", "far"] ZcB:=by
 refine T.t_alike_from.df ZcC (fun vs H Q E h=>?_) (fun cdv f A outer s H vs Q E hr h=>?_)
 ·obtain⟨x,y,far,rfl,_⟩:=h
  rfl
 obtain⟨x,y,far,rfl,hx,hy,hf,q⟩:=h
 refine⟨_,#[Zg,#[Zy,3,ZcC.nd,(Or.inl rfl),‹2›],#[Zg,(@ZdN _ _ _ _ _ _ PassesOwn.never (@PW.pt _ _ _ #[ZeA,#[Zn,Zdq,‹3›,#[Zk,Zba,(by rfl),T.b.n_len,Qq,#[Za,‹0›,#[Zc]]],(Zs _)],#[ZeA,#[Zn,Zdq,‹3›,#[Zk,Zba,(by rfl),T.b.n_len,Qq,#[Za,‹1›,#[Zc]]],(Zs _)],(@Zeb _ _ _ _ #[Zn,Zbf,#[Zz,ZgF,‹0›,‹3›],#[Zz,ZgF,‹1›,‹3›],(Zs _)])]]) #[Zj,(@Zm0 _ _ 3 _ _ _ _ _ _ ZcC.nd rfl (Or.inl rfl) #[Zi] Zog (by trivial))]),#[Zj,#[Zm,‹3›]]]],?_⟩
 refine⟨_,rfl,?_⟩
 have lx:(cds x).length=x.length:=by simp[Str.length]
 have ly:(cds y).length=y.length:=by simp[Str.length]
 have ll:=ZfY (cds x) (cds y)
 refine⟨fun m σ H2=>∃k:Nat,σ=[some (.str x),some (.str y),some (.int far),some (.int k)]∧H2=H∧k≤lcp (cds x) (cds y)∧m=lcp (cds x) (cds y)-k,⟨_,far,rfl,rfl,hf,rfl⟩,?_⟩
 rintro m σ H2 ⟨k,rfl,rfl,hk,rfl⟩
 refine⟨_,rfl,_,rfl,x,rfl,small hx,_,_,rfl,rfl,_,rfl,?_⟩
 refine ZaX (fun d1=>?_) (fun d1=>?_)
 ·have d1':(k:Int)<(x.length:Int):=of_decide_eq_true d1
  refine⟨_,rfl,_,rfl,y,rfl,small hy,_,_,rfl,rfl,_,rfl,?_⟩
  refine ZaX (fun d2=>?_) (fun d2=>?_)
  ·have d2':(k:Int)<(y.length:Int):=of_decide_eq_true d2
   obtain⟨a,ha,ha'⟩:=ZeM (z:=x) (k:=k) (by omega) d1'
   obtain⟨b,hb,hb'⟩:=ZeM (z:=y) (k:=k) (by omega) d2'
   rw[Q5]at ha hb
   refine⟨_,rfl,_,rfl,x,_,a,rfl,rfl,small hx,ha',_,rfl,_,rfl,y,_,b,rfl,rfl,small hy,hb',rfl,_,rfl,?_⟩
   refine ZaX (fun d3=>?_) (fun d3=>?_)
   ·have d3':a=b:=by
     have:=of_decide_eq_true d3
     injection this with e
     injection e with e
     simpa using e
    subst d3'
    have:=Zn0 _ _ k hk a ha hb
    refine⟨fun σ' H'=>σ'=[some (.str x),some (.str y),some (.int far),some (.int ((k+1:Nat):Int))]∧H'=H2,fun σ' H' ⟨e1,e2⟩=>⟨_,?_,k+1,e1,e2,this,rfl⟩,?_⟩
    ·omega
    ·exact⟨_,rfl,_,_,rfl,rfl,rfl,rfl⟩
   ·refine⟨_,rfl,?_⟩
    have e:=ZiG _ _ k hk (.inr (.inr ⟨a,b,ha,hb,fun e=>d3 (by subst e;exact decide_eq_true rfl)⟩))
    rw[e]at q
    exact q
  ·refine Zcl ⟨_,rfl,?_⟩
   have d2':¬ (k:Int)<(y.length:Int):=of_decide_eq_false (Bool.eq_false_iff.mpr d2)
   have e:=ZiG _ _ k hk (.inr (.inl (by omega)))
   rw[e]at q
   exact q
 ·refine Zcl ⟨_,rfl,?_⟩
  have d1':¬ (k:Int)<(x.length:Int):=of_decide_eq_false (Bool.eq_false_iff.mpr d1)
  have e:=ZiG _ _ k hk (.inl (by omega))
  rw[e]at q
  exact q
theorem Zor(T:Zaf K mg cRow cMerge)(f_alike_from:Df P w K mg base 1 "alike_from" ["one", "other", "far"] ZcB):Df P w K mg base 2 "alike" ["one", "other"] ZfM:=by
 refine T.t_alike.df Zos (fun vs H Q E h=>?_) (fun cdv f A outer s H vs Q E hr h=>?_)
 ·obtain⟨x,y,rfl,_⟩:=h
  rfl
 obtain⟨x,y,rfl,hx,hy,q⟩:=h
 refine⟨_,#[Zj,#[Zm,#[ZB,f_alike_from,hr,#[Za,‹0›,#[Za,‹1›,#[Za,#[Zi],#[Zc]]]],(by rfl)]]],?_⟩
 exact⟨_,rfl,_,rfl,x,y,0,rfl,hx,hy,Qv _,q⟩
theorem ZgV{c A B:Prop}[Decidable c](hc:c)(h:A):if decide c=true then A else B:=by
 rw[if_pos (decide_eq_true hc)]
 exact h
theorem Zds{c A B:Prop}[Decidable c](hc:¬ c)(h:B):if decide c=true then A else B:=by
 rw[if_neg (by rw[decide_eq_false hc];exact QC)]
 exact h
theorem ZaF.new{H:Hp}{p l:Addr}{c:Int}{o:HO}(h:ZaF H p c)(n:H l=none):ZaF (upd H l o) p c:=by
 obtain⟨a,b,hp,c0⟩:=h
 exact⟨a,b,by rw[Ze (Zd hp n)];exact hp,c0⟩
theorem ZaF.ge{H:Hp}{p:Addr}{c:Int}(h:ZaF H p c):0≤c:=by obtain⟨a,b,hp,c0⟩:=h;exact c0
theorem ZaF.here{H:Hp}{p:Addr}{c:Int}(h:ZaF H p c):∃o,H p=some o:=by obtain⟨a,b,hp,c0⟩:=h;exact⟨_,hp⟩
theorem ZaF.at{H:Hp}{p l:Addr}{c:Int}{o:HO}(h:ZaF H p c)(n:p≠l):ZaF (upd H l o) p c:=by
 obtain⟨a,b,hp,c0⟩:=h
 exact⟨a,b,by rw[Ze n];exact hp,c0⟩
theorem Zi3:∀ss:List Str,(∀s∈ss,AZ s)→PyData.canLayAll0 (ss.map PyData.str)=true
 | [],_=>rfl
 | x::r,h=>by simp[PyData.canLayAll0,PyData.canLay0,(h x (by simp)).ok,Zi3 r fun s hs=>h s (List.mem_cons_of_mem _ hs)]
theorem Zgl:∀ss:List Str,PyData.depthAll (ss.map PyData.str)=0
 | []=>rfl
 | _::r=>by simp[PyData.depthAll,PyData.depth,Zgl r]
theorem ZdQ(ss:List Str)(h:∀s∈ss,AZ s):SeqAt.shaped (.list (ss.map PyData.str))=true:=by simp[SeqAt.shaped,PyData.canLay0,PyData.depth,Zi3 ss h,Zgl]
theorem ZfJ{K:PySem.W.Frag}{H:Hp}:∀ss:List Str,DVs K H (ss.map V.str) (ss.map PyData.str)
 | []=>.nil
 | s::r=>.cons (.str s) (ZfJ r)
noncomputable def Zc2(ss:List Str)(i:Nat):Int:=if i=0 then 0 else (lcp (cds (ss.getD (i-1) "")) (cds (ss.getD i "")):Nat)
noncomputable def Zgp(K:PySem.W.Frag):Sp:=fun vs H Q _=>∃ (a:Addr) (ss:List Str),vs=[.ref a]∧SqL K H a (ss.map V.str)∧ss.length≤100∧(∀s∈ss,s.length≤1000) ∧
 ∀ (r:Addr) (H':Hp),H r=none→H' r=some (.lst ((List.range ss.length).map fun j=>.int (Zc2 ss j)))→ZC H H'→Q (.ref r) H'
theorem Zl9(T:Zaf K mg cRow cMerge)(f_alike:Df P w K mg base 2 "alike" ["one", "other"] ZfM):Df P w K mg base 3 "alikes" ["row"] (Zgp K):=by
 refine T.t_alikes.df Zd3 (fun vs H Q E h=>?_) (fun cdv f A outer s H vs Q E hr h=>?_)
 ·obtain⟨a,ss,rfl,_⟩:=h
  rfl
 obtain⟨a,ss,rfl,hS,hn,hlen,q⟩:=h
 refine⟨_,#[Zg,#[Zy,1,Zd3.nd,(Or.inl rfl),#[Zbg,#[Zc]]],#[Zg,#[Zbt,PassesOwn.never,#[iE,K,T.b.n_enumerate,#[Za,‹0›,#[Zc]]],#[gT,K,2,#[Zv,#[ZA,2,Zd3.nd],#[Zv,#[ZA,3,Zd3.nd],(@ZaE _)]]],#[Zj,#[ZaO,#[ZcA,QG,QO,QP,Zay,‹1›,#[Za,#[Zbq,#[Zn,Zbf,‹2›,#[Zi],(Zs _)],#[Zi],#[ZB,f_alike,hr,#[Za,#[Zz,(ixL K),‹0›,#[ZF,Zby,‹2›,#[Zi]]],#[Za,‹3›,#[Zc]]],(by rfl)]],#[Zc]]]]]],#[Zj,#[Zm,‹1›]]]],?_⟩
 refine⟨(by show 0≤sizeLine;decide),fun r hr0=>?_⟩
 have s1:ZC H (upd H r (.lst [])):=Zh hr0 _
 refine⟨_,rfl,a,ss.map V.str,rfl,s1.seq hS,?_⟩
 refine Zgm (K:=K) (a:=a) (xs:=ss.map V.str) (fun i σ H2=>(∃v1 v2:Option V,σ=[some (.ref a),some (.ref r),v1,v2])∧H2 r=some (.lst ((List.range i).map fun j=>.int (Zc2 ss j)))∧ZC H H2∧i≤ss.length) ⟨⟨none,none,rfl⟩,Zb,s1,Qv _⟩ (fun _ _ _ hq=>by obtain⟨_,_,s2,_⟩:=hq;exact s2.seq hS) ?_ ?_
 ·rintro i x σ H2 p hx ⟨⟨v1,v2,rfl⟩,hr2,s2,hi⟩ hp
  rw[Qi]at hx
  cases hy:ss[i]? with
  | none=>rw[hy]at hx;cases hx
  | some y =>
   rw[hy]at hx
   cases hx
   have hil:i<ss.length:=(Qc.mp hy).1
   have npr:r≠p:=Zd hr2 hp
   have s3:ZC H (upd H2 p (.tup [.int i,.str y])):=s2.trans (Zh hp _)
   have hr3:(upd H2 p (.tup [.int i,.str y])) r=some (.lst ((List.range i).map fun j=>.int (Zc2 ss j))):=by rw[Ze npr];exact hr2
   have hlt:((List.range i).map fun j=>V.int (Zc2 ss j)).length<sizeLine:=by rw[Qa,Qap];exact ZH (by omega)
   have fin:∀z:Int,z=Zc2 ss i→(∃v1 v2:Option V,[some (V.ref a),some (V.ref r),some (V.int i),some (V.str y)]=[some (.ref a),some (.ref r),v1,v2]) ∧
     (upd (upd H2 p (.tup [.int i,.str y])) r (.lst (((List.range i).map fun j=>.int (Zc2 ss j))++[.int z]))) r=some (.lst ((List.range (i+1)).map fun j=>.int (Zc2 ss j))) ∧
     ZC H (upd (upd H2 p (.tup [.int i,.str y])) r (.lst (((List.range i).map fun j=>.int (Zc2 ss j))++[.int z])))∧i+1≤ss.length:=fun z e=>by
    refine⟨⟨_,_,rfl⟩,?_,fun b o h=>?_,hil⟩
    ·rw[Zb,Qaj,Qf,e];rfl
    ·rw[Ze (Zd h hr0)];exact s3 b o h
   refine⟨p,_,rfl,SqT.of Zb,rfl,_,_,rfl,_,_,rfl,rfl,?_⟩
   refine⟨_,rfl,.inl ⟨rfl,_,SqL.of hr3⟩,_,rfl,rfl,_,rfl,?_⟩
   by_cases e0:i=0
   ·subst e0
    exact ZgV rfl ⟨r,_,_,rfl,rfl,hr3,hlt,fin 0 rfl⟩
   ·have hprev:i-1<ss.length:=by omega
    have ei:((i:Int)-1)=((i-1:Nat):Int):=by omega
    have hat:atI (ss.map V.str) ((i:Int)-1)=some (.str ss[i-1]):=by rw[ei];exact ZX (by rw[Qi,Qb hprev]<;>rfl)
    refine Zds (fun z=>by injection z with z;omega) ⟨_,rfl,_,rfl,_,_,rfl,rfl,xw4 a _ _ _ ⟨rfl,rfl,s3.seq hS,hat,_,rfl,ss[i-1],y,rfl,hlen _ (QT hprev),hlen _ (Qo hy),r,_,_,rfl,rfl,hr3,hlt,fin _ ?_⟩⟩
    unfold Zc2
    rw[if_neg e0,Qk,Qk,Qb hprev,hy]
    rfl
 ·rintro σ H2 ⟨⟨v1,v2,rfl⟩,hr2,s2,hi⟩
  rw[Qa]at hr2
  exact⟨_,rfl,q r H2 hr0 hr2 s2⟩
noncomputable def ZJ:List Nat→List Nat→Int
 | [],[]=>0
 | [],_::_ =>-1
 | _::_,[]=>1
 | a::r,b::s=>if a=b then ZJ r s else if a<b then -1 else 1
theorem ZhK:∀ (x y:List Nat),Spec.ltCps y x=false→ZJ x y≤0
 | [],[],_=>by unfold ZJ;omega
 | [],_::_,_=>by unfold ZJ;omega
 | _::_,[],h=>by unfold Spec.ltCps at h;cases h
 | a::r,b::s,h=>by
  have ih:=ZhK r s
  unfold Spec.ltCps at h
  unfold ZJ
  rw[Bool.or_eq_false_iff,Bool.and_eq_false_iff]at h
  obtain⟨h1,h2⟩:=h
  have h1':¬ b<a:=of_decide_eq_false h1
  by_cases e:a=b
  ·rw[if_pos e]
   rcases h2 with z|z
   ·rw[e]at z;simp at z
   ·exact ih z
  ·rw[if_neg e,if_pos (by omega)]
   omega
theorem ZbV:∀ (x y z:List Nat),ZJ x y≤0→ZJ y z≤0→ZJ x z≤0
 | [],_,[],_,_=>by unfold ZJ;omega
 | [],_,_::_,_,_=>by unfold ZJ;omega
 | _::_,[],_,h,_=>by unfold ZJ at h;omega
 | _::_,_::_,[],_,h=>by unfold ZJ at h;omega
 | a::r,b::s,c::t,h1,h2=>by
  unfold ZJ at h1 h2 ⊢
  have ih:=ZbV r s t
  by_cases e1:a=b
  ·rw[if_pos e1]at h1
   by_cases e2:b=c
   ·rw[if_pos e2]at h2
    rw[if_pos (e1.trans e2)]
    exact ih h1 h2
   ·rw[if_neg e2]at h2
    rw[if_neg (fun e=>e2 (e1.symm.trans e))]
    split at h2
    ·rw[if_pos (by omega)];omega
    ·omega
  ·rw[if_neg e1]at h1
   split at h1
   ·by_cases e2:b=c
    ·rw[if_neg (fun e=>e1 (e.trans e2.symm)),if_pos (by omega)];omega
    ·rw[if_neg e2]at h2
     split at h2
     ·rw[if_neg (by omega),if_pos (by omega)];omega
     ·omega
   ·omega
theorem Zhn:∀ (ss:List Str) (p:Str),risingS p ss=true→∀ (k:Nat) (x y:Str),(p::ss)[k]? = some x→ss[k]? = some y→ZJ (cds x) (cds y)≤0
 | [],p,_,k,x,y,_,h=>by simp at h
 | z::r,p,h,0,x,y,h1,h2=>by
  unfold risingS at h
  rw[QaF]at h
  simp at h1 h2
  subst h1 h2
  exact ZhK _ _ (by simpa using h.1)
 | z::r,p,h,k+1,x,y,h1,h2=>by
  unfold risingS at h
  rw[QaF]at h
  exact Zhn r z h.2 k x y (by simpa using h1) (by simpa using h2)
theorem Zh0{ss:List Str}(h:sortedS ss=true)(k:Nat)(x y:Str)(h1:ss[k]? = some x)(h2:ss[k+1]? = some y):ZJ (cds x) (cds y)≤0:=by
 cases ss with
 | nil=>simp at h1
 | cons p r=>exact Zhn r p h k x y h1 (by simpa using h2)
theorem Zjl:∀ss:List Str,PyData.eqvAll (ss.map PyData.str) (ss.map PyData.str)=true
 | []=>by simp[PyData.eqvAll]
 | x::r=>by simp[PyData.eqvAll,PyData.eqv,Zjl r]
theorem Zmy(ss:List Str):PyData.eqv (.list (ss.map PyData.str)) (.list (ss.map PyData.str))=true:=by simp[PyData.eqv,Zjl ss]
theorem Ziu{ss:List Str}{k:Nat}(h:k<ss.length):atI (ss.map V.str) (k:Int)=some (.str ss[k]):=ZX (by rw[Qi,Qb h]<;>rfl)
theorem ZjQ(xs:List V)(i j:Nat)(h:i≤xs.length)(h2:j≤xs.length):ZeY xs (some i) (some j)=(xs.drop i).take (j-i):=by
 have e:∀ (k d:Nat),k≤xs.length→HT.sIx xs.length d (some (k:Int))=k:=fun k d hk=>by
  unfold HT.sIx
  simp only[]
  rw[if_neg (by omega)]
  omega
 unfold ZeY
 rw[e i _ h,e j _ h2]
theorem ZaF.same{H H':Hp}{p:Addr}{c:Int}(h:ZaF H p c)(s:ZC H H'):ZaF H' p c:=by obtain⟨b1,b2,hb,c0⟩:=h;exact⟨b1,b2,s _ _ hb,c0⟩
noncomputable def mid(ns:List Int):Nat:=(ns.length+1) / 2
noncomputable def Zel(ns:List Int):List Int:=ns.take (mid ns)
noncomputable def ZgR(ns:List Int):List Int:=ns.drop (mid ns)
theorem Zpp(ns:List Int):((((ns.map V.int).length:Nat):Int)+1) / 2=((mid ns:Nat):Int):=by
 rw[Qa];unfold mid;omega
theorem ZkM{ns:List Int}{k:Int}(h0:0≤k)(h:k<(ns.length:Int)):∃v∈ns,atI (ns.map V.int) k=some (.int v):=by
 have hk:k.toNat<ns.length:=by omega
 have ek:k=((k.toNat:Nat):Int):=by omega
 have q:atI (ns.map V.int) ((k.toNat:Nat):Int)=some (.int ns[k.toNat]):=ZX (by rw[Qi,Qb hk]<;>rfl)
 rw[← ek]at q
 exact⟨_,QT hk,q⟩
theorem ZrI(ns:List Int)(m:Nat)(h:m≤ns.length):ZeY (ns.map V.int) none (some (m:Int))=(ns.take m).map V.int:=by
 unfold ZeY
 have e:HT.sIx (ns.map V.int).length (ns.map V.int).length (some (m:Int))=m:=by
  unfold HT.sIx
  simp only[List.length_map]
  rw[if_neg (by omega)]
  omega
 have e0:HT.sIx (ns.map V.int).length 0 none=0:=rfl
 rw[e,e0,List.drop_zero,Nat.sub_zero,List.map_take]
theorem Znp(ns:List Int)(m:Nat)(h:m≤ns.length):ZeY (ns.map V.int) (some (m:Int)) none=(ns.drop m).map V.int:=by
 unfold ZeY
 have e:HT.sIx (ns.map V.int).length 0 (some (m:Int))=m:=by
  unfold HT.sIx
  simp only[List.length_map]
  rw[if_neg (by omega)]
  omega
 have e0:HT.sIx (ns.map V.int).length (ns.map V.int).length none=(ns.map V.int).length:=rfl
 rw[e,e0,List.map_drop,Qy (by rw[QR,Qa];omega)]
theorem ZkU(z:Str):(cds z).length=z.length:=by simp[Str.length]
theorem ZkL:∀ (x y:List Nat),(lcp x y=x.length→lcp x y=y.length→ZJ x y=0)∧(lcp x y=x.length→lcp x y≠y.length→ZJ x y = -1)∧(lcp x y≠x.length→lcp x y=y.length→ZJ x y=1) ∧
  ∀a b,x[lcp x y]? = some a→y[lcp x y]? = some b→ZJ x y=if a<b then -1 else 1
 | [],[]=>⟨fun _ _=>rfl,fun _ h=>absurd rfl h,fun h _=>absurd rfl h,fun a b h _=>by simp at h⟩
 | [],_::_=>⟨fun _ h=>by unfold lcp at h;simp at h,fun _ _=>rfl,fun h _=>absurd rfl h,fun a b h _=>by simp at h⟩
 | _::_,[]=>⟨fun h _=>by unfold lcp at h;simp at h,fun h _=>by unfold lcp at h;simp at h,fun _ _=>rfl,fun a b _ h=>by simp at h⟩
 | a::r,b::s=>by
  obtain⟨h1,h2,h3,h4⟩:=ZkL r s
  unfold lcp ZJ
  by_cases e:a=b
  ·rw[if_pos e,if_pos e]
   simp only[List.length_cons,List.getElem?_cons_succ]
   exact⟨fun p q=>h1 (by omega) (by clear e h4 h3 h2 h1 p;omega),fun p q=>h2 (by omega) (by clear e h4 h3 h2 h1 p;omega),fun p q=>h3 (by clear e h4 h3 h2 h1 q;omega) (by omega),h4⟩
  ·rw[if_neg e,if_neg e]
   simp only[List.length_cons,List.getElem?_cons_zero]
   refine⟨fun p=>by omega,fun p=>by omega,fun _ p=>by omega,fun c d p q=>?_⟩
   cases p;cases q
   rfl
theorem ZaD:∀ (x y:List Nat),ZJ y x =-ZJ x y
 | [],[]=>rfl
 | [],_::_=>rfl
 | _::_,[]=>rfl
 | a::r,b::s=>by
  have ih:=ZaD r s
  unfold ZJ
  by_cases e:a=b
  ·rw[if_pos e,if_pos e.symm,ih]
  ·rw[if_neg e,if_neg fun z=>e z.symm]
   by_cases l:a<b
   ·rw[if_pos l,if_neg (by omega)];rfl
   ·rw[if_neg l,if_pos (by omega)]
theorem Zq1(a b:Nat):decide ((⟨#[a]⟩:Str).cps.toList<(⟨#[b]⟩:Str).cps.toList)=decide (a<b):=by
 have e:([a]:List Nat)<[b]↔a<b:=by
  constructor
  ·intro h
   cases h with
   | rel h=>exact h
   | cons h=>cases h
  ·exact fun h=>List.Lex.rel h
 exact decide_eq_decide.mpr e
theorem Zc4:∀x:List Nat,ZJ x x=0
 | []=>rfl
 | a::r=>by unfold ZJ;rw[if_pos rfl];exact Zc4 r
theorem Zc3:∀ (x y:List Nat),ZJ x y=0→x=y
 | [],[],_=>rfl
 | [],_::_,h=>by unfold ZJ at h;omega
 | _::_,[],h=>by unfold ZJ at h;omega
 | a::r,b::s,h=>by
  unfold ZJ at h
  by_cases e:a=b
  ·rw[if_pos e]at h
   rw[e,Zc3 r s h]
  ·rw[if_neg e]at h
   split at h<;>omega
noncomputable def ZeS:Sp:=fun vs H Q _=>∃x y:Str,vs=[.str x,.str y]∧x.length≤1000∧y.length≤1000∧Q (.int (ZJ (cds x) (cds y))) H
noncomputable def ZfQ:Sp:=fun vs H Q _=>∃x y:Str,vs=[.str x,.str y,.int (lcp (cds x) (cds y):Nat)]∧x.length≤1000∧y.length≤1000∧Q (.int (ZJ (cds x) (cds y))) H
theorem ZmQ(T:Zaf K mg cRow cMerge):Df P w K mg base 1 "order_at" ["one", "other", "at"] ZfQ:=by
 refine T.t_order_at.df Zi5 (fun vs H Q E h=>?_) (fun cdv f A outer s H vs Q E hr h=>?_)
 ·obtain⟨x,y,rfl,_⟩:=h
  rfl
 obtain⟨x,y,rfl,hx,hy,q⟩:=h
 refine⟨_,#[Zg,#[ZZ,(@PW.pt _ _ _ #[ZeA,#[Zn,Zbf,‹2›,#[Zk,Zba,(by rfl),T.b.n_len,Qq,#[Za,‹0›,#[Zc]]],(Zs _)],(@Zeb _ _ _ _ #[Zn,Zbf,‹2›,#[Zk,Zba,(by rfl),T.b.n_len,Qq,#[Za,‹1›,#[Zc]]],(Zs _)])]),#[Zj,#[Zm,#[Zi]]],#[ZD]],#[Zg,#[ZZ,#[Zn,Zbf,‹2›,#[Zk,Zba,(by rfl),T.b.n_len,Qq,#[Za,‹0›,#[Zc]]],(Zs _)],#[Zj,#[Zm,(@ZhS _ _ _ _ _ _ Ze2 #[Zi])]],#[ZD]],#[Zg,#[ZZ,#[Zn,Zbf,‹2›,#[Zk,Zba,(by rfl),T.b.n_len,Qq,#[Za,‹1›,#[Zc]]],(Zs _)],#[Zj,#[Zm,#[Zi]]],#[ZD]],#[Zj,#[Zm,#[Zbq,#[Zn,Zmf,#[Zz,ZgF,‹0›,‹2›],#[Zz,ZgF,‹1›,‹2›],(Zs _)],(@ZhS _ _ _ _ _ _ Ze2 #[Zi]),#[Zi]]]]]]],?_⟩
 obtain⟨o1,o2,o3,o4⟩:=ZkL (cds x) (cds y)
 have ll:=ZfY (cds x) (cds y)
 have lx:=ZkU x
 have ly:=ZkU y
 have inj:∀ {m n:Nat},V.int (m:Int)=V.int (n:Int)→m=n:=fun {m n} e=>by injection e with e;omega
 refine⟨_,rfl,_,rfl,x,rfl,small hx,rfl,_,rfl,ZaX (fun d=>?_) (fun d=>?_)⟩
 ·have d1:=inj (of_decide_eq_true d)
  refine⟨_,rfl,_,rfl,y,rfl,small hy,rfl,_,rfl,ZaX (fun d2=>?_) (fun d2=>?_)⟩
  ·have d2':=inj (of_decide_eq_true d2)
   rw[o1 (by omega) (by omega)]at q
   exact q
  ·have d2':¬ lcp (cds x) (cds y)=y.length:=fun e=>d2 (by rw[e];exact decide_eq_true rfl)
   refine⟨_,rfl,_,rfl,x,rfl,small hx,rfl,_,rfl,ZgV (by rw[d1]) ?_⟩
   rw[o2 (by omega) (by omega)]at q
   exact⟨_,rfl,q⟩
 ·have d1:¬ lcp (cds x) (cds y)=x.length:=fun e=>d (by rw[e];exact decide_eq_true rfl)
  refine Zcl ⟨_,rfl,_,rfl,x,rfl,small hx,rfl,_,rfl,Zds (fun e=>d1 (inj e)) ?_⟩
  refine⟨_,rfl,_,rfl,y,rfl,small hy,rfl,_,rfl,ZaX (fun d2=>?_) (fun d2=>?_)⟩
  ·have d2':=inj (of_decide_eq_true d2)
   rw[o3 (by clear d inj ll o4 o3 o2 o1 hy hx d2' ly;omega) (by omega)]at q
   exact q
  ·have d2':¬ lcp (cds x) (cds y)=y.length:=fun e=>d2 (by rw[e];exact decide_eq_true rfl)
   obtain⟨a,ha,ha'⟩:=ZeM (z:=x) (k:=(lcp (cds x) (cds y):Nat)) (by omega) (by clear d2 d inj o4 o3 o2 o1 hy hx d2' ly;omega)
   obtain⟨b,hb,hb'⟩:=ZeM (z:=y) (k:=(lcp (cds x) (cds y):Nat)) (by omega) (by omega)
   rw[Q5]at ha hb
   refine⟨_,rfl,_,rfl,x,_,a,rfl,rfl,small hx,ha',_,rfl,_,rfl,y,_,b,rfl,rfl,small hy,hb',_,_,rfl,rfl,_,rfl,?_⟩
   rw[Zq1]
   rw[o4 a b ha hb]at q
   refine ZaX (fun e=>?_) (fun e=>?_)
   ·rw[if_pos (of_decide_eq_true e)]at q
    exact⟨_,rfl,q⟩
   ·rw[if_neg (fun z=>e (decide_eq_true z))]at q
    exact q
theorem Zn8(T:Zaf K mg cRow cMerge)(f_alike:Df P w K mg base 2 "alike" ["one", "other"] ZfM)(f_order_at:Df P w K mg base 1 "order_at" ["one", "other", "at"] ZfQ):Df P w K mg base 3 "liken" ["one", "other"] ZeS:=by
 refine T.t_liken.df Zoq (fun vs H Q E h=>?_) (fun cdv f A outer s H vs Q E hr h=>?_)
 ·obtain⟨x,y,rfl,_⟩:=h
  rfl
 obtain⟨x,y,rfl,hx,hy,q⟩:=h
 refine⟨_,#[Zj,#[Zm,#[ZB,f_order_at,hr,#[Za,‹0›,#[Za,‹1›,#[Za,#[ZB,f_alike,hr,#[Za,‹0›,#[Za,‹1›,#[Zc]]],(by rfl)],#[Zc]]]],(by rfl)]]],?_⟩
 exact⟨_,rfl,_,rfl,_,rfl,_,rfl,x,y,rfl,hx,hy,x,y,rfl,hx,hy,q⟩
theorem ZfO{p:Addr}{H H1:Hp}{l:Addr}(B:But p H H1)(n:p≠l)(h:H1 l=none):H l=none:=by
 cases w':H l with
 | none=>rfl
 | some u=>rw[B l u w' n.symm]at h;cases h
theorem Zql{c A B:Prop}[Decidable c](hc:¬ c)(h:A):if (!decide c)=true then A else B:=by
 rw[if_pos (by rw[decide_eq_false hc];rfl)]
 exact h
noncomputable def ZdG:Sp:=fun vs H Q _=>∃ (x y:Str) (far:Nat),vs=[.str x,.str y,.int far]∧x.length≤1000∧y.length≤1000∧far≤lcp (cds x) (cds y) ∧
 ∀t,H t=none→Q (.ref t) (upd H t (.tup [.int (ZJ (cds x) (cds y)),.int (lcp (cds x) (cds y):Nat),.int ((lcp (cds x) (cds y):Nat)-(far:Int)+1)]))
theorem Zg3(T:Zaf K mg cRow cMerge)(f_alike_from:Df P w K mg base 1 "alike_from" ["one", "other", "far"] ZcB)(f_order_at:Df P w K mg base 1 "order_at" ["one", "other", "at"] ZfQ):Df P w K mg base 2 "liken_from" ["one", "other", "far"] ZdG:=by
 refine T.t_liken_from.df Zes (fun vs H Q E h=>?_) (fun cdv f A outer s H vs Q E hr h=>?_)
 ·obtain⟨x,y,far,rfl,_⟩:=h
  rfl
 obtain⟨x,y,far,rfl,hx,hy,hf,q⟩:=h
 refine⟨_,#[Zg,#[Zy,3,Zes.nd,(Or.inl rfl),#[ZB,f_alike_from,hr,#[Za,‹0›,#[Za,‹1›,#[Za,‹2›,#[Zc]]]],(by rfl)]],#[Zj,#[Zm,#[ZT,#[Za,#[ZB,f_order_at,hr,#[Za,‹0›,#[Za,‹1›,#[Za,‹3›,#[Zc]]]],(by rfl)],#[Za,‹3›,#[Za,#[ZF,Zac,#[ZF,Zby,‹3›,‹2›],#[Zi]],#[Zc]]]]]]]],?_⟩
 refine⟨_,rfl,_,rfl,_,rfl,x,y,far,rfl,hx,hy,hf,?_⟩
 refine⟨_,rfl,_,rfl,_,rfl,x,y,rfl,hx,hy,?_⟩
 refine⟨_,rfl,_,rfl,_,rfl,_,_,rfl,rfl,_,_,rfl,rfl,(by show 3≤sizeLine;decide),fun t ht=>?_⟩
 exact q t ht
noncomputable def ZjD(ss:List Str)(v:V):Prop :=
 (v=.non∧∀i x y,ss[i+1]? = some x→ss[i]? = some y→0≤ZJ (cds x) (cds y)) ∨
 ∃k:Nat,v=.int ((k+1:Nat):Int)∧k+1<ss.length∧(∀x y,ss[k+1]? = some x→ss[k]? = some y→ZJ (cds x) (cds y)<0)∧∀i,i<k→∀x y,ss[i+1]? = some x→ss[i]? = some y→0≤ZJ (cds x) (cds y)
theorem Zo0{ss:List Str}{v v':V}(h:ZjD ss v)(h':ZjD ss v'):v=v':=by
 rcases h with⟨rfl,a⟩|⟨k,rfl,l,b,c⟩
 ·rcases h' with⟨rfl,_⟩|⟨k',rfl,l',b',_⟩
  ·rfl
  ·have:=a k' _ _ (Qb l') (Qb (by omega))
   have:=b' _ _ (Qb l') (Qb (by omega))
   omega
 ·rcases h' with⟨rfl,a⟩|⟨k',rfl,l',b',c'⟩
  ·have:=a k _ _ (Qb l) (Qb (by omega))
   have:=b _ _ (Qb l) (Qb (by omega))
   omega
  ·have e:k=k':=by
    rcases Nat.lt_trichotomy k k' with h|h|h
    ·have:=c' k h _ _ (Qb l) (Qb (by omega))
     have:=b _ _ (Qb l) (Qb (by omega))
     omega
    ·exact h
    ·have:=c k' h _ _ (Qb l') (Qb (by omega))
     have:=b' _ _ (Qb l') (Qb (by omega))
     omega
   rw[e]
noncomputable def ZnJ(K:PySem.W.Frag):Sp:=fun vs H Q _=>∃ (a:Addr) (ss:List Str),vs=[.ref a]∧SqL K H a (ss.map V.str)∧ss.length≤200∧(∀s∈ss,s.length≤1000)∧∀ (v:V) (H':Hp),ZjD ss v→ZC H H'→Q v H'
theorem Zni(T:Zaf K mg cRow cMerge)(f_liken:Df P w K mg base 3 "liken" ["one", "other"] ZeS):Df P w K mg base 4 "first_break" ["keys"] (ZnJ K):=by
 refine T.t_first_break.df ZdL (fun vs H Q E h=>?_) (fun cdv f A outer s H vs Q E hr h=>?_)
 ·obtain⟨a,ss,rfl,_⟩:=h
  rfl
 obtain⟨a,ss,rfl,hS,hn,hlen,q⟩:=h
 refine⟨_,#[Zg,#[Zbt,PassesOwn.never,#[Zc8,T.b.n_range,#[Za,#[Zi],#[Za,#[Zk,(ZaR K),(by rfl),T.b.n_len,Qq,#[Za,‹0›,#[Zc]]],#[Zc]]]],#[ZA,1,ZdL.nd],#[Zj,#[ZZ,#[Zn,Zdq,#[ZB,f_liken,hr,#[Za,#[Zz,(ixL K),‹0›,‹1›],#[Za,#[Zz,(ixL K),‹0›,#[ZF,Zby,‹1›,#[Zi]]],#[Zc]]],(by rfl)],#[Zi],(Zs _)],#[Zj,#[Zm,‹1›]],#[ZD]]]],#[Zj,#[Zm,#[ZaQ]]]],?_⟩
 have hl:(((ss.map V.str).length:Nat):Int)=(ss.length:Int):=by rw[Qa]
 refine⟨_,rfl,a,_,rfl,.inl hS,_,_,rfl,⟨by omega,by omega,by omega,by omega⟩,?_⟩
 refine Zbb (fun i σ H2=>(∃v:Option V,σ=[some (.ref a),v])∧ZC H H2∧∀j,j<i→∀x y,ss[j+1]? = some x→ss[j]? = some y→0≤ZJ (cds x) (cds y)) ⟨⟨none,rfl⟩,ZC.refl H,fun j h=>by omega⟩ ?_ ?_
 ·rintro i σ H2 hi ⟨⟨v,rfl⟩,s2,h2⟩
  have hi1:i+1<ss.length:=by omega
  have e1:(1+(i:Int))=((i+1:Nat):Int):=by omega
  have e0:(1+(i:Int)-1)=((i:Nat):Int):=by omega
  refine⟨_,rfl,_,rfl,xw4 a _ _ _ ⟨rfl,rfl,s2.seq hS,(by rw[e1];exact Ziu hi1),_,rfl,_,rfl,_,_,rfl,rfl,xw4 a _ _ _ ⟨rfl,rfl,s2.seq hS,(by rw[e0];exact Ziu (by clear e0 e1 h2 hi q hlen hn;omega)),ss[i+1],ss[i],rfl,hlen _ (QT hi1),hlen _ (QT (by clear e0 e1 h2 hi q hlen hn;omega)),_,_,rfl,rfl,_,rfl,?_⟩⟩⟩
  refine ZaX (fun d=>?_) (fun d=>?_)
  ·have d':ZJ (cds ss[i+1]) (cds ss[i])<0:=of_decide_eq_true d
   refine⟨_,rfl,q _ H2 (.inr ⟨i,by rw[e1],hi1,fun x y h1 h0=>?_,h2⟩) s2⟩
   rw[Qb hi1]at h1
   rw[Qb (by clear d' e0 e1 h2 hi q hlen hn;omega)]at h0
   cases h1;cases h0
   omega
  ·have d':¬ ZJ (cds ss[i+1]) (cds ss[i])<0:=fun z=>d (decide_eq_true z)
   refine⟨⟨_,rfl⟩,s2,fun j hj x y h1 h0=>?_⟩
   by_cases ej:j=i
   ·subst ej
    rw[Qb hi1]at h1
    rw[Qb (by omega)]at h0
    cases h1;cases h0
    omega
   ·exact h2 j (by omega) x y h1 h0
 ·rintro σ H2 ⟨⟨v,rfl⟩,s2,h2⟩
  refine q _ H2 (.inl ⟨rfl,fun j x y h1 h0=>?_⟩) s2
  have:=(Qc.mp h1).1
  exact h2 j (by omega) x y h1 h0
noncomputable def ZeF(K:PySem.W.Frag)(tup:Bool):Sp:=fun vs H Q _=>∃ (a:Addr) (ns:List Int),vs=[.ref a]∧SqL K H a (ns.map V.int)∧ns.length≤100 ∧
 ∀ (t f r:Addr) (H':Hp),H t=none→H f=none→H r=none→f≠r→H' t=some (if tup=true then .tup [.ref f,.ref r] else .lst [.ref f,.ref r])→H' f=some (.lst ((Zel ns).map V.int))→H' r=some (.lst ((ZgR ns).map V.int))→ZC H H'→t≠f→t≠r→Q (.ref t) H'
theorem ZoN{H:Hp}{f r t:Addr}{A B T:HO}(hf:H f=none)(hr:(upd H f A) r=none)(ht:(upd (upd H f A) r B) t=none) :
  H r=none∧H t=none∧f≠r∧t≠f∧t≠r∧(upd (upd (upd H f A) r B) t T) f=some A∧(upd (upd (upd H f A) r B) t T) r=some B∧ZC H (upd (upd (upd H f A) r B) t T):=by
 have n1:f≠r:=Zd (H:=upd H f A) (o:=A) Zb hr
 have e1:(upd (upd H f A) r B) f=some A:=by rw[Ze n1];exact Zb
 have n2:f≠t:=Zd e1 ht
 have n3:r≠t:=Zd (H:=upd (upd H f A) r B) (o:=B) Zb ht
 have s1:ZC H (upd H f A):=Zh hf _
 have s2:=s1.trans (Zh hr B)
 have s3:=s2.trans (Zh ht T)
 exact⟨s1.free hr,s2.free ht,n1,n2.symm,n3.symm,by rw[Ze n2];exact e1,by rw[Ze n3];exact Zb,s3⟩
theorem ZlO(T:Zaf K mg cRow cMerge):Df P w K mg base 1 "halves" ["numbers"] (ZeF K true):=by
 refine T.t_halves.df Zhc (fun vs H Q E h=>?_) (fun cdv f A outer s H vs Q E hr h=>?_)
 ·obtain⟨a,ns,rfl,_⟩:=h
  rfl
 obtain⟨a,ns,rfl,hS,hn,q⟩:=h
 refine⟨_,#[Zg,#[Zy,1,Zhc.nd,(Or.inl rfl),#[ZF,ZeK,#[ZF,Zac,#[Zk,(ZaR K),(by rfl),T.b.n_len,Qq,#[Za,‹0›,#[Zc]]],#[Zi]],#[Zi]]],#[Zj,#[Zm,#[ZT,#[Za,#[ZcL,(slL K),‹0›,(@Zd9 _),#[ZbD,‹1›]],#[Za,#[ZcL,(slL K),‹0›,#[ZbD,‹1›],(@Zd9 _)],#[Zc]]]]]]],?_⟩
 refine⟨_,rfl,a,_,rfl,.inl hS,_,_,rfl,rfl,_,_,rfl,rfl,⟨by decide,by decide⟩,?_⟩
 have hm:mid ns≤ns.length∨ns=[]:=by
  cases ns with
  | nil=>exact .inr rfl
  | cons x r=>left;unfold mid;rw[QE];omega
 have hml:mid ns≤ns.length:=by
  rcases hm with h|h
  ·exact h
  ·subst h;decide
 have em:=Zpp ns
 simp only[em]
 refine⟨_,rfl,_,rfl,_,rfl,a,_,rfl,hS,fun l hl=>?_⟩
 refine⟨_,rfl,_,rfl,_,rfl,a,_,rfl,(Zh hl _).seq hS,fun r hr0=>⟨(by show 2≤sizeLine;decide),fun t ht=>?_⟩⟩
 rw[ZrI ns _ hml]at hr0 ht ⊢
 rw[Znp ns _ hml]at ht ⊢
 obtain⟨z1,z2,z3,z4,z5,z6,z7,z8⟩:=ZoN (T:=.tup [.ref l,.ref r]) hl hr0 ht
 exact q t l r _ z2 hl z1 z3 Zb z6 z7 z8 z4 z5
theorem Zb5(f:Str)(v:V):∀fs:List (Str×V),(Zr f v fs).length≤fs.length+1
 | []=>Qg _
 | p::r=>by
  unfold Zr
  split
  ·exact Q4 _
  ·exact QaZ (Zb5 f v r)
noncomputable def ZcW(k f:Addr)(g:Int):List (Str×V):=Zr "gone" (.int g) (Zr "fars" (.ref f) (Zr "all_keys" (.ref k) []))
theorem nGF:¬ (("fars" : Str) = "gone"):=by ac_rfl
theorem nGK:¬ (("all_keys" : Str) = "gone"):=by ac_rfl
theorem nFK:¬ (("all_keys" : Str) = "fars"):=by ac_rfl
theorem Ze8(k f:Addr)(g:Int):(ZcW k f g).lookup ("all_keys" : Str)=some (.ref k):=by
 unfold ZcW
 rw[Zo,if_neg nGK,Zo,if_neg nFK,Zo,if_pos rfl]
theorem ZcJ(k f:Addr)(g:Int):(ZcW k f g).lookup ("gone" : Str)=some (.int g):=by
 unfold ZcW
 rw[Zo,if_pos rfl]
theorem ZkX(k f:Addr)(g:Int){m:Str}(h1:¬ m = "gone")(h2:¬ m = "fars")(h3:¬ m = "all_keys"):(ZcW k f g).lookup m=none:=by
 unfold ZcW
 rw[Zo,if_neg h1,Zo,if_neg h2,Zo,if_neg h3]
 rfl
structure Zlo (C:Addr) (H:Hp) (p k f:Addr) (ss:List Str) (g:Nat):Prop where
 ob:∃dx,H p=some (.ins C dx (ZcW k f g))
 ks:H k=some (.lst (ss.map V.str))
 fs:H f=some (.lst ((List.range ss.length).map fun j=>.int (Zc2 ss j)))
noncomputable def ZnO(C:Addr):Sp:=fun vs H Q _=>∃ (p k f:Addr) (ss:List Str) (g:Nat),vs=[.ref p]∧Zlo C H p k f ss g∧Q (.int ((ss.length:Int)-(g:Int))) H
theorem Zpw(T:Zaf K mg cRow cMerge):Mf P w K mg base 1 cRow "to_go" ["self"] (ZnO cRow):=by
 refine T.t_Row_to_go.mf Ziq (fun vs H Q E h=>?_) (fun cdv f A outer s H vs Q E hr h=>?_)
 ·obtain⟨p,k,f,ss,g,rfl,_⟩:=h
  rfl
 obtain⟨p,k,f,ss,g,rfl,R,q⟩:=h
 refine⟨_,#[Zj,#[Zm,#[ZF,Zby,#[Zk,(ZaR K),(by rfl),T.b.n_len,Qq,#[Za,#[Zad,‹0›],#[Zc]]],#[Zad,‹0›]]]],?_⟩
 obtain⟨⟨dx,ho⟩,hk,hf⟩:=R
 refine⟨_,rfl,xw5 p cRow dx _ _ ⟨rfl,ho,T.cl_Row,T.na_Row_all_keys,Ze8 _ _ _,k,_,rfl,.inl (SqL.of hk),_,rfl,xw5 p cRow dx _ _ ⟨rfl,ho,T.cl_Row,T.na_Row_gone,ZcJ _ _ _,_,_,rfl,rfl,?_⟩⟩⟩
 rw[Qa]
 exact q
noncomputable def ZeX(ss:List Str)(g:Nat):V:=match ss[g]? with
 | some z=>.str z
 | none=>.non
noncomputable def Zgf(C:Addr):Sp:=fun vs H Q _=>∃ (p k f:Addr) (ss:List Str) (g:Nat),vs=[.ref p]∧Zlo C H p k f ss g∧Q (ZeX ss g) H
theorem Zqa(T:Zaf K mg cRow cMerge)(f_Row_to_go:Mf P w K mg base 1 cRow "to_go" ["self"] (ZnO cRow)):Mf P w K mg base 2 cRow "head" ["self"] (Zgf cRow):=by
 refine T.t_Row_head.mf ZjL (fun vs H Q E h=>?_) (fun cdv f A outer s H vs Q E hr h=>?_)
 ·obtain⟨p,k,f,ss,g,rfl,_⟩:=h
  rfl
 obtain⟨p,k,f,ss,g,rfl,R,q⟩:=h
 refine⟨_,#[Zj,#[Zm,#[Zbq,#[Zn,ZfE,#[Zde,f_Row_to_go,T.cl_Row,hr,‹0›],#[Zi],(Zs _)],#[Zz,(ixL K),#[Zad,‹0›],#[Zad,‹0›]],#[ZaQ]]]],?_⟩
 obtain⟨⟨dx,ho⟩,hk,hf⟩:=id R
 refine⟨_,rfl,p,dx,_,rfl,ho,ZkX _ _ _ (by ac_rfl) (by ac_rfl) (by ac_rfl),p,k,f,ss,g,rfl,R,_,_,rfl,rfl,_,rfl,?_⟩
 refine ZaX (fun d=>?_) (fun d=>?_)
 ·have d':(0:Int)<(ss.length:Int)-(g:Int):=of_decide_eq_true d
  have hg:g<ss.length:=by omega
  refine⟨_,rfl,xw5 p cRow dx _ _ ⟨rfl,ho,T.cl_Row,T.na_Row_all_keys,Ze8 _ _ _,_,rfl,xw5 p cRow dx _ _ ⟨rfl,ho,T.cl_Row,T.na_Row_gone,ZcJ _ _ _,k,_,_,_,rfl,rfl,SqL.of hk,ZX (by rw[Qi,Qb hg]<;>rfl),?_⟩⟩⟩
  unfold ZeX at q
  rw[Qb hg]at q
  exact q
 ·have d':¬ (0:Int)<(ss.length:Int)-(g:Int):=fun z=>d (decide_eq_true z)
  unfold ZeX at q
  rw[QH (by omega)]at q
  exact q
noncomputable def Zhx(C:Addr):Sp:=fun vs H Q _=>∃ (p dx a:Addr) (ss:List Str),vs=[.ref p,.ref a]∧H p=some (.ins C dx [])∧H a=some (.lst (ss.map V.str))∧ss.length≤100∧(∀s∈ss,s.length≤1000) ∧
 ∀ (k f:Addr) (H':Hp),H k=none→H f=none→k≠f→Zlo C H' p k f ss 0→(∀b o,H b=some o→b≠p→H' b=some o)→Q .non H'
theorem Zke(T:Zaf K mg cRow cMerge)(f_alikes:Df P w K mg base 3 "alikes" ["row"] (Zgp K)):Cf P w K mg base 4 cRow "Row" ["self", "keys"] (Zhx cRow):=by
 refine T.t_Row_init.cf Zjt (fun vs H Q E h=>?_) (fun cdv f A outer s H vs Q E hr h=>?_)
 ·obtain⟨p,dx,a,ss,rfl,_⟩:=h
  rfl
 obtain⟨p,dx,a,ss,rfl,hp,ha,hn,hz,q⟩:=h
 refine⟨_,#[Zg,#[Zb6,‹0›,#[Z4,(Zqn K),T.b.n_list,boot_list,#[Za,‹1›,#[Zc]]]],#[Zg,#[Zb6,‹0›,#[ZB,f_alikes,hr,#[Za,‹1›,#[Zc]],(by rfl)]],#[Zj,#[Zb6,‹0›,#[Zi]]]]],?_⟩
 refine⟨_,rfl,a,_,rfl,.inl (SqL.of ha),fun k hk=>?_⟩
 have npk:p≠k:=Zd hp hk
 have nap:a≠p:=fun e=>by rw[e,hp]at ha;cases ha
 have nak:a≠k:=Zd ha hk
 refine⟨_,rfl,p,cRow,dx,[],rfl,(by rw[Ze npk];exact hp),T.cl_Row,T.na_Row_all_keys,(by show 0<1000;decide),?_⟩
 have ha2:(upd (upd H k (.lst (ss.map V.str))) p (.ins cRow dx (Zr "all_keys" (.ref k) []))) a=some (.lst (ss.map V.str)):=by rw[Ze nap,Ze nak];exact ha
 have hp2:(upd (upd H k (.lst (ss.map V.str))) p (.ins cRow dx (Zr "all_keys" (.ref k) []))) p=some (.ins cRow dx (Zr "all_keys" (.ref k) [])):=Zb
 have hk2:(upd (upd H k (.lst (ss.map V.str))) p (.ins cRow dx (Zr "all_keys" (.ref k) []))) k=some (.lst (ss.map V.str)):=by rw[Ze npk.symm];exact Zb
 have s2:∀b o,H b=some o→b≠p→(upd (upd H k (.lst (ss.map V.str))) p (.ins cRow dx (Zr "all_keys" (.ref k) []))) b=some o:=fun b o h n=>by rw[Ze n,Ze (Zd h hk)];exact h
 refine⟨_,rfl,a,ss,rfl,SqL.of ha2,hn,hz,fun f H3 hf0 hf3 s3=>?_⟩
 have hHf:H f=none:=by
  cases w':H f with
  | none=>rfl
  | some u =>
   by_cases e:f=p
   ·rw[e,hp2]at hf0;cases hf0
   ·rw[s2 f u w' e]at hf0;cases hf0
 have nkf:k≠f:=Zd hk2 hf0
 have npf:p≠f:=Zd hp2 hf0
 refine⟨_,rfl,xw4 p cRow dx _ ⟨rfl,s3 _ _ hp2,T.cl_Row,T.na_Row_fars,(by show 1<1000;decide),?_⟩⟩
 refine⟨_,rfl,xw4 p cRow dx _ ⟨rfl,Zb,T.cl_Row,T.na_Row_gone,?_,?_⟩⟩
 ·have h1:=Zb5 "all_keys" (V.ref k) []
  have h2:=Zb5 "fars" (V.ref f) (Zr "all_keys" (V.ref k) [])
  have h3:([]:List (Str×V)).length=0:=rfl
  omega
 ·refine q k f _ hk hHf nkf ⟨⟨dx,Zb⟩,?_,?_⟩ fun b o h n=>?_
  ·rw[Ze npk.symm,Ze npk.symm];exact s3 _ _ hk2
  ·rw[Ze npf.symm,Ze npf.symm];exact hf3
  ·rw[Ze n,Ze n];exact s3 _ _ (s2 b o h n)
theorem Zkg{K:PySem.W.Frag}{a:Addr}{xs:List V}{k:Nat}{D:Addr}{σ:L2.St}{H1:Hp}{g:TG}{tc:TT}{te:TE}{Q:VK}(Pv:Nat→List V→L2.St→Hp→Prop)(h0:Pv 0 [] (σ++List.replicate k none) (upd H1 D (.lst [])))
  (hl:∀i ys σ H,Pv i ys σ H→SqL K H a xs)
  (hs:∀i x ys σ H,xs[i]? = some x→Pv i ys σ H→g x σ H fun σ4 H4=>tc σ4 H4 fun b H5=>if b=true then te σ4 H5 fun y H6=>H6 D=some (.lst ys)∧ys.length<sizeLine∧Pv (i+1) (ys++[y]) σ4 (upd H6 D (.lst (ys++[y]))) else Pv (i+1) ys σ4 H5)
  (hd:∀ys σ H,Pv xs.length ys σ H→Q (.ref D) H):Zfo (Itl K a) D k σ H1 g tc te Q:=by
 refine⟨fun i m ys σ H=>m=xs.length-i∧i≤xs.length∧Pv i ys σ H,⟨xs.length,by simp,Qv _,h0⟩,?_⟩
 rintro i m ys σ H ⟨rfl,hi,p⟩
 have q1:=hl i ys σ H p
 by_cases hlt:i<xs.length
 ·refine .inr ⟨⟨xs,xs[i],q1,Qb hlt⟩,Pv (i+1),fun ys' σ' H' p'=>⟨xs.length-(i+1),by omega,rfl,hlt,p'⟩,fun x H' y=>?_⟩
  obtain⟨rfl,e⟩:=y
  exact hs i x ys σ _ (e xs q1) p
 ·have e:i=xs.length:=by omega
  exact .inl ⟨⟨xs,q1,by omega⟩,hd ys σ H (e ▸ p)⟩
theorem Zbd{K:PySem.W.Frag}{a:Addr}{xs:List V}{k:Nat}{D:Addr}{σ:L2.St}{H1:Hp}{g:TG}{te:TE}{Q:VK}(Pv:Nat→List V→L2.St→Hp→Prop)(h0:Pv 0 [] (σ++List.replicate k none) (upd H1 D (.lst [])))
  (hl:∀i ys σ H,Pv i ys σ H→SqL K H a xs)
  (hs:∀i x ys σ H,xs[i]? = some x→Pv i ys σ H→g x σ H fun σ4 H4=>te σ4 H4 fun y H6=>H6 D=some (.lst ys)∧ys.length<sizeLine∧Pv (i+1) (ys++[y]) σ4 (upd H6 D (.lst (ys++[y]))))
  (hd:∀ys σ H,Pv xs.length ys σ H→Q (.ref D) H):Zfo (Itl K a) D k σ H1 g ZiJ te Q:=by
 refine⟨fun i m ys σ H=>m=xs.length-i∧i≤xs.length∧Pv i ys σ H,⟨xs.length,by simp,Qv _,h0⟩,?_⟩
 rintro i m ys σ H ⟨rfl,hi,p⟩
 have q1:=hl i ys σ H p
 by_cases hlt:i<xs.length
 ·refine .inr ⟨⟨xs,xs[i],q1,Qb hlt⟩,Pv (i+1),fun ys' σ' H' p'=>⟨xs.length-(i+1),by omega,rfl,hlt,p'⟩,fun x H' y=>?_⟩
  obtain⟨rfl,e⟩:=y
  simp only[ZiJ,↓reduceIte]
  exact hs i x ys σ _ (e xs q1) p
 ·have e:i=xs.length:=by omega
  exact .inl ⟨⟨xs,q1,by omega⟩,hd ys σ H (e ▸ p)⟩
theorem ZbR:∀x y:List Nat,x<y↔ZJ x y<0
 | [],[]=>by unfold ZJ;exact⟨fun h=>absurd h (by simp),fun h=>absurd h (by omega)⟩
 | [],_::_=>by unfold ZJ;exact⟨fun _=>by omega,fun _=>List.nil_lt_cons _ _⟩
 | _::_,[]=>by unfold ZJ;exact⟨fun h=>absurd h (List.not_lt_nil _),fun h=>absurd h (by omega)⟩
 | a::r,b::s=>by
  have ih:=ZbR r s
  unfold ZJ
  rw[List.cons_lt_cons_iff]
  by_cases e:a=b
  ·rw[if_pos e,← ih]
   exact⟨fun h=>h.elim (fun z=>by omega) (fun z=>z.2),fun h=>.inr ⟨e,h⟩⟩
  ·rw[if_neg e]
   by_cases l:a<b
   ·rw[if_pos l];exact⟨fun _=>by omega,fun _=>.inl l⟩
   ·rw[if_neg l];exact⟨fun h=>h.elim (fun z=>absurd z l) (fun z=>absurd z.1 e),fun h=>absurd h (by omega)⟩
theorem ZqP{K:PySem.W.Frag}{H:Hp}{a:Addr}{xs:List V}(h:H a=some (.lst xs)):L2.tyV K "list" (.ref a) H:=.inl ⟨rfl,_,SqL.of h⟩
theorem AtT.mono{H H':Hp}{ts:Zcu}(h:AtT H ts)(s:ZC H H'):AtT H' ts:=fun x hx=>s _ _ (h x hx)
theorem Zbj{H:Hp}{D:Addr}{ys:List V}(h:H D=some (.lst ys))(o:HO):∀a xs,H a=some (.tup xs)→(upd H D o) a=some (.tup xs):=fun a xs e=>by
 have nb:a≠D:=by intro z;rw[z,h]at e;cases e
 rw[Ze nb];exact e
noncomputable abbrev Hd:=Int→Option (List Nat)
noncomputable def Btr(x:List Nat)(a:Int)(y:List Nat)(b:Int):Prop:=ZJ x y<0∨(ZJ x y=0∧a<b)
noncomputable def Win(hd:Hd)(N:List Int):Option Int→Prop
 | none=>∀n∈N,hd n=none
 | some a=>a∈N∧∃x,hd a=some x∧∀b∈N,∀y,hd b=some y→b=a∨Btr x a y b
theorem Btr.asym{x y:List Nat}{a b:Int}(h:Btr x a y b)(g:Btr y b x a):False:=by
 have e:=ZaD x y
 rcases h with h|⟨h,h2⟩<;>rcases g with g|⟨g,g2⟩<;>omega
theorem Btr.total{x y:List Nat}{a b:Int}(h:a≠b):Btr x a y b∨Btr y b x a:=by
 have e:=ZaD x y
 unfold Btr
 omega
theorem Btr.trans{x y z:List Nat}{a b c:Int}(h:Btr x a y b)(g:Btr y b z c):Btr x a z c:=by
 have t1:=ZbV x y z
 have t2:=ZbV z x y
 have t3:=ZbV y z x
 have e1:=ZaD x y
 have e2:=ZaD y z
 have e3:=ZaD x z
 unfold Btr at *
 omega
theorem Win.one{hd:Hd}{N:List Int}{v w:Option Int}(h:Win hd N v)(g:Win hd N w):v=w:=by
 cases v with
 | none =>
  cases w with
  | none=>rfl
  | some b=>obtain⟨hb,y,hy,_⟩:=g;rw[h b hb]at hy;cases hy
 | some a =>
  obtain⟨ha,x,hx,h2⟩:=h
  cases w with
  | none=>rw[g a ha]at hx;cases hx
  | some b =>
   obtain⟨hb,y,hy,g2⟩:=g
   rcases h2 b hb y hy with e|e
   ·rw[e]
   ·rcases g2 a ha x hx with e'|e'
    ·rw[e']
    ·exact(e.asym e').elim
theorem Win.nil(hd:Hd):Win hd [] none:=fun n h=>by cases h
theorem Win.sing{hd:Hd}{n:Int}:Win hd [n] (if (hd n).isSome then some n else none):=by
 cases h:hd n with
 | none=>intro m hm;rw[Qd.mp hm];exact h
 | some x=>exact⟨by simp,x,h,fun b hb y hy=>.inl (Qd.mp hb)⟩
theorem Win.both{hd:Hd}{A B:List Int}{a b:Int}{x y:List Nat}(ha:Win hd A (some a))(hb:Win hd B (some b))(hx:hd a=some x)(hy:hd b=some y)(h:Btr x a y b):Win hd (A++B) (some a):=by
 obtain⟨a1,x',hx',a2⟩:=ha
 obtain⟨b1,y',hy',b2⟩:=hb
 rw[hx]at hx';cases hx'
 rw[hy]at hy';cases hy'
 refine⟨Qs _ a1,x,hx,fun c hc z hz=>?_⟩
 rcases Qh.mp hc with hc|hc
 ·exact a2 c hc z hz
 ·rcases b2 c hc z hz with e|e
  ·subst e;rw[hy]at hz;cases hz;exact .inr h
  ·exact .inr (h.trans e)
theorem Win.both'{hd:Hd}{A B:List Int}{a b:Int}{x y:List Nat}(ha:Win hd A (some a))(hb:Win hd B (some b))(hx:hd a=some x)(hy:hd b=some y)(h:Btr y b x a):Win hd (A++B) (some b):=by
 have:=Win.both hb ha hy hx h
 obtain⟨h1,z,h2,h3⟩:=this
 exact⟨by rcases Qh.mp h1 with h|h<;>simp[h],z,h2,fun c hc=>h3 c (by rcases Qh.mp hc with h|h<;>simp[h])⟩
theorem Win.left{hd:Hd}{A B:List Int}{w:Option Int}(ha:Win hd A w)(hb:Win hd B none):Win hd (A++B) w:=by
 cases w with
 | none=>intro n hn;rcases Qh.mp hn with h|h;exact ha n h;exact hb n h
 | some a =>
  obtain⟨a1,x,hx,a2⟩:=ha
  refine⟨Qs _ a1,x,hx,fun c hc z hz=>?_⟩
  rcases Qh.mp hc with hc|hc
  ·exact a2 c hc z hz
  ·rw[hb c hc]at hz;cases hz
theorem Win.right{hd:Hd}{A B:List Int}{w:Option Int}(ha:Win hd A none)(hb:Win hd B w):Win hd (A++B) w:=by
 cases w with
 | none=>intro n hn;rcases Qh.mp hn with h|h;exact ha n h;exact hb n h
 | some a =>
  obtain⟨a1,x,hx,a2⟩:=hb
  refine⟨Qn _ a1,x,hx,fun c hc z hz=>?_⟩
  rcases Qh.mp hc with hc|hc
  ·rw[ha c hc]at hz;cases hz
  ·exact a2 c hc z hz
theorem Win.ex(hd:Hd):∀N:List Int,N.Nodup→∃w,Win hd N w
 | [],_=>⟨none,Win.nil hd⟩
 | n::N,hn=>by
  obtain⟨n1,n2⟩:=QY.mp hn
  obtain⟨w,hw⟩:=Win.ex hd N n2
  have hs:Win hd [n] (if (hd n).isSome then some n else none):=Win.sing
  cases h:hd n with
  | none =>
   rw[h]at hs
   exact⟨w,Win.right (A:=[n]) hs hw⟩
  | some x =>
   rw[h]at hs
   cases w with
   | none=>exact⟨some n,Win.left (A:=[n]) hs hw⟩
   | some b =>
    obtain⟨b1,y,hy,b2⟩:=id hw
    have hne:n≠b:=fun e=>n1 (e ▸ b1)
    rcases Btr.total (x:=x) (y:=y) hne with e|e
    ·exact⟨some n,Win.both (A:=[n]) hs hw h hy e⟩
    ·exact⟨some b,Win.both' (A:=[n]) hs hw h hy e⟩
theorem Win.congr{hd hd':Hd}{N:List Int}(h:∀n∈N,hd' n=hd n){w:Option Int}(hw:Win hd N w):Win hd' N w:=by
 cases w with
 | none=>intro n hn;rw[h n hn];exact hw n hn
 | some a =>
  obtain⟨a1,x,hx,a2⟩:=hw
  exact⟨a1,x,by rw[h a a1];exact hx,fun b hb y hy=>a2 b hb y (by rw[← h b hb];exact hy)⟩
noncomputable def lo(N:List Int):List Int:=N.take (mid N)
noncomputable def up(N:List Int):List Int:=N.drop (mid N)
theorem Zcr(N:List Int):lo N++up N=N:=Qae _ _
theorem ZdR{N:List Int}(h:2≤N.length):(lo N).length<N.length∧1≤(lo N).length:=by
 unfold lo mid
 rw[Qx]
 omega
theorem ZeD{N:List Int}(h:2≤N.length):(up N).length<N.length∧1≤(up N).length:=by
 unfold up mid
 rw[QR]
 omega
noncomputable def ZQ(N:List Int):Int×Int:=(N.headD 0,N.getLastD 0)
noncomputable abbrev StL:=List ((Int×Int)×Option (Addr×Int×Int))
noncomputable def stV:Option (Addr×Int×Int)→V
 | none=>.non
 | some t=>.ref t.1
noncomputable def kvS(s:StL):List (List Key×V):=s.map fun e=>([.inl e.1.1,.inl e.1.2],stV e.2)
noncomputable def AtS(H:Hp)(s:StL):Prop:=∀e∈s,∀t,e.2=some t→H t.1=some (.tup [.int t.2.1,.int t.2.2])
noncomputable def ZU(s:StL)(k:Int×Int):Option (Option (Addr×Int×Int)):=(s.find? fun e=>decide (e.1=k)).map (·.2)
noncomputable def ZcQ(s:StL)(k:Int×Int)(v:Option (Addr×Int×Int)):StL:=if s.any (fun e=>decide (e.1=k)) then s.map (fun e=>if e.1=k then (e.1,v) else e) else s++[(k,v)]
theorem AtS.mono{H H':Hp}{s:StL}(h:AtS H s)(k:∀a xs,H a=some (.tup xs)→H' a=some (.tup xs)):AtS H' s:=fun e he t ht=>k _ _ (h e he t ht)
theorem Zj4{a b:Int×Int}(h:([.inl a.1,.inl a.2]:List Key)=[.inl b.1,.inl b.2]):a=b:=by
 obtain⟨a1,a2⟩:=a
 obtain⟨b1,b2⟩:=b
 injection h with h1 h2
 injection h2 with h2 _
 have e1:=Sum.inl.inj h1
 have e2:=Sum.inl.inj h2
 simp only at e1 e2
 rw[e1,e2]
theorem Zjp(k:Int×Int):∀s:StL,ZcH (kvS s) [.inl k.1,.inl k.2]=(ZU s k).map stV
 | []=>rfl
 | e::s=>by
  have ih:=Zjp k s
  by_cases h:e.1=k
  ·unfold kvS ZU
   rw[Ql,ZdY (by rw[h])]
   simp[List.find?_cons,h]
  ·unfold kvS at ih ⊢
   rw[Ql,ZdU (fun z=>h (Zj4 z)),ih]
   unfold ZU
   simp[List.find?_cons,h]
theorem ZoR(k:Int×Int)(s:StL):((kvS s).any fun kv=>decide (kv.1=([.inl k.1,.inl k.2]:List Key)))=s.any fun e=>decide (e.1=k):=by
 unfold kvS
 rw[List.any_map]
 congr 1
 funext e
 simp only[Function.comp]
 by_cases h:e.1=k
 ·rw[decide_eq_true h,decide_eq_true (by rw[h])]
 ·rw[decide_eq_false h,decide_eq_false (fun z=>h (Zj4 z))]
theorem ZfL(s:StL)(k:Int×Int)(v:Option (Addr×Int×Int)):Zei (kvS s) [.inl k.1,.inl k.2] (stV v)=kvS (ZcQ s k v):=by
 unfold Zei ZcQ
 rw[ZoR]
 split
 ·unfold kvS
  rw[QB,QB]
  congr 1
  funext e
  simp only[Function.comp]
  by_cases h:e.1=k
  ·rw[if_pos h,if_pos (by rw[h])]
  ·rw[if_neg h,if_neg (fun z=>h (Zj4 z))]
 ·unfold kvS;rw[Qf];rfl
theorem ZmO(s:StL)(k:Int×Int)(v:Option (Addr×Int×Int)):(ZcQ s k v).length≤s.length+1:=by
 unfold ZcQ
 split
 ·rw[Qa];omega
 ·rw[Qe];exact Qg _
theorem Za2(s:StL)(k j:Int×Int)(v:Option (Addr×Int×Int)):ZU (ZcQ s k v) j=if j=k then some v else ZU s j:=by
 unfold ZcQ
 split
 ·rename_i h
  induction s with
  | nil=>simp at h
  | cons e s ih =>
   unfold ZU at ih ⊢
   by_cases hek:e.1=k
   ·by_cases hj:j=k
    ·subst hj;simp[List.find?_cons,hek]
    ·have hj':¬ k=j:=fun z=>hj z.symm
     rw[Ql,if_pos hek,Qaw (by simp[hek,hj']),Qaw (by simp[hek,hj']),if_neg hj]
     by_cases ha:s.any (fun e=>decide (e.1=k))=true
     ·have:=ih ha;rw[if_neg hj]at this;exact this
     ·have:s.map (fun e=>if e.1=k then (e.1,v) else e)=s:=by
       rw[List.map_eq_iff]
       intro i
       cases hi:s[i]? with
       | none=>rfl
       | some x =>
        have hx:¬ x.1=k:=fun z=>ha (List.any_eq_true.mpr ⟨x,Qo hi,by simpa using z⟩)
        simp[hx]
      rw[this]
   ·have ha:s.any (fun e=>decide (e.1=k))=true:=by simpa [hek] using h
    rw[Ql,if_neg hek]
    by_cases hj:e.1=j
    ·have:¬ j=k:=fun z=>hek (hj.trans z)
     rw[List.find?_cons_of_pos (by simpa using hj),List.find?_cons_of_pos (by simpa using hj),if_neg this]
    ·rw[Qaw (by simpa using hj),Qaw (by simpa using hj)]
     exact ih ha
 ·rename_i h
  unfold ZU
  rw[List.find?_append]
  by_cases hj:j=k
  ·subst hj
   have:s.find? (fun e=>decide (e.1=j))=none:=by
    rw[List.find?_eq_none]
    intro x hx z
    exact h (List.any_eq_true.mpr ⟨x,hx,z⟩)
   rw[this];simp
  ·have hj':¬ k=j:=fun z=>hj z.symm
   rw[if_neg hj]
   simp[hj']
theorem AtS.put{H:Hp}{s:StL}{k:Int×Int}{v:Option (Addr×Int×Int)}(h:AtS H s)(hv:∀t,v=some t→H t.1=some (.tup [.int t.2.1,.int t.2.2])):AtS H (ZcQ s k v):=by
 unfold ZcQ
 split
 ·intro e he t ht
  obtain⟨x,hx,rfl⟩:=Qw.mp he
  split at ht
  ·exact hv t ht
  ·exact h x hx t ht
 ·intro e he t ht
  rcases Qh.mp he with he|he
  ·exact h e he t ht
  ·rw[Qd.mp he]at ht;exact hv t ht
theorem ZhL{s:StL}{k:Int×Int}{v:Option (Addr×Int×Int)}(h:ZU s k=some v):(k,v)∈s:=by
 unfold ZU at h
 obtain⟨e,he,rfl⟩:=QaQ.mp h
 have h1:=List.find?_some he
 have:e.1=k:=by simpa using h1
 rw[← this];exact List.mem_of_find?_eq_some he
noncomputable def Zs4(hd:Hd)(s:StL)(N:List Int):Prop :=
 (∀a b x y,Win hd (lo N) (some a)→Win hd (up N) (some b)→hd a=some x→hd b=some y→∃t,ZU s (ZQ N)=some (some (t,if ZJ x y<0∨(ZJ x y=0∧a<b) then b else a,((lcp x y:Nat):Int)))) ∧
 ((Win hd (lo N) none∨Win hd (up N) none)→ZU s (ZQ N)=none∨ZU s (ZQ N)=some none)
noncomputable def Zfq(hd:Hd)(s:StL):Nat→List Int→Prop
 | 0,_=>True
 | n+1,N=>2≤N.length→Zfq hd s n (lo N)∧Zfq hd s n (up N)∧Zs4 hd s N
noncomputable def ZeV:Nat→List Int→Int×Int→Prop
 | 0,_,_=>False
 | n+1,N,k=>2≤N.length∧(ZeV n (lo N) k∨ZeV n (up N) k∨k=ZQ N)
noncomputable abbrev Zam(N:List Int):Prop:=N.Pairwise (·<·)
theorem Zd8{N:List Int}(h:Zam N):Zam (lo N):=h.sublist (List.take_sublist _ _)
theorem Zee{N:List Int}(h:Zam N):Zam (up N):=h.sublist (List.drop_sublist _ _)
theorem Zd2{N:List Int}(h:Zam N):N.Nodup:=h.imp fun {a b} hab e=>by omega
theorem ZL{N:List Int}(h:Zam N){a b:Int}(ha:a∈lo N)(hb:b∈up N):a<b:=by
 have:Zam (lo N++up N):=by rw[Zcr];exact h
 exact(List.pairwise_append.mp this).2.2 a ha b hb
theorem Zcf{N:List Int}(h:N≠[]):N.headD 0∈N:=by
 cases N with
 | nil=>exact absurd rfl h
 | cons a r=>simp
theorem Zch{N:List Int}(h:N≠[]):N.getLastD 0∈N:=by
 rw[Qam,QaM h]
 exact List.getLast_mem h
theorem Z7{N:List Int}(h:1≤N.length):N≠[]:=fun z=>by rw[z]at h;simp at h
theorem Zft{N:List Int}(h:2≤N.length):(ZQ N).2=(up N).getLastD 0:=by
 have hu:=Z7 (ZeD h).2
 show N.getLastD 0=_
 rw[Qam,Qam]
 conv=>lhs;rw[← Zcr N]
 rw[List.getLast?_append,QaM hu];rfl
theorem Zfa{N:List Int}(h:2≤N.length):(ZQ N).1=(lo N).headD 0:=by
 have hl:=Z7 (ZdR h).2
 show N.headD 0=_
 conv=>lhs;rw[← Zcr N]
 cases hc:lo N with
 | nil=>exact absurd hc hl
 | cons a r=>rfl
theorem Zd4:∀ (n:Nat) (N:List Int) (k:Int×Int),ZeV n N k→k.1∈N∧k.2∈N
 | 0,_,_,h=>h.elim
 | n+1,N,k,⟨h2,h⟩=>by
  rcases h with h|h|rfl
  ·have:=Zd4 n _ k h
   rw[← Zcr N]
   exact⟨Qs _ this.1,Qs _ this.2⟩
  ·have:=Zd4 n _ k h
   rw[← Zcr N]
   exact⟨Qn _ this.1,Qn _ this.2⟩
  ·have hn:N≠[]:=Z7 (by omega)
   exact⟨Zcf hn,Zch hn⟩
theorem Ziy{N:List Int}(hr:Zam N)(h2:2≤N.length){n:Nat}{k:Int×Int}(h:ZeV n (lo N) k):k≠ZQ N∧∀m,¬ ZeV m (up N) k:=by
 have:=Zd4 n _ k h
 refine⟨fun z=>?_,fun m hm=>?_⟩
 ·have h1:=Zft h2
  rw[z,h1]at this
  have:=ZL hr this.2 (Zch (Z7 (ZeD h2).2))
  omega
 ·have:=ZL hr this.1 (Zd4 m _ k hm).1
  omega
theorem Zis{N:List Int}(hr:Zam N)(h2:2≤N.length){n:Nat}{k:Int×Int}(h:ZeV n (up N) k):k≠ZQ N∧∀m,¬ ZeV m (lo N) k:=by
 have:=Zd4 n _ k h
 refine⟨fun z=>?_,fun m hm=>?_⟩
 ·have h1:=Zfa h2
  rw[z,h1]at this
  have:=ZL hr (Zcf (Z7 (ZdR h2).2)) this.1
  omega
 ·have:=ZL hr (Zd4 m _ k hm).1 this.1
  omega
theorem Zfq.congr{hd hd':Hd}{s s':StL}:∀ (n:Nat) (N:List Int),(∀m∈N,hd' m=hd m)→(∀k,ZeV n N k→ZU s' k=ZU s k)→Zfq hd s n N→Zfq hd' s' n N
 | 0,_,_,_,_=>True.intro
 | n+1,N,hh,hk,h=>fun h2=>by
  obtain⟨a,b,c1,c2⟩:=h h2
  have hl:∀m∈lo N,hd' m=hd m:=fun m hm=>hh m (by rw[← Zcr N];exact Qs _ hm)
  have hu:∀m∈up N,hd' m=hd m:=fun m hm=>hh m (by rw[← Zcr N];exact Qn _ hm)
  have hl':∀m∈lo N,hd m=hd' m:=fun m hm=>(hl m hm).symm
  have hu':∀m∈up N,hd m=hd' m:=fun m hm=>(hu m hm).symm
  refine⟨Zfq.congr n _ hl (fun k hkk=>hk k ⟨h2,.inl hkk⟩) a,Zfq.congr n _ hu (fun k hkk=>hk k ⟨h2,.inr (.inl hkk)⟩) b,fun a b x y ha hb hx hy=>?_,fun hw=>?_⟩
  ·rw[hk _ ⟨h2,.inr (.inr rfl)⟩]
   exact c1 a b x y (Win.congr hl' ha) (Win.congr hu' hb) (by rw[← hl a ha.1];exact hx) (by rw[← hu b hb.1];exact hy)
  ·rw[hk _ ⟨h2,.inr (.inr rfl)⟩]
   refine c2 ?_
   rcases hw with hw|hw
   ·exact .inl (Win.congr hl' hw)
   ·exact .inr (Win.congr hu' hw)
inductive ZfX (hd:Hd):Nat→List Int→Int→Int→Prop
 | few {n:Nat} {N:List Int}:N.length<2→ZfX hd n N 0 0
 | none {n:Nat} {N:List Int} {k l k' l':Int}:2≤N.length→ZfX hd n (lo N) k l→ZfX hd n (up N) k' l'→(Win hd (lo N) none∨Win hd (up N) none)→ZfX hd (n+1) N (k+k') (l+l')
 | both {n:Nat} {N:List Int} {k l k' l':Int} {a b:Int} {x y:List Nat}:2≤N.length→ZfX hd n (lo N) k l→ZfX hd n (up N) k' l'→Win hd (lo N) (some a)→Win hd (up N) (some b)→hd a=some x→hd b=some y→ZfX hd (n+1) N (k+k'+1) (l+l'+(lcp x y:Nat)+1)
noncomputable def kk(e:Str×Int):List Key:=[.inr e.1,.inl e.2]
noncomputable def oV:Option Str→V
 | none=>.non
 | some s=>.str s
noncomputable def Zff:Option Int→V
 | none=>.non
 | some a=>.int a
noncomputable def kvH(E:List (Int×Option Str)):List (Key×V):=E.map fun e=>(.inl e.1,oV e.2)
noncomputable def lk(E:List (Int×Option Str))(n:Int):Option Str:=(E.find? fun e=>decide (e.1=n)).bind (·.2)
structure Hds (H:Hp) (D:Addr) (E:List (Int×Option Str)):Prop where
 at':H D=some (.dK (kvH E))
 nd:(E.map (·.1)).Nodup
 ok:∀e∈E,∀s,e.2=some s→s.length≤1000∧AZ s
theorem ZrR(N:List Int):Zel N=lo N:=rfl
theorem Zro(N:List Int):ZgR N=up N:=rfl
noncomputable abbrev Zek:=Int×Addr×List Str×Nat
noncomputable def kvR(L:List Zek):List (Key×V):=L.map fun e=>(.inl e.1,.ref e.2.1)
noncomputable def kvG(L:List Zek):List (Key×V):=L.map fun e=>(.inl e.1,.int (e.2.2.2:Int))
noncomputable def Zs1(ra ga:Addr)(nb li lo:Int):List (Key×V):=[(.inr "rows",.ref ra),(.inr "gone",.ref ga),(.inr "number",.int nb),(.inr "likenings",.int li),(.inr "looks",.int lo)]
structure Own (H:Hp) (o ra ga:Addr) (L:List Zek) (nb li lo:Int):Prop where
 at':H o=some (.dK (Zs1 ra ga nb li lo))
 rows:H ra=some (.dK (kvR L))
 gone:H ga=some (.dK (kvG L))
 nd:(L.map (·.1)).Nodup
 few:L.length≤60
 lst:∀e∈L,H e.2.1=some (.lst (e.2.2.1.map V.str))∧e.2.2.1.length≤100∧e.2.2.2≤e.2.2.1.length∧∀s∈e.2.2.1,s.length≤1000∧AZ s
theorem ZqW{ns:List Int}(h:ns.Nodup):(ns.map (Sum.inl:Int→Key)).Nodup:=QaR _ (fun a b hab z=>hab (Sum.inl.inj z)) h
theorem Zdv.k'{H:Hp}{a:Addr}{kvs:List (Key×V)}{k:Key}{r:Option V}(e:H a=some (.dK kvs))(h:ZcH kvs k=r):Zdv H a (kV k) r:=by rw[← h];exact Zdv.k e
structure HdOf (L:List Zek) (E:List (Int×Option Str)):Prop where
 per:(E.map (·.1)).Perm (L.map (·.1))
 up:(E.map (·.1)).Pairwise (·<·)
 hd:∀e∈L,(e.1,e.2.2.1[e.2.2.2]?)∈E
noncomputable def hdL(L:List Zek):Hd:=fun n=>((L.find? fun e=>decide (e.1=n)).bind fun e=>e.2.2.1[e.2.2.2]?).map cds
theorem Zkj:∀ {L:List Zek},(L.map (·.1)).Nodup→∀ {e:Zek},e∈L→hdL L e.1=(e.2.2.1[e.2.2.2]?).map cds
 | [],_,_,h=>by cases h
 | x::r,nd,e,h=>by
  rw[Ql,QY]at nd
  unfold hdL
  rw[Qao]
  rcases QK.mp h with rfl|h
  ·rw[decide_eq_true rfl];rfl
  ·rw[decide_eq_false (fun z:x.1=e.1=>nd.1 (by rw[z];exact Qp (f:=fun x:Zek=>x.1) h))]
   exact Zkj nd.2 h
theorem Win.perm{hd:Hd}{N M:List Int}{v:Option Int}(h:Win hd N v)(p:N.Perm M):Win hd M v:=by
 cases v with
 | none=>exact fun n hn=>h n (p.mem_iff.mpr hn)
 | some a=>obtain⟨ha,x,hx,hb⟩:=h;exact⟨p.mem_iff.mp ha,x,hx,fun b hbm=>hb b (p.mem_iff.mpr hbm)⟩
noncomputable def ZsK(L:List Zek)(H:Hp)(x:V):Prop:=(x=.non∧Win (hdL L) (L.map (·.1)) none)∨∃ (t:Addr) (e:Zek) (z:Str),x=.ref t∧e∈L∧e.2.2.1[e.2.2.2]? = some z∧H t=some (.tup [.int e.1,.int (e.2.2.2:Int),.str z])∧Win (hdL L) (L.map (·.1)) (some e.1)
structure Zex (H:Hp) (r:Addr) (rs:List (Addr×List Str)):Prop where
 at':H r=some (.lst (rs.map fun x=>V.ref x.1))
 few:rs.length≤60
 lst:∀x∈rs,H x.1=some (.lst (x.2.map V.str))∧x.2.length≤100∧∀s∈x.2,s.length≤1000∧AZ s
theorem Zex.same{H H':Hp}{r:Addr}{rs:List (Addr×List Str)}(h:Zex H r rs)(s:ZC H H'):Zex H' r rs:=⟨s _ _ h.at',h.few,fun x hx=>let ⟨a,b⟩:=h.lst x hx;⟨s _ _ a,b⟩⟩
theorem ZeJ(n:Nat):(Zx 0 n).Pairwise (·<·):=by
 unfold Zx
 exact QaR _ (fun a b h=>by omega) (List.pairwise_lt_range)
noncomputable def ZgN(K:PySem.W.Frag):Sp:=fun vs H Q _=>∃ (n:Int) (a:Addr) (ss:List Str),vs=[.int n,.ref a]∧SqL K H a (ss.map V.str)∧ss.length≤200∧(∀s∈ss,s.length≤1000)∧ZjD ss .non∧∀H',ZC H H'→Q .non H'
theorem ZlS(T:Zaf K mg cRow cMerge)(f_first_break:Df P w K mg base 4 "first_break" ["keys"] (ZnJ K)):Df P w K mg base 5 "refuse_break" ["number", "keys"] (ZgN K):=by
 refine T.t_refuse_break.df Zdp (fun vs H Q E h=>?_) (fun cdv f A outer s H vs Q E hr h=>?_)
 ·obtain⟨n,a,ss,rfl,_⟩:=h
  rfl
 obtain⟨n,a,ss,rfl,hS,h200,h1000,hnon,q⟩:=h
 refine⟨_,#[Zg,#[Zy,2,Zdp.nd,(Or.inl rfl),#[ZB,f_first_break,hr,#[Za,‹1›,#[Zc]],(by rfl)]],#[Zj,#[ZZ,#[Zn,Zif,‹2›,#[ZaQ],(Zs _)],#[Zj,(@Zpe _ _)],#[ZD]]]],?_⟩
 refine⟨_,rfl,a,ss,rfl,hS,h200,h1000,fun v H1 hb s1=>?_⟩
 have e:=Zo0 hb hnon
 subst e
 exact⟨_,rfl,rfl,_,rfl,Zcl (q H1 s1)⟩
structure ZK where
 n:Int
 p:Addr
 k:Addr
 f:Addr
 ss:List Str
 g:Nat
noncomputable def toL(e:ZK):Zek:=(e.n,e.p,e.ss,e.g)
noncomputable def hdM(L:List ZK):Hd:=hdL (L.map toL)
noncomputable def ZI(L:List ZK):List Int:=L.map (·.n)
theorem ZeE(L:List ZK):(L.map toL).map (·.1)=ZI L:=by rw[QB];rfl
noncomputable def kvM(L:List ZK):List (Key×V):=L.map fun e=>(.inl e.n,.ref e.p)
theorem Zev{L:List ZK}(nd:(ZI L).Nodup){e:ZK}(he:e∈L):hdM L e.n=(e.ss[e.g]?).map cds :=
 Zkj (L:=L.map toL) (by rw[ZeE];exact nd) (Qp (f:=toL) he)
theorem ZnQ(L:List ZK):(kvM L).map (·.1)=(ZI L).map (Sum.inl:Int→Key):=by unfold kvM ZI;rw[QB,QB];rfl
theorem Zgr{L:List ZK}(nd:(ZI L).Nodup){e:ZK}(he:e∈L):ZcH (kvM L) (.inl e.n)=some (.ref e.p):=ZjN (by rw[ZnQ];exact ZqW nd) (Qp (f:=fun e:ZK=>((.inl e.n:Key),V.ref e.p)) he)
theorem Zdz{L:List ZK}{n:Int}(h:n∈ZI L):∃e∈L,e.n=n:=Qw.mp h
noncomputable def mgF(rd:Addr)(nb li lo:Int)(sd:Addr)(best:V):List (Str×V):=[("rows",.ref rd),("next_number",.int nb),("likened",.int li),("looked",.int lo),("stays",.ref sd),("best",best)]
theorem Zr1:¬ (("rows" : Str) = "next_number"):=by ac_rfl
theorem ZqU:¬ (("rows" : Str) = "likened"):=by ac_rfl
theorem ZqL:¬ (("rows" : Str) = "looked"):=by ac_rfl
theorem ZrY:¬ (("rows" : Str) = "stays"):=by ac_rfl
theorem ZrA:¬ (("rows" : Str) = "best"):=by ac_rfl
theorem ZsJ:¬ (("next_number" : Str) = "likened"):=by ac_rfl
theorem Zsq:¬ (("next_number" : Str) = "looked"):=by ac_rfl
theorem Zsj:¬ (("next_number" : Str) = "stays"):=by ac_rfl
theorem Zsn:¬ (("next_number" : Str) = "best"):=by ac_rfl
theorem ZrN:¬ (("likened" : Str) = "looked"):=by ac_rfl
theorem ZrE:¬ (("likened" : Str) = "stays"):=by ac_rfl
theorem ZrG:¬ (("likened" : Str) = "best"):=by ac_rfl
theorem Zri:¬ (("looked" : Str) = "stays"):=by ac_rfl
theorem Zrq:¬ (("looked" : Str) = "best"):=by ac_rfl
theorem Zrk:¬ (("stays" : Str) = "best"):=by ac_rfl
theorem ZdO(f:Str)(v x:V)(r:List (Str×V)):Zr f v ((f,x)::r)=(f,v)::r:=by unfold Zr;rw[if_pos rfl]
theorem Zu{f g:Str}(h:¬ g=f)(v x:V)(r:List (Str×V)):Zr f v ((g,x)::r)=(g,x)::Zr f v r:=by
 show (if g=f then (g,v)::r else (g,x)::Zr f v r)=_
 rw[if_neg h]
theorem ZbB(f:Str)(v:V):Zr f v []=[(f,v)]:=rfl
theorem ZbM(rd:Addr)(nb li lo:Int)(sd:Addr)(best:V):mgF rd nb li lo sd best=Zr "best" best (Zr "stays" (.ref sd) (Zr "looked" (.int lo) (Zr "likened" (.int li) (Zr "next_number" (.int nb) (Zr "rows" (.ref rd) []))))):=by
 rw[ZbB,Zu Zr1,ZbB,Zu ZqU,Zu ZsJ,ZbB,Zu ZqL,Zu Zsq,Zu ZrN,ZbB,Zu ZrY,Zu Zsj,Zu ZrE,Zu Zri,ZbB,Zu ZrA,Zu Zsn,Zu ZrG,Zu Zrq,Zu Zrk,ZbB]
 rfl
section
variable (rd:Addr) (nb li lo:Int) (sd:Addr) (best:V)
theorem ZbZ:(mgF rd nb li lo sd best).lookup ("rows" : Str)=some (.ref rd):=by
 rw[ZbM,Zo,if_neg ZrA,Zo,if_neg ZrY,Zo,if_neg ZqL,Zo,if_neg ZqU,Zo,if_neg Zr1,Zo,if_pos rfl]
theorem ZfD:(mgF rd nb li lo sd best).lookup ("likened" : Str)=some (.int li):=by
 rw[ZbM,Zo,if_neg ZrG,Zo,if_neg ZrE,Zo,if_neg ZrN,Zo,if_pos rfl]
theorem Zki:(mgF rd nb li lo sd best).lookup ("looked" : Str)=some (.int lo):=by
 rw[ZbM,Zo,if_neg Zrq,Zo,if_neg Zri,Zo,if_pos rfl]
theorem ZcN:(mgF rd nb li lo sd best).lookup ("stays" : Str)=some (.ref sd):=by
 rw[ZbM,Zo,if_neg Zrk,Zo,if_pos rfl]
theorem ZdE:(mgF rd nb li lo sd best).lookup ("best" : Str)=some best:=by
 rw[ZbM,Zo,if_pos rfl]
theorem Zdj{m:Str}(h1:¬ m = "rows")(h2:¬ m = "next_number")(h3:¬ m = "likened")(h4:¬ m = "looked")(h5:¬ m = "stays")(h6:¬ m = "best"):(mgF rd nb li lo sd best).lookup m=none:=by
 rw[ZbM,Zo,if_neg h6,Zo,if_neg h5,Zo,if_neg h4,Zo,if_neg h3,Zo,if_neg h2,Zo,if_neg h1]
 rfl
theorem Zdr(v:Int):Zr "likened" (.int v) (mgF rd nb li lo sd best)=mgF rd nb v lo sd best:=by unfold mgF;rw[Zu ZqU,Zu ZsJ,ZdO]
theorem Zgy(v:Int):Zr "looked" (.int v) (mgF rd nb li lo sd best)=mgF rd nb li v sd best:=by unfold mgF;rw[Zu ZqL,Zu Zsq,Zu ZrN,ZdO]
theorem Zg9(x:Addr):Zr "stays" (.ref x) (mgF rd nb li lo sd best)=mgF rd nb li lo x best:=by unfold mgF;rw[Zu ZrY,Zu Zsj,Zu ZrE,Zu Zri,ZdO]
theorem Zcc(x:V):Zr "best" x (mgF rd nb li lo sd best)=mgF rd nb li lo sd x:=by unfold mgF;rw[Zu ZrA,Zu Zsn,Zu ZrG,Zu Zrq,Zu Zrk,ZdO]
theorem Zcz:(mgF rd nb li lo sd best).length<1000:=by show 6<1000;decide
end
structure ZeZ (C:Addr) (H:Hp) (e:ZK):Prop where
 at':Zlo C H e.p e.k e.f e.ss e.g
 le:e.g≤e.ss.length
 len:e.ss.length≤100
 srt:sortedS e.ss=true
 str:∀s∈e.ss,s.length≤1000∧AZ s
structure Zaa (cR cM:Addr) (H:Hp) (m rd sd:Addr) (L:List ZK) (s:StL) (nb li lo:Int) (best:V):Prop where
 ob:∃dx,H m=some (.ins cM dx (mgF rd nb li lo sd best))
 rows:H rd=some (.dK (kvM L))
 stays:H sd=some (.dT (kvS s))
 ats:AtS H s
 each:∀e∈L,ZeZ cR H e
 up:Zam (ZI L)
 pd:(L.map (·.p)).Nodup
 few:L.length≤60
 sfew:s.length≤100
noncomputable def Fp(m rd sd:Addr)(L:List ZK)(b:Addr):Prop:=b=m∨b=rd∨b=sd∨∃e∈L,b=e.p∨b=e.k∨b=e.f
theorem ZeZ.keep{C:Addr}{H H':Hp}{e:ZK}(h:ZeZ C H e)(hp:H' e.p=H e.p)(hk:H' e.k=H e.k)(hf:H' e.f=H e.f):ZeZ C H' e :=
 ⟨⟨by rw[hp];exact h.at'.ob,by rw[hk];exact h.at'.ks,by rw[hf];exact h.at'.fs⟩,h.le,h.len,h.srt,h.str⟩
section
variable {cR cM:Addr} {H H':Hp} {m rd sd:Addr} {L:List ZK} {s:StL} {nb li lo:Int} {best:V}
theorem Zaa.nd(h:Zaa cR cM H m rd sd L s nb li lo best):(ZI L).Nodup:=Zd2 h.up
theorem Zaa.keep(h:Zaa cR cM H m rd sd L s nb li lo best)(k:∀b o,H b=some o→Fp m rd sd L b∨(∃xs,o=.tup xs)→H' b=some o):Zaa cR cM H' m rd sd L s nb li lo best:=by
 refine⟨?_,k _ _ h.rows (.inl (.inr (.inl rfl))),k _ _ h.stays (.inl (.inr (.inr (.inl rfl)))),fun e he t ht=>k _ _ (h.ats e he t ht) (.inr ⟨_,rfl⟩),fun e he=>?_,h.up,h.pd,h.few,h.sfew⟩
 ·obtain⟨dx,hd⟩:=h.ob
  exact⟨dx,k _ _ hd (.inl (.inl rfl))⟩
 ·have r:=h.each e he
  obtain⟨dx,hd⟩:=r.at'.ob
  exact⟨⟨⟨dx,k _ _ hd (.inl (.inr (.inr (.inr ⟨e,he,.inl rfl⟩))))⟩,k _ _ r.at'.ks (.inl (.inr (.inr (.inr ⟨e,he,.inr (.inl rfl)⟩)))),k _ _ r.at'.fs (.inl (.inr (.inr (.inr ⟨e,he,.inr (.inr rfl)⟩))))⟩,r.le,r.len,r.srt,r.str⟩
theorem Zaa.same(h:Zaa cR cM H m rd sd L s nb li lo best)(k:ZC H H'):Zaa cR cM H' m rd sd L s nb li lo best:=h.keep fun b o hb _=>k b o hb
theorem Zaa.ne_p(h:Zaa cR cM H m rd sd L s nb li lo best){e:ZK}(he:e∈L):m≠e.p∧m≠e.k∧m≠e.f:=by
 obtain⟨dx,hd⟩:=h.ob
 have r:=h.each e he
 obtain⟨dy,hy⟩:=r.at'.ob
 refine⟨fun z=>?_,fun z=>?_,fun z=>?_⟩
 ·rw[z,hy]at hd
  injection hd with hd
  injection hd with _ _ hd
  have a:=Ze8 e.k e.f (e.g:Int)
  rw[hd,Zdj _ _ _ _ _ _ (by ac_rfl) (by ac_rfl) (by ac_rfl) (by ac_rfl) (by ac_rfl) (by ac_rfl)]at a
  cases a
 ·rw[z,r.at'.ks]at hd;cases hd
 ·rw[z,r.at'.fs]at hd;cases hd
theorem Zaa.ne_m(h:Zaa cR cM H m rd sd L s nb li lo best):m≠rd∧m≠sd∧rd≠sd:=by
 obtain⟨dx,hd⟩:=h.ob
 refine⟨fun z=>?_,fun z=>?_,fun z=>?_⟩
 ·rw[z,h.rows]at hd;cases hd
 ·rw[z,h.stays]at hd;cases hd
 ·have:=h.rows;rw[z,h.stays]at this;cases this
theorem Zaa.ne_sd(h:Zaa cR cM H m rd sd L s nb li lo best){e:ZK}(he:e∈L):sd≠e.p∧sd≠e.k∧sd≠e.f∧rd≠e.p∧rd≠e.k∧rd≠e.f:=by
 have r:=h.each e he
 obtain⟨dy,hy⟩:=r.at'.ob
 have a:=h.stays
 have b:=h.rows
 refine⟨fun z=>?_,fun z=>?_,fun z=>?_,fun z=>?_,fun z=>?_,fun z=>?_⟩
 ·rw[z,hy]at a;cases a
 ·rw[z,r.at'.ks]at a;cases a
 ·rw[z,r.at'.fs]at a;cases a
 ·rw[z,hy]at b;cases b
 ·rw[z,r.at'.ks]at b;cases b
 ·rw[z,r.at'.fs]at b;cases b
theorem Zaa.obj(h:Zaa cR cM H m rd sd L s nb li lo best){nb' li' lo':Int}{best':V}{dx:Addr}:Zaa cR cM (upd H m (.ins cM dx (mgF rd nb' li' lo' sd best'))) m rd sd L s nb' li' lo' best':=by
 obtain⟨n1,n2,n3⟩:=h.ne_m
 obtain⟨dy,hd⟩:=h.ob
 refine⟨⟨dx,Zb⟩,by rw[Ze n1.symm];exact h.rows,by rw[Ze n2.symm];exact h.stays,fun e he t ht=>?_,fun e he=>?_,h.up,h.pd,h.few,h.sfew⟩
 ·have:=h.ats e he t ht
  rw[Ze (fun z=>by rw[z,hd]at this;cases this)];exact this
 ·obtain⟨a,b,c⟩:=h.ne_p he
  exact(h.each e he).keep (Ze a.symm) (Ze b.symm) (Ze c.symm)
theorem Zaa.put(h:Zaa cR cM H m rd sd L s nb li lo best){k:Int×Int}{v:Option (Addr×Int×Int)}(hv:∀t,v=some t→H t.1=some (.tup [.int t.2.1,.int t.2.2]))(hs:(ZcQ s k v).length≤100):Zaa cR cM (upd H sd (.dT (kvS (ZcQ s k v)))) m rd sd L (ZcQ s k v) nb li lo best:=by
 obtain⟨n1,n2,n3⟩:=h.ne_m
 obtain⟨dy,hd⟩:=h.ob
 have tup:∀a xs,H a=some (.tup xs)→(upd H sd (.dT (kvS (ZcQ s k v)))) a=some (.tup xs):=fun a xs ha=>by rw[Ze (fun z=>by rw[z,h.stays]at ha;cases ha)];exact ha
 refine⟨⟨dy,by rw[Ze n2];exact hd⟩,by rw[Ze n3];exact h.rows,Zb,(h.ats.put hv).mono tup,fun e he=>?_,h.up,h.pd,h.few,hs⟩
 obtain⟨a,b,c,_⟩:=h.ne_sd he
 exact(h.each e he).keep (Ze a.symm) (Ze b.symm) (Ze c.symm)
end
noncomputable def Zks(cR cM:Addr):Sp:=fun vs H Q _=>∃ (m rd sd:Addr) (L:List ZK) (s:StL) (nb li lo:Int) (best:V) (a b:ZK) (x y:Str) (far:Nat),vs=[.ref m,.int a.n,.int b.n,.int (far:Int)]∧Zaa cR cM H m rd sd L s nb li lo best∧a∈L∧b∈L∧a.ss[a.g]? = some x∧b.ss[b.g]? = some y∧far≤lcp (cds x) (cds y) ∧
 ∀ (t:Addr) (wi lz:Int) (H':Hp),(Btr (cds x) a.n (cds y) b.n∧wi=a.n∧lz=b.n∨¬ Btr (cds x) a.n (cds y) b.n∧wi=b.n∧lz=a.n)→H t=none→H' t=some (.tup [.int wi,.int lz,.int ((lcp (cds x) (cds y):Nat):Int)]) →
  Zaa cR cM H' m rd sd L s nb (li+1) (lo+((lcp (cds x) (cds y):Nat)-(far:Int)+1)) best→(∀b o,H b=some o→b≠m→H' b=some o)→Q (.ref t) H'
theorem ZeN{ss:List Str}{g:Nat}{x:Str}(h:ss[g]? = some x):ZeX ss g=.str x:=by unfold ZeX;rw[h]
theorem Zb4(k f:Addr)(g:Int):(ZcW k f g).lookup ("head" : Str)=none:=ZkX _ _ _ (by ac_rfl) (by ac_rfl) (by ac_rfl)
theorem ZpR(T:Zaf K mg cRow cMerge)(f_Row_head:Mf P w K mg base 2 cRow "head" ["self"] (Zgf cRow))(f_liken_from:Df P w K mg base 2 "liken_from" ["one", "other", "far"] ZdG):Mf P w K mg base 3 cMerge "meet" ["self", "one", "other", "far"] (Zks cRow cMerge):=by
 refine T.t_Merge_meet.mf ZbX (fun vs H Q E h=>?_) (fun cdv f A outer s H vs Q E hr h=>?_)
 ·obtain⟨m,rd,sd,L,s,nb,li,lo,best,a,b,x,y,far,rfl,_⟩:=h
  rfl
 obtain⟨m,rd,sd,L,s,nb,li,lo,best,a,b,x,y,far,rfl,M,ha,hb,hx,hy,hf,q⟩:=h
 refine⟨_,#[Zg,#[ZaZ,#[ZB,f_liken_from,hr,#[Za,#[Zde,f_Row_head,T.cl_Row,hr,#[Zz,(ixG hr),#[Zad,‹0›],‹1›]],#[Za,#[Zde,f_Row_head,T.cl_Row,hr,#[Zz,(ixG hr),#[Zad,‹0›],‹2›]],#[Za,‹3›,#[Zc]]]],(by rfl)],#[gT,K,3,#[Zv,#[ZA,4,ZbX.nd],#[Zv,#[ZA,5,ZbX.nd],#[Zv,#[ZA,6,ZbX.nd],(@ZaE _)]]]]],#[Zg,(@Zd5 _ _ _ _ _ _ _ _ _ _ ‹0› #[Zi] ZiF),#[Zg,(@Zd5 _ _ _ _ _ _ _ _ _ _ ‹0› ‹6› ZiF),#[Zg,#[ZZ,(@PW.pt _ _ _ #[Zf2,#[Zn,Zdq,‹4›,#[Zi],(Zs _)],(@Zfl _ _ _ _ (@PW.pt _ _ _ #[ZeA,#[Zn,Zbf,‹4›,#[Zi],(Zs _)],(@Zeb _ _ _ _ #[Zn,Zdq,‹1›,‹2›,(Zs _)])]))]),#[Zj,#[Zm,#[ZT,#[Za,‹1›,#[Za,‹2›,#[Za,‹5›,#[Zc]]]]]]],#[ZD]],#[Zj,#[Zm,#[ZT,#[Za,‹2›,#[Za,‹1›,#[Za,‹5›,#[Zc]]]]]]]]]]],?_⟩
 obtain⟨dx,hm⟩:=M.ob
 have Ra:=M.each a ha
 have Rb:=M.each b hb
 obtain⟨da,hpa⟩:=Ra.at'.ob
 obtain⟨db,hpb⟩:=Rb.at'.ob
 have lx:=(Ra.str x (Qo hx)).1
 have ly:=(Rb.str y (Qo hy)).1
 refine⟨_,rfl,xw5 m cMerge dx _ _ ⟨rfl,hm,T.cl_Merge,T.na_Merge_rows,ZbZ ..,_,rfl,rd,_,rfl,Zdv.k' (k:=.inl a.n) M.rows (Zgr M.nd ha),a.p,da,_,rfl,hpa,Zb4 ..,xw5 a.p a.k a.f a.ss a.g ⟨rfl,Ra.at',?_⟩⟩⟩
 refine⟨_,rfl,xw5 m cMerge dx _ _ ⟨rfl,hm,T.cl_Merge,T.na_Merge_rows,ZbZ ..,_,rfl,rd,_,rfl,Zdv.k' (k:=.inl b.n) M.rows (Zgr M.nd hb),b.p,db,_,rfl,hpb,Zb4 ..,xw5 b.p b.k b.f b.ss b.g ⟨rfl,Rb.at',?_⟩⟩⟩
 rw[ZeN hx,ZeN hy]
 refine⟨_,rfl,x,y,far,rfl,lx,ly,hf,fun t ht=>?_⟩
 have s1:=Zh ht (.tup [.int (ZJ (cds x) (cds y)),.int (lcp (cds x) (cds y):Nat),.int ((lcp (cds x) (cds y):Nat)-(far:Int)+1)])
 have ht1:(upd H t (.tup [.int (ZJ (cds x) (cds y)),.int (lcp (cds x) (cds y):Nat),.int ((lcp (cds x) (cds y):Nat)-(far:Int)+1)])) t=some (.tup [.int (ZJ (cds x) (cds y)),.int (lcp (cds x) (cds y):Nat),.int ((lcp (cds x) (cds y):Nat)-(far:Int)+1)]):=Zb
 generalize upd H t (.tup [.int (ZJ (cds x) (cds y)),.int (lcp (cds x) (cds y):Nat),.int ((lcp (cds x) (cds y):Nat)-(far:Int)+1)])=H1 at s1 ht1 ⊢
 have M1:=M.same s1
 refine⟨t,_,rfl,SqT.of ht1,rfl,_,_,rfl,_,_,rfl,_,_,rfl,rfl,?_⟩
 have hm1:=s1 _ _ hm
 refine⟨_,rfl,xw5 m cMerge dx _ _ ⟨rfl,hm1,T.cl_Merge,T.na_Merge_likened,ZfD ..,_,_,rfl,rfl,dx,_,hm1,Zcz ..,?_⟩⟩
 rw[Zdr]
 have M2:=M1.obj (nb':=nb) (li':=li+1) (lo':=lo) (best':=best) (dx:=dx)
 have k2:∀b o,H b=some o→b≠m→(upd H1 m (.ins cMerge dx (mgF rd nb (li+1) lo sd best))) b=some o:=fun b o hb n=>by rw[Ze n];exact s1 b o hb
 have hm2:(upd H1 m (.ins cMerge dx (mgF rd nb (li+1) lo sd best))) m=some (.ins cMerge dx (mgF rd nb (li+1) lo sd best)):=Zb
 generalize upd H1 m (.ins cMerge dx (mgF rd nb (li+1) lo sd best))=H2 at M2 k2 hm2 ⊢
 refine⟨_,rfl,xw5 m cMerge dx _ _ ⟨rfl,hm2,T.cl_Merge,T.na_Merge_looked,Zki ..,_,rfl,_,_,rfl,rfl,dx,_,hm2,Zcz ..,?_⟩⟩
 rw[Zgy]
 have M3:=M2.obj (nb':=nb) (li':=li+1) (lo':=lo+((lcp (cds x) (cds y):Nat)-(far:Int)+1)) (best':=best) (dx:=dx)
 have k3:∀b o,H b=some o→b≠m→(upd H2 m (.ins cMerge dx (mgF rd nb (li+1) (lo+((lcp (cds x) (cds y):Nat)-(far:Int)+1)) sd best))) b=some o:=fun b o hb n=>by rw[Ze n];exact k2 b o hb n
 generalize upd H2 m (.ins cMerge dx (mgF rd nb (li+1) (lo+((lcp (cds x) (cds y):Nat)-(far:Int)+1)) sd best))=H3 at M3 k3 ⊢
 have fin:∀wi lz:Int,(Btr (cds x) a.n (cds y) b.n∧wi=a.n∧lz=b.n∨¬ Btr (cds x) a.n (cds y) b.n∧wi=b.n∧lz=a.n)→∀t2,H3 t2=none→Q (.ref t2) (upd H3 t2 (.tup [.int wi,.int lz,.int ((lcp (cds x) (cds y):Nat):Int)])):=fun wi lz hw t2 ht2=>by
  have hfree:H t2=none:=by
   cases e:H t2 with
   | none=>rfl
   | some o =>
    by_cases z:t2=m
    ·obtain⟨dz,hz⟩:=M3.ob;rw[z,hz]at ht2;cases ht2
    ·rw[k3 t2 o e z]at ht2;cases ht2
  exact q t2 wi lz _ hw hfree Zb (M3.same (Zh ht2 _)) (fun b o hb n=>Zh ht2 _ _ _ (k3 b o hb n))
 have sz3:3≤sizeLine:=by decide
 refine⟨_,rfl,_,_,rfl,rfl,_,rfl,ZaX (fun d=>?_) (fun d=>?_)⟩
 ·have d':ZJ (cds x) (cds y)<0:=of_decide_eq_true d
  exact ZgW ⟨_,rfl,_,rfl,_,rfl,sz3,fun t2 ht2=>fin _ _ (.inl ⟨.inl d',rfl,rfl⟩) t2 ht2⟩
 have d1:¬ ZJ (cds x) (cds y)<0:=fun z=>d (decide_eq_true z)
 refine⟨_,rfl,rfl,_,rfl,ZaX (fun e=>?_) (fun e=>?_)⟩
 ·have e':ZJ (cds x) (cds y)=0:=by have:=of_decide_eq_true e;injection this
  refine⟨_,rfl,_,rfl,_,_,rfl,rfl,_,rfl,ZaX (fun g=>?_) (fun g=>?_)⟩
  ·have g':a.n<b.n:=of_decide_eq_true g
   exact⟨_,rfl,_,rfl,_,rfl,sz3,fun t2 ht2=>fin _ _ (.inl ⟨.inr ⟨e',g'⟩,rfl,rfl⟩) t2 ht2⟩
  ·have g':¬ a.n<b.n:=fun z=>g (decide_eq_true z)
   exact⟨_,rfl,_,rfl,_,rfl,sz3,fun t2 ht2=>fin _ _ (.inr ⟨fun z=>by rcases z with z|z;exact d1 z;exact g' z.2,rfl,rfl⟩) t2 ht2⟩
 ·have e':ZJ (cds x) (cds y)≠0:=fun z=>e (decide_eq_true (by rw[z]))
  exact Zcl ⟨_,rfl,_,rfl,_,rfl,sz3,fun t2 ht2=>fin _ _ (.inr ⟨fun z=>by rcases z with z|z;exact d1 z;exact e' z.1,rfl,rfl⟩) t2 ht2⟩
theorem Zaa.cast{cR cM:Addr}{H:Hp}{m rd sd:Addr}{L:List ZK}{s:StL}{nb li lo li' lo':Int}{best:V}(h:Zaa cR cM H m rd sd L s nb li lo best)(e1:li=li')(e2:lo=lo'):Zaa cR cM H m rd sd L s nb li' lo' best:=by subst e1;subst e2;exact h
theorem Zjy{N:List Int}(h:N≠[]):atI (N.map V.int) (-1)=some (.int (N.getLastD 0)):=by
 have e:N=N.dropLast++[N.getLast h]:=(List.dropLast_concat_getLast h).symm
 have:=Zoo (N.dropLast.map V.int) (V.int (N.getLast h))
 rw[Qam,QaM h]
 conv=>lhs;rw[e,Qf]
 exact this
theorem Zjk{N:List Int}(h:N≠[]):atI (N.map V.int) 0=some (.int (N.headD 0)):=by
 cases N with
 | nil=>exact absurd rfl h
 | cons a r=>exact ZX (j:=0) rfl
theorem Zew(rd:Addr)(nb li lo:Int)(sd:Addr)(best:V):(mgF rd nb li lo sd best).lookup ("play" : Str)=none:=Zdj _ _ _ _ _ _ (by ac_rfl) (by ac_rfl) (by ac_rfl) (by ac_rfl) (by ac_rfl) (by ac_rfl)
theorem Zgz(rd:Addr)(nb li lo:Int)(sd:Addr)(best:V):(mgF rd nb li lo sd best).lookup ("meet" : Str)=none:=Zdj _ _ _ _ _ _ (by ac_rfl) (by ac_rfl) (by ac_rfl) (by ac_rfl) (by ac_rfl) (by ac_rfl)
noncomputable def ZnI(K:PySem.W.Frag)(cR cM:Addr)(n:Nat):Sp:=fun vs H Q _=>∃ (m rd sd:Addr) (L:List ZK) (s:StL) (nb li lo:Int) (best:V) (l:Addr) (N:List Int),vs=[.ref m,.ref l]∧Zaa cR cM H m rd sd L s nb li lo best∧H l=some (.lst (N.map V.int))∧1≤N.length∧N.length≤60∧0<n∧N.length≤2 ^ (n-1)∧(∀x∈N,x∈ZI L)∧Zam N∧(∀k,ZeV n N k→ZU s k=none)∧s.length+N.length≤100 ∧
 ∀ (w:Option Int) (s':StL) (k q:Int) (H':Hp),Win (hdM L) N w→Zfq (hdM L) s' n N→ZfX (hdM L) n N k q→(∀j,¬ ZeV n N j→ZU s' j=ZU s j)→s'.length+1≤s.length+N.length→Zaa cR cM H' m rd sd L s' nb (li+k) (lo+q) best→(∀b o,H b=some o→b≠m→b≠sd→H' b=some o)→Q (Zff w) H'
theorem Zlq(T:Zaf K mg cRow cMerge)(f_Row_head:Mf P w K mg base 2 cRow "head" ["self"] (Zgf cRow))(f_halves:Df P w K mg base 1 "halves" ["numbers"] (ZeF K true))(f_Merge_meet:Mf P w K mg base 3 cMerge "meet" ["self", "one", "other", "far"] (Zks cRow cMerge)) :
  ∀n:Nat,Mf P w K mg base (n+4) cMerge "play" ["self", "numbers"] (ZnI K cRow cMerge n)
 | 0=>by
  refine T.t_Merge_play.mf Zab (fun vs H Q E h=>?_) (fun cdv f A outer s H vs Q E hr h=>?_)
  ·obtain⟨m,rd,sd,L,s,nb,li,lo,best,l,N,rfl,_⟩:=h
   rfl
  obtain⟨m,rd,sd,L,s,nb,li,lo,best,l,N,rfl,_,_,_,_,z,_⟩:=h
  exact absurd z (by omega)
 | n+1=>by
  have f_Merge_play:=Zlq T f_Row_head f_halves f_Merge_meet n
  refine T.t_Merge_play.mf Zab (fun vs H Q E h=>?_) (fun cdv f A outer s H vs Q E hr h=>?_)
  ·obtain⟨m,rd,sd,L,s,nb,li,lo,best,l,N,rfl,_⟩:=h
   rfl
  obtain⟨m,rd,sd,L,s,nb,li,lo',best,l,N,rfl,M,hl,h1,h60,_,hp2,hmem,hup,hfree,hsz,q⟩:=h
  rw[Qax]at hp2
  refine⟨_,#[Zg,#[ZZ,#[Zn,Zbf,#[Zk,(ZaR K),(by rfl),T.b.n_len,Qq,#[Za,‹1›,#[Zc]]],#[Zi],(Zs _)],#[Zj,#[Zm,#[Zbq,#[Zn,ZdK,#[Zde,f_Row_head,T.cl_Row,hr,#[Zz,(ixG hr),#[Zad,‹0›],#[Zz,(ixL K),‹1›,#[Zi]]]],#[ZaQ],(Zs _)],#[ZaQ],#[Zz,(ixL K),‹1›,#[Zi]]]]],#[ZD]],#[Zg,#[ZaZ,#[ZB,f_halves,hr,#[Za,‹1›,#[Zc]],(by rfl)],#[gT,K,2,#[Zv,#[ZA,2,Zab.nd],#[Zv,#[ZA,3,Zab.nd],(@ZaE _)]]]],#[Zg,#[Zy,4,Zab.nd,(Or.inl rfl),#[ZfB,f_Merge_play,T.cl_Merge,hr,‹0›,#[Za,‹2›,#[Zc]]]],#[Zg,#[Zy,5,Zab.nd,(Or.inl rfl),#[ZfB,f_Merge_play,T.cl_Merge,hr,‹0›,#[Za,‹3›,#[Zc]]]],#[Zg,#[ZZ,#[Zn,ZdK,‹4›,#[ZaQ],(Zs _)],#[Zj,#[Zm,‹5›]],#[ZD]],#[Zg,#[ZZ,#[Zn,ZdK,‹5›,#[ZaQ],(Zs _)],#[Zj,#[Zm,‹4›]],#[ZD]],#[Zg,#[ZaZ,#[ZfB,f_Merge_meet,T.cl_Merge,hr,‹0›,#[Za,‹4›,#[Za,‹5›,#[Za,#[Zi],#[Zc]]]]],#[gT,K,3,#[Zv,#[ZA,6,Zab.nd],#[Zv,#[ZA,7,Zab.nd],#[Zv,#[ZA,8,Zab.nd],(@ZaE _)]]]]],#[Zg,#[ZaZ,#[ZT,#[Za,‹7›,#[Za,‹8›,#[Zc]]]],#[ZdC,#[Zad,‹0›],#[ZT,#[Za,#[Zz,(ixL K),‹1›,#[Zi]],#[Za,#[Zz,(ixL K),‹1›,(@ZhS _ _ _ _ _ _ Ze2 #[Zi])],#[Zc]]]],(Zou hr)]],#[Zj,#[Zm,‹6›]]]]]]]]]],?_⟩
  obtain⟨dx,hm⟩:=M.ob
  have hN:N≠[]:=Z7 h1
  have nml:l≠m:=fun z=>by rw[z,hm]at hl;cases hl
  have nsl:l≠sd:=fun z=>by rw[z,M.stays]at hl;cases hl
  have hll:(((N.map V.int).length:Nat):Int)=(N.length:Int):=by rw[Qa]
  refine⟨_,rfl,l,_,rfl,.inl (SqL.of hl),rfl,_,rfl,ZaX (fun d=>?_) (fun d=>?_)⟩
  ·have hone:N.length=1:=by have:=of_decide_eq_true d;injection this with this;rw[hll]at this;omega
   obtain⟨n0,rfl⟩:∃n0,N=[n0]:=QaS.mp hone
   obtain⟨e,he,rfl⟩:=Zdz (hmem n0 (by simp))
   have R:=M.each e he
   obtain⟨dp,hp⟩:=R.at'.ob
   have hat:atI (([e.n]:List Int).map V.int) 0=some (.int e.n):=ZX (j:=0) rfl
   refine⟨_,rfl,xw5 m cMerge dx _ _ ⟨rfl,hm,T.cl_Merge,T.na_Merge_rows,ZbZ ..,_,rfl,xw4 l _ _ _ ⟨rfl,rfl,SqL.of hl,hat,rd,_,rfl,Zdv.k' (k:=.inl e.n) M.rows (Zgr M.nd he),e.p,dp,_,rfl,hp,Zb4 ..,xw5 e.p e.k e.f e.ss e.g ⟨rfl,R.at',rfl,_,rfl,?_⟩⟩⟩⟩
   have hst:Zfq (hdM L) s (n+1) [e.n]:=fun h2=>by simp at h2
   have hpl:ZfX (hdM L) (n+1) [e.n] 0 0:=.few (by show 1<2;decide)
   have hwin:=Win.sing (hd:=hdM L) (n:=e.n)
   have hd:=Zev M.nd he
   have M':=M.cast (li':=li+0) (lo':=lo'+0) (by omega) (by omega)
   cases hx:e.ss[e.g]? with
   | none =>
    rw[show ZeX e.ss e.g=.non by unfold ZeX;rw[hx]]
    rw[hd,hx]at hwin
    exact ZgV rfl (q none s 0 0 H hwin hst hpl (fun _ _=>rfl) (Qg _) M' (fun b o h _ _=>h))
   | some x =>
    rw[ZeN hx]
    rw[hd,hx]at hwin
    exact Zds (fun z=>nomatch z) ⟨_,rfl,xw4 l _ _ _ ⟨rfl,rfl,SqL.of hl,hat,q (some e.n) s 0 0 H hwin hst hpl (fun _ _=>rfl) (Qg _) M' (fun b o h _ _=>h)⟩⟩
  have hge:2≤N.length:=by
   have:¬ ((N.length:Int)=1):=fun z=>d (decide_eq_true (by rw[hll,z]))
   clear d nsl nml hN q hsz hfree hmem hp2 hll h60;omega
  have hn1:1≤n:=by
   cases n with
   | zero=>simp at hp2;omega
   | succ m=>omega
  have hpow:2 ^ n=2*2 ^ (n-1):=by
   obtain⟨m,rfl⟩:∃m,n=m+1:=⟨n-1,by omega⟩
   rw[Nat.pow_succ,Qax];omega
  have hlo:(lo N).length≤2 ^ (n-1)∧(lo N).length≤60:=by unfold lo mid;rw[Qx];clear hn1 d nsl nml hN q hsz hfree hmem hge hll h1;omega
  have hupl:(up N).length≤2 ^ (n-1)∧(up N).length≤60:=by unfold up mid;rw[QR];clear hlo hn1 d nsl nml hN q hsz hfree hmem hge hll h1;omega
  have hsum:(lo N).length+(up N).length=N.length:=by rw[← Qe,Zcr]
  have hmlo:∀x∈lo N,x∈ZI L:=fun x hx=>hmem x (Qaq hx)
  have hmup:∀x∈up N,x∈ZI L:=fun x hx=>hmem x (Qar hx)
  refine⟨_,rfl,l,N,rfl,SqL.of hl,by clear hmup hmlo hupl hlo hpow hn1 d nsl nml hN q hsz hfree hmem hp2 hsum hge hll h1;omega,fun t f r H2 ht hf hr' nfr ht2 hf2 hr2 s2 ntf ntr=>?_⟩
  rw[if_pos rfl]at ht2
  rw[ZrR]at hf2
  rw[Zro]at hr2
  refine⟨t,_,rfl,SqT.of ht2,rfl,_,_,rfl,_,_,rfl,rfl,?_⟩
  have M2:=M.same s2
  have hm2:=s2 _ _ hm
  have nfm:r≠m:=(Zd hm hr').symm
  have nfs:r≠sd:=(Zd M.stays hr').symm
  refine⟨_,rfl,m,dx,_,rfl,hm2,Zew ..,_,rfl,m,rd,sd,L,s,nb,li,lo',best,f,lo N,rfl,M2,hf2,(ZdR hge).2,hlo.2,hn1,hlo.1,hmlo,Zd8 hup,fun k hk=>hfree k ⟨hge,.inl hk⟩,by omega,fun w1 s1 k1 q1 H3 W1 S1 P1 o1 l1 M3 b3=>?_⟩
  have hr3:=b3 _ _ hr2 nfm nfs
  obtain⟨dx3,hm3⟩:=M3.ob
  refine⟨_,rfl,m,dx3,_,rfl,hm3,Zew ..,_,rfl,m,rd,sd,L,s1,nb,_,_,best,r,up N,rfl,M3,hr3,(ZeD hge).2,hupl.2,hn1,hupl.1,hmup,Zee hup,fun k hk=>?_,by omega,fun w2 s2' k2 q2 H4 W2 S2 P2 o2 l2 M4 b4=>?_⟩
  ·rw[o1 k ((Zis hup hge hk).2 n)]
   exact hfree k ⟨hge,.inr (.inl hk)⟩
  have key_n:¬ ZeV n (lo N) (ZQ N)∧¬ ZeV n (up N) (ZQ N):=⟨fun z=>(Ziy hup hge z).1 rfl,fun z=>(Zis hup hge z).1 rfl⟩
  have S1':Zfq (hdM L) s2' n (lo N):=S1.congr n _ (fun _ _=>rfl) (fun k hk=>o2 k ((Ziy hup hge hk).2 n))
  have hk2:ZU s2' (ZQ N)=none:=by rw[o2 _ key_n.2,o1 _ key_n.1];exact hfree _ ⟨hge,.inr (.inr rfl)⟩
  have oth:∀j,¬ ZeV (n+1) N j→ZU s2' j=ZU s j:=fun j hj=>by
   rw[o2 j (fun z=>hj ⟨hge,.inr (.inl z)⟩),o1 j (fun z=>hj ⟨hge,.inl z⟩)]
  have b04:∀b o,H b=some o→b≠m→b≠sd→H4 b=some o:=fun b o hb n1 n2=>b4 b o (b3 b o (s2 b o hb) n1 n2) n1 n2
  have none':∀wn,Win (hdM L) N wn→(Win (hdM L) (lo N) none∨Win (hdM L) (up N) none)→Q (Zff wn) H4:=fun wn hw hno=>by
   refine q wn s2' (k1+k2) (q1+q2) H4 hw (fun _=>⟨S1',S2,fun a b x y wa wb _ _=>?_,fun _=>.inl hk2⟩) (.none hge P1 P2 hno) oth (by omega) (M4.cast (by omega) (by omega)) b04
   rcases hno with z|z
   ·exact nomatch z.one wa
   ·exact nomatch z.one wb
  cases w1 with
  | none=>exact⟨_,rfl,rfl,_,rfl,ZgV rfl ⟨_,rfl,none' w2 (by have:=Win.right W1 W2;rwa [Zcr]at this) (.inl W1)⟩⟩
  | some a =>
  refine⟨_,rfl,rfl,_,rfl,Zds (fun z=>nomatch z) ?_⟩
  cases w2 with
  | none=>exact⟨_,rfl,rfl,_,rfl,ZgV rfl ⟨_,rfl,none' (some a) (by have:=Win.left W1 W2;rwa [Zcr]at this) (.inr W2)⟩⟩
  | some b =>
  refine⟨_,rfl,rfl,_,rfl,Zds (fun z=>nomatch z) ?_⟩
  obtain⟨ea,hea,ea'⟩:=Zdz (hmlo a W1.1)
  obtain⟨eb,heb,eb'⟩:=Zdz (hmup b W2.1)
  subst ea'
  subst eb'
  have hda:=Zev M.nd hea
  have hdb:=Zev M.nd heb
  cases hx:ea.ss[ea.g]? with
  | none=>obtain⟨_,z,hz,_⟩:=W1;rw[hda,hx]at hz;cases hz
  | some x =>
  cases hy:eb.ss[eb.g]? with
  | none=>obtain⟨_,z,hz,_⟩:=W2;rw[hdb,hy]at hz;cases hz
  | some y =>
  rw[hx]at hda
  rw[hy]at hdb
  obtain⟨dx4,hm4⟩:=M4.ob
  refine⟨_,rfl,m,dx4,_,rfl,hm4,Zgz ..,_,rfl,_,rfl,m,rd,sd,L,s2',nb,_,_,best,ea,eb,x,y,0,rfl,M4,hea,heb,hx,hy,Qv _,fun t5 wi lz H5 hw ht5 ht5' M5 b5=>?_⟩
  refine⟨t5,_,rfl,SqT.of ht5',rfl,_,_,rfl,_,_,rfl,_,_,rfl,rfl,?_⟩
  have sz2:2≤sizeLine:=by decide
  refine⟨_,rfl,_,rfl,sz2,fun t6 ht6=>?_⟩
  have s6:=Zh ht6 (.tup [.int lz,.int ((lcp (cds x) (cds y):Nat):Int)])
  have ht66:(upd H5 t6 (.tup [.int lz,.int ((lcp (cds x) (cds y):Nat):Int)])) t6=some (.tup [.int lz,.int ((lcp (cds x) (cds y):Nat):Int)]):=Zb
  have M6:=M5.same s6
  generalize upd H5 t6 (.tup [.int lz,.int ((lcp (cds x) (cds y):Nat):Int)])=H6 at s6 ht66 M6 ⊢
  obtain⟨dx6,hm6⟩:=M6.ob
  have hl6:H6 l=some (.lst (N.map V.int)):=s6 _ _ (b5 _ _ (b04 _ _ hl nml nsl) nml)
  refine⟨_,rfl,xw5 m cMerge dx6 _ _ ⟨rfl,hm6,T.cl_Merge,T.na_Merge_stays,ZcN ..,_,rfl,xw4 l _ _ _ ⟨rfl,rfl,SqL.of hl6,Zjk hN,_,rfl,_,rfl,xw4 l _ _ _ ⟨rfl,rfl,SqL.of hl6,Zjy hN,sz2,fun t7 ht7=>?_⟩⟩⟩⟩
  have s7:=Zh ht7 (.tup [.int (N.headD 0),.int (N.getLastD 0)])
  have ht77:(upd H6 t7 (.tup [.int (N.headD 0),.int (N.getLastD 0)])) t7=some (.tup ([.inl (ZQ N).1,.inl (ZQ N).2].map kV)):=Zb
  have M7:=M6.same s7
  generalize upd H6 t7 (.tup [.int (N.headD 0),.int (N.getLastD 0)])=H7 at s7 ht77 M7 ⊢
  have hsl:(kvS s2').length<sizeLine:=by unfold kvS;rw[Qa];exact ZH (by omega)
  refine⟨sd,_,rfl,ZgD.t (k:=[.inl (ZQ N).1,.inl (ZQ N).2]) M7.stays ht77 hsl,?_⟩
  rw[show V.ref t6=stV (some (t6,lz,((lcp (cds x) (cds y):Nat):Int))) from rfl,ZfL]
  have hpl:=ZmO s2' (ZQ N) (some (t6,lz,((lcp (cds x) (cds y):Nat):Int)))
  have l1':=(ZdR hge).2
  have M8:=M7.put (k:=ZQ N) (v:=some (t6,lz,((lcp (cds x) (cds y):Nat):Int))) (fun t ht=>by injection ht with ht;rw[← ht];exact s7 _ _ ht66) (by omega)
  have hne:ea.n≠eb.n:=fun z=>by have:=ZL hup W1.1 W2.1;omega
  have b08:∀b o,H b=some o→b≠m→b≠sd→(upd H7 sd (.dT (kvS (ZcQ s2' (ZQ N) (some (t6,lz,((lcp (cds x) (cds y):Nat):Int))))))) b=some o:=fun b o hb n1 n2=>by
   rw[Ze n2];exact s7 _ _ (s6 _ _ (b5 _ _ (b04 _ _ hb n1 n2) n1))
  have hwin:Win (hdM L) N (some wi):=by
   rcases hw with⟨w0,rfl,_⟩|⟨w0,rfl,_⟩
   ·have:=Win.both W1 W2 hda hdb w0;rwa [Zcr]at this
   ·have:=Win.both' W1 W2 hda hdb ((Btr.total hne).resolve_left w0);rwa [Zcr]at this
  have hlz:lz=if ZJ (cds x) (cds y)<0∨(ZJ (cds x) (cds y)=0∧ea.n<eb.n) then eb.n else ea.n:=by
   rcases hw with⟨w0,_,rfl⟩|⟨w0,_,rfl⟩
   ·exact(if_pos (show ZJ (cds x) (cds y)<0∨(ZJ (cds x) (cds y)=0∧ea.n<eb.n) from w0)).symm
   ·exact(if_neg (show ¬ (ZJ (cds x) (cds y)<0∨(ZJ (cds x) (cds y)=0∧ea.n<eb.n)) from w0)).symm
  refine⟨_,rfl,q (some wi) _ (k1+k2+1) (q1+q2+(lcp (cds x) (cds y):Nat)+1) _ hwin (fun _=>⟨?_,?_,?_,fun hno=>?_⟩) (.both hge P1 P2 W1 W2 hda hdb) (fun j hj=>?_) (by omega) (M8.cast (by omega) (by omega)) b08⟩
  ·exact S1'.congr n _ (fun _ _=>rfl) (fun k hk=>by rw[Za2,if_neg (Ziy hup hge hk).1])
  ·exact S2.congr n _ (fun _ _=>rfl) (fun k hk=>by rw[Za2,if_neg (Zis hup hge hk).1])
  ·intro a' b' x' y' wa wb hxa hyb
   have e1:=Qr (wa.one W1)
   have e2:=Qr (wb.one W2)
   subst e1
   subst e2
   have e3:=Qr (hxa.symm.trans hda)
   have e4:=Qr (hyb.symm.trans hdb)
   subst e3
   subst e4
   exact⟨t6,by rw[Za2,if_pos rfl,hlz]⟩
  ·rcases hno with z|z
   ·exact nomatch z.one W1
   ·exact nomatch z.one W2
  ·rw[Za2,if_neg (fun z=>hj ⟨hge,.inr (.inr z)⟩)]
   exact oth j hj
theorem ZeZ.mono{C:Addr}{H H':Hp}{e:ZK}(h:ZeZ C H e)(k:∀b o,H b=some o→b=e.p∨b=e.k∨b=e.f→H' b=some o):ZeZ C H' e:=by
 obtain⟨dx,hd⟩:=h.at'.ob
 exact⟨⟨⟨dx,k _ _ hd (.inl rfl)⟩,k _ _ h.at'.ks (.inr (.inl rfl)),k _ _ h.at'.fs (.inr (.inr rfl))⟩,h.le,h.len,h.srt,h.str⟩
theorem ZmN(L:List ZK):(kvM L).map (fun kv=>kV kv.1)=(ZI L).map V.int:=by unfold kvM ZI;rw[QB,QB];rfl
theorem ZnT{n:Nat}{N:List Int}{k:Int×Int}(_:ZeV n N k):ZU [] k=none:=rfl
noncomputable def ZhM(cR cM:Addr):Sp:=fun vs H Q _=>∃ (m rd sd:Addr) (L:List ZK) (s:StL) (nb li lo:Int) (best:V),vs=[.ref m]∧Zaa cR cM H m rd sd L s nb li lo best ∧
 ∀ (sd':Addr) (s':StL) (w:Option Int) (k q:Int) (H':Hp),H sd'=none→Win (hdM L) (ZI L) w→Zfq (hdM L) s' 8 (ZI L)→ZfX (hdM L) 8 (ZI L) k q→Zaa cR cM H' m rd sd' L s' nb (li+k) (lo+q) (Zff w)→(∀b o,H b=some o→b≠m→H' b=some o)→Q .non H'
theorem ZjH(T:Zaf K mg cRow cMerge)(f_Merge_play:Mf P w K mg base 12 cMerge "play" ["self", "numbers"] (ZnI K cRow cMerge 8)):Mf P w K mg base 13 cMerge "play_all" ["self"] (ZhM cRow cMerge):=by
 refine T.t_Merge_play_all.mf ZeT (fun vs H Q E h=>?_) (fun cdv f A outer s H vs Q E hr h=>?_)
 ·obtain⟨m,rd,sd,L,s,nb,li,lo,best,rfl,_⟩:=h
  rfl
 obtain⟨m,rd,sd,L,s,nb,li,lo',best,rfl,M,q⟩:=h
 refine⟨_,#[Zg,#[Zb6,‹0›,(@Zia _ _)],#[Zj,#[Zb6,‹0›,#[Zbq,#[Zn,ZfE,#[Zk,Ztm,(by rfl),T.b.n_len,Qq,#[Za,#[Zad,‹0›],#[Zc]]],#[Zi],(Zs _)],#[ZfB,f_Merge_play,T.cl_Merge,hr,‹0›,#[Za,#[Z4,ZsD,T.b.n_list,boot_list,#[Za,#[Zad,‹0›],#[Zc]]],#[Zc]]],#[ZaQ]]]]],?_⟩
 refine fun sd' hsd=>?_
 obtain⟨dx,hm⟩:=M.ob
 have s1:=Zh hsd (.dT [])
 have hs1:(upd H sd' (.dT [])) sd'=some (.dT (kvS [])):=Zb
 have M1:=M.same s1
 have hm1:=s1 _ _ hm
 have nms:m≠sd':=Zd hm hsd
 have nrs:rd≠sd':=Zd M.rows hsd
 generalize upd H sd' (.dT [])=H1 at s1 hs1 M1 hm1 ⊢
 refine⟨_,rfl,xw4 m cMerge dx _ ⟨rfl,hm1,T.cl_Merge,T.na_Merge_stays,Zcz ..,?_⟩⟩
 rw[Zg9]
 obtain⟨n1,n2,n3⟩:=M.ne_m
 have M2:Zaa cRow cMerge (upd H1 m (.ins cMerge dx (mgF rd nb li lo' sd' best))) m rd sd' L [] nb li lo' best:=by
  refine⟨⟨dx,Zb⟩,by rw[Ze n1.symm];exact M1.rows,by rw[Ze nms.symm];exact hs1,(fun e he=>by cases he),fun e he=>?_,M.up,M.pd,M.few,by decide⟩
  obtain⟨a,b,c⟩:=M1.ne_p he
  exact(M1.each e he).keep (Ze a.symm) (Ze b.symm) (Ze c.symm)
 have k2:∀b o,H b=some o→b≠m→(upd H1 m (.ins cMerge dx (mgF rd nb li lo' sd' best))) b=some o:=fun b o hb n=>by rw[Ze n];exact s1 b o hb
 generalize upd H1 m (.ins cMerge dx (mgF rd nb li lo' sd' best))=H2 at M2 k2 ⊢
 obtain⟨dx2,hm2⟩:=M2.ob
 have hlen:(((kvM L).length:Nat):Int)=(L.length:Int):=by unfold kvM;rw[Qa]
 have hnl:(ZI L).length=L.length:=by unfold ZI;rw[Qa]
 have hfew:=M.few
 refine⟨_,rfl,xw5 m cMerge dx2 _ _ ⟨rfl,hm2,T.cl_Merge,T.na_Merge_rows,ZbZ ..,rd,_,rfl,M2.rows,_,_,rfl,rfl,_,rfl,ZaX (fun d=>?_) (fun d=>?_)⟩⟩
 ·have hpos:0<L.length:=by have:(0:Int)<(((kvM L).length:Nat):Int):=of_decide_eq_true d;omega
  refine⟨_,rfl,m,dx2,_,rfl,hm2,Zew ..,_,rfl,xw5 m cMerge dx2 _ _ ⟨rfl,hm2,T.cl_Merge,T.na_Merge_rows,ZbZ ..,rd,_,rfl,M2.rows,fun l hl=>?_⟩⟩
  rw[ZmN]
  have s3:=Zh hl (.lst ((ZI L).map V.int))
  have hl3:(upd H2 l (.lst ((ZI L).map V.int))) l=some (.lst ((ZI L).map V.int)):=Zb
  have M3:=M2.same s3
  generalize upd H2 l (.lst ((ZI L).map V.int))=H3 at s3 hl3 M3 ⊢
  refine⟨m,rd,sd',L,[],nb,li,lo',best,l,ZI L,rfl,M3,hl3,by omega,by omega,by decide,QJ (by omega:(ZI L).length≤60) (by decide),fun x hx=>hx,M.up,fun k hk=>ZnT hk,by show 0+_≤_;clear k2 n3 n2 n1 nrs nms q hpos hlen;omega,fun w1 s' k q' H4 W S Pl _ _ M4 b4=>?_⟩
  obtain⟨dx4,hm4⟩:=M4.ob
  refine⟨_,rfl,xw4 m cMerge dx4 _ ⟨rfl,hm4,T.cl_Merge,T.na_Merge_best,Zcz ..,?_⟩⟩
  rw[Zcc]
  exact q sd' s' w1 k q' _ hsd W S Pl M4.obj (fun b o hb n=>by rw[Ze n];exact b4 b o (s3 b o (k2 b o hb n)) n (Zd hb hsd))
 ·have hnil:L=[]:=by
   cases L with
   | nil=>rfl
   | cons e r=>exact absurd (decide_eq_true (show (0:Int)<(((kvM (e::r)).length:Nat):Int) by rw[hlen];simp only[List.length_cons];omega)) d
  subst hnil
  refine⟨_,rfl,xw4 m cMerge dx2 _ ⟨rfl,hm2,T.cl_Merge,T.na_Merge_best,Zcz ..,?_⟩⟩
  rw[Zcc]
  exact q sd' [] none 0 0 _ hsd (Win.nil _) (fun h2=>absurd h2 (by decide)) (.few (by decide)) (M2.obj.cast (by omega) (by omega)) (fun b o hb n=>by rw[Ze n];exact k2 b o hb n)
noncomputable def ZqR(L:List ZK)(rs:List (Addr×List Str)):Prop:=ZI L=Zx 0 rs.length∧L.map (fun e=>(e.ss,e.g))=rs.map fun x=>(x.2,0)
noncomputable def Zfx(cR cM:Addr):Sp:=fun vs H Q _=>∃ (m dx r:Addr) (rs:List (Addr×List Str)),vs=[.ref m,.ref r]∧H m=some (.ins cM dx [])∧Zex H r rs∧(∀x∈rs,sortedS x.2=true) ∧
 ∀ (rd sd:Addr) (L:List ZK) (s:StL) (w:Option Int) (k q:Int) (H':Hp),Zaa cR cM H' m rd sd L s (rs.length:Int) k q (Zff w)→ZqR L rs→Win (hdM L) (ZI L) w→Zfq (hdM L) s 8 (ZI L)→ZfX (hdM L) 8 (ZI L) k q→(∀b,Fp m rd sd L b→b=m∨H b=none)→(∀b o,H b=some o→b≠m→H' b=some o)→Q .non H'
theorem ZgI(rd:Addr)(nb li lo:Int)(sd:Addr)(best:V):(mgF rd nb li lo sd best).lookup ("play_all" : Str)=none:=Zdj _ _ _ _ _ _ (by ac_rfl) (by ac_rfl) (by ac_rfl) (by ac_rfl) (by ac_rfl) (by ac_rfl)
theorem ZpJ{ss:List Str}(h:sortedS ss=true):ZjD ss .non:=by
 refine .inl ⟨rfl,fun i x y hx hy=>?_⟩
 have:=Zh0 h i y x hy hx
 have:=ZaD (cds y) (cds x)
 omega
theorem Zg7(T:Zaf K mg cRow cMerge)(f_refuse_break:Df P w K mg base 5 "refuse_break" ["number", "keys"] (ZgN K))(f_Row_init:Cf P w K mg base 4 cRow "Row" ["self", "keys"] (Zhx cRow))(f_Merge_play_all:Mf P w K mg base 13 cMerge "play_all" ["self"] (ZhM cRow cMerge)):Cf P w K mg base 14 cMerge "Merge" ["self", "rows"] (Zfx cRow cMerge):=by
 refine T.t_Merge_init.cf ZcG (fun vs H Q E h=>?_) (fun cdv f A outer s H vs Q E hr h=>?_)
 ·obtain⟨m,dx,r,rs,rfl,_⟩:=h
  rfl
 obtain⟨m,dx,r,rs,rfl,hm,hrs,hsrt,q⟩:=h
 refine⟨_,#[Zg,#[Zb6,‹0›,(@Zm6 _ _)],#[Zg,#[Zbt,PassesOwn.never,#[iE,K,T.b.n_enumerate,#[Za,‹1›,#[Zc]]],#[gT,K,2,#[Zv,#[ZA,2,ZcG.nd],#[Zv,#[ZA,3,ZcG.nd],(@ZaE _)]]],#[Zg,#[ZaO,#[ZB,f_refuse_break,hr,#[Za,‹2›,#[Za,‹3›,#[Zc]]],(by rfl)]],#[Zj,#[ZaZ,#[Zqr,f_Row_init,hr,#[Za,‹3›,#[Zc]]],#[ZdC,#[Zad,‹0›],‹2›,(Zou hr)]]]]],#[Zg,#[Zb6,‹0›,#[Zk,(ZaR K),(by rfl),T.b.n_len,Qq,#[Za,‹1›,#[Zc]]]],#[Zg,#[Zb6,‹0›,#[Zi]],#[Zg,#[Zb6,‹0›,#[Zi]],#[Zg,#[Zb6,‹0›,(@Zia _ _)],#[Zg,#[Zb6,‹0›,#[ZaQ]],#[Zj,#[ZaO,#[Zde,f_Merge_play_all,T.cl_Merge,hr,‹0›]]]]]]]]]],?_⟩
 refine fun rd hrd=>?_
 have nmr:m≠rd:=Zd hm hrd
 have s1:=Zh hrd (.dK [])
 have hr1:(upd H rd (.dK [])) rd=some (.dK (kvM [])):=Zb
 have hm1:=s1 _ _ hm
 generalize upd H rd (.dK [])=H1 at s1 hr1 hm1 ⊢
 refine⟨_,rfl,xw4 m cMerge dx _ ⟨rfl,hm1,T.cl_Merge,T.na_Merge_rows,(by show 0<1000;decide),?_⟩⟩
 have nrm:r≠m:=fun z=>by have:=hrs.at';rw[z,hm]at this;cases this
 have k2:∀b o,H b=some o→b≠m→(upd H1 m (.ins cMerge dx (Zr "rows" (.ref rd) []))) b=some o:=fun b o hb n=>by rw[Ze n];exact s1 b o hb
 have hm2:(upd H1 m (.ins cMerge dx (Zr "rows" (.ref rd) []))) m=some (.ins cMerge dx (Zr "rows" (.ref rd) [])):=Zb
 have hr2:(upd H1 m (.ins cMerge dx (Zr "rows" (.ref rd) []))) rd=some (.dK (kvM [])):=by rw[Ze nmr.symm];exact hr1
 generalize upd H1 m (.ins cMerge dx (Zr "rows" (.ref rd) []))=H2 at k2 hm2 hr2 ⊢
 have hfew:=hrs.few
 have lkr:(Zr "rows" (.ref rd) []).lookup ("rows" : Str)=some (V.ref rd):=by rw[Zo,if_pos rfl]
 refine⟨_,rfl,r,_,rfl,SqL.of (k2 _ _ hrs.at' nrm),?_⟩
 refine Zgm (K:=K) (a:=r) (xs:=rs.map fun x=>V.ref x.1) (fun i σ H5=>∃ (L:List ZK) (v2 v3:Option V),σ=[some (.ref m),some (.ref r),v2,v3]∧H5 m=some (.ins cMerge dx (Zr "rows" (.ref rd) []))∧H5 rd=some (.dK (kvM L))∧(∀e∈L,ZeZ cRow H5 e)∧ZqR L (rs.take i)∧(L.map (·.p)).Nodup∧(∀e∈L,H e.p=none∧H e.k=none∧H e.f=none)∧(∀b o,H b=some o→b≠m→H5 b=some o)) ⟨[],_,_,rfl,hm2,hr2,(fun e h=>by cases h),⟨rfl,rfl⟩,List.nodup_nil,(fun e h=>by cases h),k2⟩ (fun i σ H5 hq=>by obtain⟨_,_,_,_,_,_,_,_,_,_,k5⟩:=hq;exact SqL.of (k5 _ _ hrs.at' nrm)) ?_ ?_
 ·rintro i y σ H5 p hy ⟨L,v2,v3,rfl,hm5,hr5,each,⟨n1,n2⟩,pd,hfr,k5⟩ hp
  rw[Qi]at hy
  cases hz:rs[i]? with
  | none=>rw[hz]at hy;cases hy
  | some x =>
  rw[hz]at hy
  cases hy
  have hil:i<rs.length:=(Qc.mp hz).1
  have hxm:=Qo hz
  obtain⟨lx,l100,laz⟩:=hrs.lst x hxm
  have nxm:x.1≠m:=fun z=>by rw[z,hm]at lx;cases lx
  have hLl:L.length=i:=by have:=congrArg List.length n1;unfold ZI at this;rw[Qa,ZR,Qx]at this;omega
  have hlt:∀e∈L,e.n≠(i:Int):=fun e he z=>by
   have h1:e.n∈Zx 0 (rs.take i).length:=by rw[← n1];exact Qp (f:=fun e:ZK=>e.n) he
   unfold Zx at h1
   obtain⟨j,hj,ej⟩:=Qw.mp h1
   have:=QU.mp hj
   rw[Qx]at this
   omega
  have sp:=Zh hp (.tup [.int (i:Int),.ref x.1])
  have hp6:(upd H5 p (.tup [.int (i:Int),.ref x.1])) p=some (.tup [.int (i:Int),.ref x.1]):=Zb
  generalize upd H5 p (.tup [.int (i:Int),.ref x.1])=H6 at sp hp6 ⊢
  refine⟨p,_,rfl,SqT.of hp6,rfl,_,_,rfl,_,_,rfl,rfl,?_⟩
  have lx6:H6 x.1=some (.lst (x.2.map V.str)):=sp _ _ (k5 _ _ lx nxm)
  refine⟨_,rfl,_,rfl,(i:Int),x.1,x.2,rfl,SqL.of lx6,by omega,fun s hs=>(laz s hs).1,ZpJ (hsrt x hxm),fun H7 s7=>?_⟩
  have s57:=sp.trans s7
  refine⟨_,rfl,fun u dy hu hdy ndu=>?_⟩
  have hu5:H5 u=none:=s57.free hu
  have lx8:(upd (upd H7 dy (.own u)) u (.ins cRow dy [])) x.1=some (.lst (x.2.map V.str)):=by
   have:=s7 _ _ lx6
   rw[Ze (Zd this hu),Ze (Zd this hdy)];exact this
  have s8:∀b o,H5 b=some o→(upd (upd H7 dy (.own u)) u (.ins cRow dy [])) b=some o:=fun b o hb=>by
   have:=s57 _ _ hb
   rw[Ze (Zd this hu),Ze (Zd this hdy)];exact this
  have hu8:(upd (upd H7 dy (.own u)) u (.ins cRow dy [])) u=some (.ins cRow dy []):=Zb
  generalize upd (upd H7 dy (.own u)) u (.ins cRow dy [])=H8 at lx8 s8 hu8 ⊢
  refine⟨u,dy,x.1,x.2,rfl,hu8,lx8,l100,fun s hs=>(laz s hs).1,fun k f H9 hk hf nkf R k9=>⟨rfl,?_⟩⟩
  have s9:∀b o,H5 b=some o→H9 b=some o:=fun b o hb=>k9 b o (s8 b o hb) (Zd hb hu5)
  have free5:∀b,H8 b=none→H5 b=none:=fun b hb=>by
   cases e:H5 b with
   | none=>rfl
   | some o=>rw[s8 b o e]at hb;cases hb
  have free0:∀b,b≠m→H5 b=none→H b=none:=fun b nb hb=>by
   cases e:H b with
   | none=>rfl
   | some o=>rw[k5 b o e nb]at hb;cases hb
  have num:u≠m:=fun z=>by rw[z,hm5]at hu5;cases hu5
  have nkm:k≠m:=fun z=>by have:=free5 k hk;rw[z,hm5]at this;cases this
  have nfm:f≠m:=fun z=>by have:=free5 f hf;rw[z,hm5]at this;cases this
  have nrd:rd≠u∧rd≠k∧rd≠f:=⟨Zd hr5 hu5,Zd hr5 (free5 k hk),Zd hr5 (free5 f hf)⟩
  have hsz:(kvM L).length<sizeLine:=by unfold kvM;rw[Qa];exact ZH (by omega)
  have hn1:ZcH (kvM L) (.inl (i:Int))=none:=by
   cases hv:ZcH (kvM L) (.inl (i:Int)) with
   | none=>rfl
   | some v=>obtain⟨e,he,z⟩:=Qw.mp (ZmY hv);injection z with z _;exact absurd (Sum.inl.inj z) (hlt e he)
  refine⟨_,rfl,xw5 m cMerge dx _ _ ⟨rfl,s9 _ _ hm5,T.cl_Merge,T.na_Merge_rows,lkr,_,rfl,rd,_,rfl,ZgD.k (k:=.inl (i:Int)) (s9 _ _ hr5) hsz,?_⟩⟩
  rw[ZoO _ hn1,show kvM L++[((.inl (i:Int):Key),V.ref u)]=kvM (L++[⟨(i:Int),u,k,f,x.2,0⟩]) by unfold kvM;rw[Qf];rfl]
  refine⟨L++[⟨(i:Int),u,k,f,x.2,0⟩],_,_,rfl,by rw[Ze nmr];exact s9 _ _ hm5,Zb,fun e he=>?_,⟨?_,?_⟩,?_,fun e he=>?_,fun b o hb n=>?_⟩
  ·rcases Qh.mp he with he|he
   ·have re:=each e he
    obtain⟨de,hde⟩:=re.at'.ob
    refine re.mono fun b o hb hor=>?_
    have nb:b≠rd:=fun z=>by
     rw[z,hr5]at hb
     injection hb with hb
     subst hb
     rcases hor with z2|z2|z2
     ·rw[← z2,z,hr5]at hde;cases hde
     ·have:=re.at'.ks;rw[← z2,z,hr5]at this;cases this
     ·have:=re.at'.fs;rw[← z2,z,hr5]at this;cases this
    rw[Ze nb];exact s9 b o hb
   ·rw[Qd.mp he]
    refine ZeZ.keep (H:=H9) ⟨R,Qv _,l100,hsrt x hxm,laz⟩ (Ze nrd.1.symm) (Ze nrd.2.1.symm) (Ze nrd.2.2.symm)
  ·unfold ZI at n1 ⊢
   rw[Qf,n1,Qx,Qx,Nat.min_eq_left (by omega),Nat.min_eq_left (by omega)]
   unfold Zx
   rw[Qaj,Qf]
   simp
  ·rw[Qf,n2,QI,hz,Qf];rfl
  ·rw[Qf]
   refine QZ.mpr ⟨pd,by simp,fun a ha b hb=>?_⟩
   obtain⟨e,he,rfl⟩:=Qw.mp ha
   have:b=u:=by simpa using hb
   rw[this]
   obtain⟨de,hde⟩:=(each e he).at'.ob
   exact Zd hde hu5
  ·rcases Qh.mp he with he|he
   ·exact hfr e he
   ·rw[Qd.mp he]
    exact⟨free0 u num hu5,free0 k nkm (free5 k hk),free0 f nfm (free5 f hf)⟩
  ·rw[Ze (Zd hb hrd)];exact s9 b o (k5 b o hb n)
 ·rintro σ H5 ⟨L,v2,v3,rfl,hm5,hr5,each,hnew,pd,hfr,k5⟩
  rw[Qa,Qy (Qg _)]at hnew
  have p1:=Zb5 "rows" (V.ref rd) []
  have p2:=Zb5 "next_number" (V.int (rs.length:Int)) (Zr "rows" (.ref rd) [])
  have p3:=Zb5 "likened" (V.int 0) (Zr "next_number" (.int (rs.length:Int)) (Zr "rows" (.ref rd) []))
  have p4:=Zb5 "looked" (V.int 0) (Zr "likened" (.int 0) (Zr "next_number" (.int (rs.length:Int)) (Zr "rows" (.ref rd) [])))
  have p0:([]:List (Str×V)).length=0:=rfl
  refine⟨_,rfl,r,_,rfl,.inl (SqL.of (k5 _ _ hrs.at' nrm)),_,rfl,xw4 m cMerge dx _ ⟨rfl,hm5,T.cl_Merge,T.na_Merge_next_number,by omega,?_⟩⟩
  rw[Qa]
  refine⟨_,rfl,xw4 m cMerge dx _ ⟨rfl,Zb,T.cl_Merge,T.na_Merge_likened,by omega,?_⟩⟩
  refine⟨_,rfl,xw4 m cMerge dx _ ⟨rfl,Zb,T.cl_Merge,T.na_Merge_looked,by omega,?_⟩⟩
  have k8:∀b,b≠m→(upd (upd (upd H5 m (.ins cMerge dx (Zr "next_number" (.int (rs.length:Int)) (Zr "rows" (.ref rd) [])))) m (.ins cMerge dx (Zr "likened" (.int 0) (Zr "next_number" (.int (rs.length:Int)) (Zr "rows" (.ref rd) []))))) m (.ins cMerge dx (Zr "looked" (.int 0) (Zr "likened" (.int 0) (Zr "next_number" (.int (rs.length:Int)) (Zr "rows" (.ref rd) [])))))) b=H5 b:=fun b n=>by rw[Ze n,Ze n,Ze n]
  have hm8:(upd (upd (upd H5 m (.ins cMerge dx (Zr "next_number" (.int (rs.length:Int)) (Zr "rows" (.ref rd) [])))) m (.ins cMerge dx (Zr "likened" (.int 0) (Zr "next_number" (.int (rs.length:Int)) (Zr "rows" (.ref rd) []))))) m (.ins cMerge dx (Zr "looked" (.int 0) (Zr "likened" (.int 0) (Zr "next_number" (.int (rs.length:Int)) (Zr "rows" (.ref rd) [])))))) m=some (.ins cMerge dx (Zr "looked" (.int 0) (Zr "likened" (.int 0) (Zr "next_number" (.int (rs.length:Int)) (Zr "rows" (.ref rd) []))))):=Zb
  generalize (upd (upd (upd H5 m (.ins cMerge dx (Zr "next_number" (.int (rs.length:Int)) (Zr "rows" (.ref rd) [])))) m (.ins cMerge dx (Zr "likened" (.int 0) (Zr "next_number" (.int (rs.length:Int)) (Zr "rows" (.ref rd) []))))) m (.ins cMerge dx (Zr "looked" (.int 0) (Zr "likened" (.int 0) (Zr "next_number" (.int (rs.length:Int)) (Zr "rows" (.ref rd) []))))))=H8 at k8 hm8 ⊢
  refine fun sd hsd=>?_
  have nms:m≠sd:=Zd hm8 hsd
  have p5:=Zb5 "stays" (V.ref sd) (Zr "looked" (.int 0) (Zr "likened" (.int 0) (Zr "next_number" (.int (rs.length:Int)) (Zr "rows" (.ref rd) []))))
  refine⟨_,rfl,xw4 m cMerge dx _ ⟨rfl,by rw[Ze nms];exact hm8,T.cl_Merge,T.na_Merge_stays,by omega,?_⟩⟩
  refine⟨_,rfl,xw4 m cMerge dx _ ⟨rfl,Zb,T.cl_Merge,T.na_Merge_best,by omega,?_⟩⟩
  have hsd5:H5 sd=none:=by rw[← k8 sd nms.symm];exact hsd
  have hm9:(upd (upd (upd H8 sd (.dT [])) m (.ins cMerge dx (Zr "stays" (.ref sd) (Zr "looked" (.int 0) (Zr "likened" (.int 0) (Zr "next_number" (.int (rs.length:Int)) (Zr "rows" (.ref rd) []))))))) m (.ins cMerge dx (Zr "best" .non (Zr "stays" (.ref sd) (Zr "looked" (.int 0) (Zr "likened" (.int 0) (Zr "next_number" (.int (rs.length:Int)) (Zr "rows" (.ref rd) [])))))))) m=some (.ins cMerge dx (mgF rd (rs.length:Int) 0 0 sd .non)):=by rw[ZbM];exact Zb
  have hs9:(upd (upd (upd H8 sd (.dT [])) m (.ins cMerge dx (Zr "stays" (.ref sd) (Zr "looked" (.int 0) (Zr "likened" (.int 0) (Zr "next_number" (.int (rs.length:Int)) (Zr "rows" (.ref rd) []))))))) m (.ins cMerge dx (Zr "best" .non (Zr "stays" (.ref sd) (Zr "looked" (.int 0) (Zr "likened" (.int 0) (Zr "next_number" (.int (rs.length:Int)) (Zr "rows" (.ref rd) [])))))))) sd=some (.dT (kvS [])):=by rw[Ze nms.symm,Ze nms.symm];exact Zb
  have k9:∀b o,H5 b=some o→b≠m→(upd (upd (upd H8 sd (.dT [])) m (.ins cMerge dx (Zr "stays" (.ref sd) (Zr "looked" (.int 0) (Zr "likened" (.int 0) (Zr "next_number" (.int (rs.length:Int)) (Zr "rows" (.ref rd) []))))))) m (.ins cMerge dx (Zr "best" .non (Zr "stays" (.ref sd) (Zr "looked" (.int 0) (Zr "likened" (.int 0) (Zr "next_number" (.int (rs.length:Int)) (Zr "rows" (.ref rd) [])))))))) b=some o:=fun b o hb n=>by rw[Ze n,Ze n,Ze (Zd hb hsd5),k8 b n];exact hb
  generalize (upd (upd (upd H8 sd (.dT [])) m (.ins cMerge dx (Zr "stays" (.ref sd) (Zr "looked" (.int 0) (Zr "likened" (.int 0) (Zr "next_number" (.int (rs.length:Int)) (Zr "rows" (.ref rd) []))))))) m (.ins cMerge dx (Zr "best" .non (Zr "stays" (.ref sd) (Zr "looked" (.int 0) (Zr "likened" (.int 0) (Zr "next_number" (.int (rs.length:Int)) (Zr "rows" (.ref rd) []))))))))=H9 at hm9 hs9 k9 ⊢
  have hLl:L.length=rs.length:=by have:=congrArg List.length hnew.1;unfold ZI at this;rw[Qa,ZR]at this;exact this
  have M9:Zaa cRow cMerge H9 m rd sd L [] (rs.length:Int) 0 0 .non:=by
   refine⟨⟨dx,hm9⟩,k9 _ _ hr5 nmr.symm,hs9,(fun e he=>by cases he),fun e he=>?_,by rw[hnew.1];exact ZeJ _,pd,by omega,by decide⟩
   have re:=each e he
   obtain⟨de,hde⟩:=re.at'.ob
   refine re.mono fun b o hb hor=>k9 b o hb fun z=>?_
   have hf:=hfr e he
   have hm':=hm
   rw[← z]at hm'
   rcases hor with z2|z2|z2
   ·rw[z2,hf.1]at hm';cases hm'
   ·rw[z2,hf.2.1]at hm';cases hm'
   ·rw[z2,hf.2.2]at hm';cases hm'
  refine⟨_,rfl,m,dx,_,rfl,hm9,ZgI ..,m,rd,sd,L,[],_,0,0,.non,rfl,M9,fun sd' s' w1 k q' H10 hsd' W S Pl M10 b10=>?_⟩
  have free0:∀b,b≠m→H9 b=none→H b=none:=fun b nb hb=>by
   cases e:H b with
   | none=>rfl
   | some o=>rw[k9 b o (k5 b o e nb) nb]at hb;cases hb
  refine q rd sd' L s' w1 k q' H10 (M10.cast (by omega) (by omega)) hnew W S Pl (fun b hb=>?_) (fun b o hb n=>b10 b o (k9 b o (k5 b o hb n) n) n)
  rcases hb with rfl|rfl|rfl|⟨e,he,hb⟩
  ·exact .inl rfl
  ·exact .inr hrd
  ·exact .inr (free0 _ (fun z=>by rw[z,hm9]at hsd';cases hsd') hsd')
  ·have hf:=hfr e he
   rcases hb with rfl|rfl|rfl
   ·exact .inr hf.1
   ·exact .inr hf.2.1
   ·exact .inr hf.2.2
noncomputable def ZjR(cR cM:Addr):Sp:=fun vs H Q _=>∃ (m rd sd:Addr) (L:List ZK) (s:StL) (nb li lo:Int) (w:Option Int),vs=[.ref m]∧Zaa cR cM H m rd sd L s nb li lo (Zff w)∧Win (hdM L) (ZI L) w∧∀ (x:V) (H':Hp),ZsK (L.map toL) H' x→ZC H H'→Q x H'
theorem ZlD(T:Zaf K mg cRow cMerge)(f_Row_head:Mf P w K mg base 2 cRow "head" ["self"] (Zgf cRow)):Mf P w K mg base 3 cMerge "coming" ["self"] (ZjR cRow cMerge):=by
 refine T.t_Merge_coming.mf Zdn (fun vs H Q E h=>?_) (fun cdv f A outer s H vs Q E hr h=>?_)
 ·obtain⟨m,rd,sd,L,s,nb,li,lo,w,rfl,_⟩:=h
  rfl
 obtain⟨m,rd,sd,L,s,nb,li,lo,w,rfl,M,W,q⟩:=h
 refine⟨_,#[Zg,#[ZZ,#[Zn,ZdK,#[Zad,‹0›],#[ZaQ],(Zs _)],#[Zj,#[Zm,#[ZaQ]]],#[ZD]],#[Zg,#[Zy,1,Zdn.nd,(Or.inl rfl),#[Zz,(ixG hr),#[Zad,‹0›],#[Zad,‹0›]]],#[Zj,#[Zm,#[ZT,#[Za,#[Zad,‹0›],#[Za,#[Zad,‹1›],#[Za,#[Zde,f_Row_head,T.cl_Row,hr,‹1›],#[Zc]]]]]]]]],?_⟩
 obtain⟨dx,hm⟩:=M.ob
 refine⟨_,rfl,xw5 m cMerge dx _ _ ⟨rfl,hm,T.cl_Merge,T.na_Merge_best,ZdE ..,rfl,_,rfl,?_⟩⟩
 have W':Win (hdL (L.map toL)) ((L.map toL).map (·.1)) w:=by rw[ZeE];exact W
 cases w with
 | none=>exact ZgV rfl (q _ H (.inl ⟨rfl,W'⟩) (ZC.refl H))
 | some a =>
  obtain⟨e,he,rfl⟩:=Zdz W.1
  have R:=M.each e he
  obtain⟨dp,hp⟩:=R.at'.ob
  have hd:=Zev M.nd he
  cases hx:e.ss[e.g]? with
  | none=>obtain⟨_,z,hz,_⟩:=W;rw[hd,hx]at hz;cases hz
  | some x =>
  refine Zds (fun z=>nomatch z) ?_
  refine⟨_,rfl,xw5 m cMerge dx _ _ ⟨rfl,hm,T.cl_Merge,T.na_Merge_rows,ZbZ ..,_,rfl,xw5 m cMerge dx _ _ ⟨rfl,hm,T.cl_Merge,T.na_Merge_best,ZdE ..,rd,_,rfl,Zdv.k' (k:=.inl e.n) M.rows (Zgr M.nd he),?_⟩⟩⟩
  refine⟨_,rfl,xw5 m cMerge dx _ _ ⟨rfl,hm,T.cl_Merge,T.na_Merge_best,ZdE ..,_,rfl,e.p,cRow,dp,_,_,rfl,hp,T.cl_Row,T.na_Row_gone,ZcJ ..,_,rfl,e.p,dp,_,rfl,hp,Zb4 ..,xw5 e.p e.k e.f e.ss e.g ⟨rfl,R.at',(by show 3≤sizeLine;decide),fun t ht=>?_⟩⟩⟩
  rw[ZeN hx]
  exact q _ _ (.inr ⟨t,toL e,x,rfl,Qp he,hx,Zb,W'⟩) (Zh ht _)
theorem ZmK(ss:List Str)(g:Nat):ZeX ss g=oV ss[g]?:=by unfold ZeX oV;cases ss[g]?<;>rfl
noncomputable def Agr(Lo:List Zek)(L:List ZK):Prop:=Lo.map (fun e=>(e.1,e.2.2))=L.map (fun e=>(e.n,(e.ss,e.g)))
theorem Zls:∀ (A B:List Zek),A.map (fun e=>(e.1,e.2.2))=B.map (fun e=>(e.1,e.2.2))→hdL A=hdL B
 | [],[],_=>rfl
 | [],_::_,h=>by cases h
 | _::_,[],h=>by cases h
 | a::A,b::B,h=>by
  rw[Ql,Ql]at h
  injection h with h1 h2
  injection h1 with h3 h4
  have ih:=Zls A B h2
  funext n
  have ihn:=congrFun ih n
  unfold hdL at ihn ⊢
  rw[Qao,Qao,h3]
  split
  ·simp only[Option.bind_some];rw[h4]
  ·exact ihn
theorem Zdm{α β:Type}:∀ {P:List (α×β)},(P.map (·.1)).Nodup→∀ {p q:α×β},p∈P→q∈P→p.1=q.1→p=q
 | [],_,_,_,h,_,_=>by cases h
 | x::r,nd,p,q,hp,hq,e=>by
  rw[Ql,QY]at nd
  rcases QK.mp hp with h1|h1
  ·rcases QK.mp hq with h2|h2
   ·rw[h1,h2]
   ·exact absurd (show x.1∈r.map (·.1) by rw[← h1,e];exact Qp (f:=fun x:α×β=>x.1) h2) nd.1
  ·rcases QK.mp hq with h2|h2
   ·exact absurd (show x.1∈r.map (·.1) by rw[← h2,← e];exact Qp (f:=fun x:α×β=>x.1) h1) nd.1
   ·exact Zdm nd.2 h1 h2 e
structure F2 (R:V→V→Prop) (xs ys:List V):Prop where
 len:xs.length=ys.length
 at':∀ (i:Nat) (x y:V),xs[i]? = some x→ys[i]? = some y→R x y
theorem Zh8(rd:Addr)(nb li lo:Int)(sd:Addr)(best:V):(mgF rd nb li lo sd best).lookup ("coming" : Str)=none:=Zdj _ _ _ _ _ _ (by ac_rfl) (by ac_rfl) (by ac_rfl) (by ac_rfl) (by ac_rfl) (by ac_rfl)
noncomputable def Zaj(M:List Int)(n:Int):List Int:=if n∈lo M then lo M else up M
noncomputable def Zax(M:List Int)(n:Int):List Int:=if n∈lo M then up M else lo M
noncomputable def ZY:Nat→List Int→Int→List (List Int)
 | 0,_,_=>[]
 | k+1,M,n=>if 2≤M.length then ZY k (Zaj M n) n++[M] else []
inductive Sub (N:List Int):List Int→Prop
 | top:Sub N N
 | lo {M:List Int}:Sub N M→2≤M.length→Sub N (lo M)
 | up {M:List Int}:Sub N M→2≤M.length→Sub N (up M)
theorem Sub.trans{A B C:List Int}(h:Sub A B)(k:Sub B C):Sub A C:=by
 induction k with
 | top=>exact h
 | lo _ h2 ih=>exact ih.lo h2
 | up _ h2 ih=>exact ih.up h2
theorem Sub.rise{N M:List Int}(h:Sub N M)(r:Zam N):Zam M:=by
 induction h with
 | top=>exact r
 | lo _ _ ih=>exact Zd8 ih
 | up _ _ ih=>exact Zee ih
theorem Sub.mem{N M:List Int}(h:Sub N M){x:Int}(hx:x∈M):x∈N:=by
 induction h with
 | top=>exact hx
 | lo _ _ ih=>exact ih (Qaq hx)
 | up _ _ ih=>exact ih (Qar hx)
theorem Zjw{M:List Int}(h:2≤M.length)(n:Int):Sub M (Zaj M n):=by
 unfold Zaj
 split
 ·exact Sub.top.lo h
 ·exact Sub.top.up h
theorem ZdZ{M:List Int}{n:Int}(h:n∈M):n∈Zaj M n:=by
 unfold Zaj
 split
 ·assumption
 ·rename_i hn
  rw[← Zcr M]at h
  exact(Qh.mp h).resolve_left hn
theorem ZfZ{M:List Int}(r:Zam M){n:Int}(hn:n∈Zaj M n):n ∉ Zax M n:=by
 intro h
 unfold Zax Zaj at *
 split at h
 ·rename_i hl
  have:=ZL r hl h
  omega
 ·rename_i hl;exact hl h
theorem Ze9(M:List Int)(n:Int):(Zaj M n++Zax M n).Perm M:=by
 unfold Zaj Zax
 split
 ·rw[Zcr]
 ·exact List.perm_append_comm.trans (by rw[Zcr])
noncomputable def Kys(M:List Int)(k:Int×Int):Prop:=∃M',Sub M M'∧2≤M'.length∧k=ZQ M'
theorem Zik{M:List Int}{k:Int×Int}(h:Kys M k):k.1∈M∧k.2∈M:=by
 obtain⟨M',s,h2,rfl⟩:=h
 have hn:M'≠[]:=Z7 (by omega)
 exact⟨s.mem (Zcf hn),s.mem (Zch hn)⟩
theorem Zoy{M:List Int}(r:Zam M)(h2:2≤M.length){k:Int×Int}(h:Kys (lo M) k):k≠ZQ M∧¬ Kys (up M) k:=by
 have:=Zik h
 refine⟨fun z=>?_,fun m=>?_⟩
 ·have h1:=Zft h2
  rw[z,h1]at this
  have:=ZL r this.2 (Zch (Z7 (ZeD h2).2))
  omega
 ·have:=ZL r this.1 (Zik m).1
  omega
theorem ZmE{M:List Int}(r:Zam M)(h2:2≤M.length){k:Int×Int}(h:Kys (up M) k):k≠ZQ M∧¬ Kys (lo M) k:=by
 have:=Zik h
 refine⟨fun z=>?_,fun m=>?_⟩
 ·have h1:=Zfa h2
  rw[z,h1]at this
  have:=ZL r (Zcf (Z7 (ZdR h2).2)) this.1
  omega
 ·have:=ZL r (Zik m).1 this.1
  omega
theorem ZiS{M:List Int}(r:Zam M)(h2:2≤M.length){n:Int}{k:Int×Int}(h:Kys (Zaj M n) k):k≠ZQ M∧¬ Kys (Zax M n) k:=by
 unfold Zaj at h
 unfold Zax
 split
 ·rename_i hl;rw[if_pos hl]at h;exact Zoy r h2 h
 ·rename_i hl;rw[if_neg hl]at h;exact ZmE r h2 h
theorem ZjB{M:List Int}(r:Zam M)(h2:2≤M.length){n:Int}{k:Int×Int}(h:Kys (Zax M n) k):k≠ZQ M∧¬ Kys (Zaj M n) k:=by
 unfold Zax at h
 unfold Zaj
 split
 ·rename_i hl;rw[if_pos hl]at h;exact ZmE r h2 h
 ·rename_i hl;rw[if_neg hl]at h;exact Zoy r h2 h
theorem Zfk{M M':List Int}(h:Sub M M'):M'=M∨(2≤M.length∧(Sub (lo M) M'∨Sub (up M) M')):=by
 induction h with
 | top=>exact .inl rfl
 | lo h h2 ih =>
  rcases ih with rfl|⟨g,ih⟩
  ·exact .inr ⟨h2,.inl .top⟩
  ·exact .inr ⟨g,ih.imp (fun z=>z.lo h2) (fun z=>z.lo h2)⟩
 | up h h2 ih =>
  rcases ih with rfl|⟨g,ih⟩
  ·exact .inr ⟨h2,.inr .top⟩
  ·exact .inr ⟨g,ih.imp (fun z=>z.up h2) (fun z=>z.up h2)⟩
theorem ZoP{M M':List Int}(n:Int)(h:Sub M M'):M'=M∨(2≤M.length∧(Sub (Zaj M n) M'∨Sub (Zax M n) M')):=by
 rcases Zfk h with h|⟨g,h⟩
 ·exact .inl h
 ·refine .inr ⟨g,?_⟩
  unfold Zaj Zax
  split
  ·exact h
  ·exact h.symm
noncomputable def Zer(hd:Hd)(s:StL)(A B:List Int)(k:Int×Int):Prop :=
 (∀a b x y,Win hd A (some a)→Win hd B (some b)→hd a=some x→hd b=some y→∃t lz,ZU s k=some (some (t,lz,((lcp x y:Nat):Int)))∧((Btr x a y b∧lz=b)∨(Btr y b x a∧lz=a))) ∧
 ((Win hd A none∨Win hd B none)→ZU s k=none∨ZU s k=some none)
theorem Zer.swap{hd:Hd}{s:StL}{A B:List Int}{k:Int×Int}(h:Zer hd s A B k):Zer hd s B A k:=by
 refine⟨fun a b x y wa wb hx hy=>?_,fun hw=>h.2 hw.symm⟩
 obtain⟨t,lz,e,o⟩:=h.1 b a y x wb wa hy hx
 exact⟨t,lz,by rw[Zcq x y];exact e,o.symm⟩
noncomputable def Z6(hd:Hd)(s:StL)(N:List Int):Prop:=∀M,Sub N M→2≤M.length→Zer hd s (lo M) (up M) (ZQ M)
theorem Z6.sub{hd:Hd}{s:StL}{N M:List Int}(h:Z6 hd s N)(k:Sub N M):Z6 hd s M:=fun M' h' h2=>h M' (k.trans h') h2
theorem Z6.at_side{hd:Hd}{s:StL}{M:List Int}(h:Z6 hd s M)(h2:2≤M.length)(n:Int):Zer hd s (Zaj M n) (Zax M n) (ZQ M):=by
 have:=h M .top h2
 unfold Zaj Zax
 split
 ·exact this
 ·exact this.swap
theorem Zf7:∀ (n:Nat) (hd:Hd) (s:StL) (N:List Int),Zam N→N.length≤2 ^ (n-1)→0<n→Zfq hd s n N→Z6 hd s N
 | 0,_,_,_,_,_,h,_=>absurd h (by omega)
 | n+1,hd,s,N,r,hl,_,h=>fun M hM h2=>by
  rw[Qax]at hl
  rcases Zfk hM with rfl|⟨g,hM⟩
  ·obtain⟨_,_,c1,c2⟩:=h h2
   refine⟨fun a b x y wa wb hx hy=>?_,c2⟩
   obtain⟨t,e⟩:=c1 a b x y wa wb hx hy
   have hab:=ZL r wa.1 wb.1
   by_cases hb:ZJ x y<0∨(ZJ x y=0∧a<b)
   ·rw[if_pos hb]at e;exact⟨t,b,e,.inl ⟨hb,rfl⟩⟩
   ·rw[if_neg hb]at e;exact⟨t,a,e,.inr ⟨(Btr.total (show a≠b by omega)).resolve_left hb,rfl⟩⟩
  ·obtain⟨h1,h3,_⟩:=h g
   have hn:1≤n:=by
    cases n with
    | zero=>simp at hl;omega
    | succ m=>omega
   have hp:2 ^ n=2*2 ^ (n-1):=by
    obtain⟨m,rfl⟩:∃m,n=m+1:=⟨n-1,by omega⟩
    rw[Nat.pow_succ,Qax];omega
   rcases hM with hM|hM
   ·exact Zf7 n hd s (lo N) (Zd8 r) (by unfold lo mid;rw[Qx];omega) hn h1 M hM h2
   ·exact Zf7 n hd s (up N) (Zee r) (by unfold up mid;rw[QR];omega) hn h3 M hM h2
theorem Zer.congr{hd hd':Hd}{s s':StL}{A B:List Int}{k:Int×Int}(h:Zer hd s A B k)(ha:∀m∈A,hd' m=hd m)(hb:∀m∈B,hd' m=hd m)(hk:ZU s' k=ZU s k):Zer hd' s' A B k:=by
 refine⟨fun a b x y wa wb hx hy=>?_,fun hw=>?_⟩
 ·rw[hk]
  exact h.1 a b x y (wa.congr fun m hm=>(ha m hm).symm) (wb.congr fun m hm=>(hb m hm).symm) (by rw[← ha a wa.1];exact hx) (by rw[← hb b wb.1];exact hy)
 ·rw[hk]
  exact h.2 (hw.imp (fun w=>w.congr fun m hm=>(ha m hm).symm) (fun w=>w.congr fun m hm=>(hb m hm).symm))
theorem Z6.congr{hd hd':Hd}{s s':StL}{M:List Int}(h:Z6 hd s M)(hh:∀m∈M,hd' m=hd m)(hk:∀k,Kys M k→ZU s' k=ZU s k):Z6 hd' s' M:=fun M' hM h2 =>
 (h M' hM h2).congr (fun m hm=>hh m (hM.mem (Qaq hm))) (fun m hm=>hh m (hM.mem (Qar hm))) (hk _ ⟨M',hM,h2,rfl⟩)
theorem ZlH{hd:Hd}{s:StL}{M:List Int}{n:Int}(h1:Z6 hd s (Zaj M n))(h3:Z6 hd s (Zax M n))(h:Zer hd s (Zaj M n) (Zax M n) (ZQ M)):Z6 hd s M:=fun M' hM h2=>by
 rcases ZoP n hM with rfl|⟨g,hM|hM⟩
 ·unfold Zaj Zax at h
  split at h
  ·exact h
  ·exact h.swap
 ·exact h1 M' hM h2
 ·exact h3 M' hM h2
noncomputable def low(n:Int)(C:List (List Int)):Nat→List Int
 | 0=>[n]
 | i+1=>C.getD i []
theorem Zge:∀ (k:Nat) (M:List Int) (n:Int),n∈M→M.length≤2 ^ k→(∀i X,(ZY k M n)[i]? = some X→Sub M X∧2≤X.length∧n∈X∧Zaj X n=low n (ZY k M n) i)∧low n (ZY k M n) (ZY k M n).length=M∧(ZY k M n).length≤k
 | 0,M,n,hn,hl=>by
  refine⟨fun i X h=>by unfold ZY at h;simp at h,?_,Qg _⟩
  have h1:M.length=1:=by
   have:=Q3 hn
   simp at hl;omega
  obtain⟨x,rfl⟩:=QaS.mp h1
  have:n=x:=by simpa using hn
  rw[this];rfl
 | k+1,M,n,hn,hl=>by
  unfold ZY
  by_cases h2:2≤M.length
  ·rw[if_pos h2]
   have hs:(Zaj M n).length≤2 ^ k:=by
    rw[Nat.pow_succ]at hl
    unfold Zaj
    split
    ·unfold lo mid;rw[Qx];omega
    ·unfold up mid;rw[QR];omega
   obtain⟨a,b,c⟩:=Zge k (Zaj M n) n (ZdZ hn) hs
   refine⟨fun i X h=>?_,?_,by rw[Qe,Qm];omega⟩
   ·have lw:∀j,j≤(ZY k (Zaj M n) n).length→low n (ZY k (Zaj M n) n++[M]) j=low n (ZY k (Zaj M n) n) j:=fun j hj=>by
     cases j with
     | zero=>rfl
     | succ j =>
      show (ZY k (Zaj M n) n++[M]).getD j []=(ZY k (Zaj M n) n).getD j []
      rw[Qk,Qk,QX (by omega)]
    by_cases hi:i<(ZY k (Zaj M n) n).length
    ·rw[QX hi]at h
     obtain⟨g1,g2,g3,g4⟩:=a i X h
     exact⟨(Zjw h2 n).trans g1,g2,g3,by rw[lw i (by omega)];exact g4⟩
    ·have hi':i=(ZY k (Zaj M n) n).length:=by
      have:=(Qc.mp h).1
      rw[Qe,Qm]at this
      omega
     subst hi'
     rw[QW (Qg _),Nat.sub_self]at h
     cases h
     exact⟨.top,h2,hn,by rw[lw _ (Qg _),b]⟩
   ·rw[Qe,Qm]
    show (ZY k (Zaj M n) n++[M]).getD _ []=M
    rw[Qk,QW (Qg _),Nat.sub_self];rfl
  ·rw[if_neg h2]
   refine⟨fun i X h=>by simp at h,?_,Qv _⟩
   have h1:M.length=1:=by have:=Q3 hn;omega
   obtain⟨x,rfl⟩:=QaS.mp h1
   have:n=x:=by simpa using hn
   rw[this];rfl
structure Tk (hd hd':Hd) (N:List Int) (n:Int) (z:List Nat):Prop where
 win:Win hd N (some n)
 key:hd n=some z
 oth:∀b,b≠n→hd' b=hd b
 nxt:∀x,hd' n=some x→ZJ z x≤0
 up:Zam N
theorem Tk.ge{hd hd':Hd}{N:List Int}{n:Int}{z:List Nat}(h:Tk hd hd' N n z){b:Int}(hb:b∈N){y:List Nat}(hy:hd' b=some y):ZJ z y≤0:=by
 by_cases e:b=n
 ·exact h.nxt y (by rw[← e];exact hy)
 ·obtain⟨_,x,hx,hw⟩:=h.win
  rw[h.key]at hx
  cases hx
  rw[h.oth b e]at hy
  rcases hw b hb y hy with z|z
  ·exact absurd z e
  ·rcases z with z|z<;>omega
inductive Ag (hd:Hd) (z:List Nat):List (List Int×List Int)→Int→Int→Prop
 | nil:Ag hd z [] 0 0
 | no {C:List (List Int×List Int)} {A B:List Int} {k q:Int}:Ag hd z C k q→(Win hd A none∨Win hd B none)→Ag hd z (C++[(A,B)]) k q
 | eq {C:List (List Int×List Int)} {A B:List Int} {k q:Int} {a b:Int} {x y:List Nat}:Ag hd z C k q→Win hd A (some a)→Win hd B (some b)→hd a=some x→hd b=some y→lcp x z=lcp y z→Ag hd z (C++[(A,B)]) (k+1) (q+((lcp x y:Nat)-(lcp x z:Nat)+1))
 | ne {C:List (List Int×List Int)} {A B:List Int} {k q:Int} {a b:Int} {x y:List Nat}:Ag hd z C k q→Win hd A (some a)→Win hd B (some b)→hd a=some x→hd b=some y→lcp x z≠lcp y z→Ag hd z (C++[(A,B)]) (k+1) q
theorem Zla:∀ (x z y:List Nat),lcp z y<lcp x z→ZJ x y=ZJ z y
 | [],z,y,h=>by rw[lcp_nil']at h;omega
 | _::_,[],y,h=>by rw[Zd6]at h;omega
 | a::x,b::z,[],h=>by unfold ZJ;rfl
 | a::x,b::z,c::y,h=>by
  unfold lcp at h
  by_cases e:a=b
  ·subst e
   rw[if_pos rfl]at h
   by_cases e2:a=c
   ·subst e2
    rw[if_pos rfl]at h
    unfold ZJ
    rw[if_pos rfl,if_pos rfl]
    exact Zla x z y (by omega)
   ·unfold ZJ
    rw[if_neg e2,if_neg e2]
  ·rw[if_neg e]at h;omega
theorem Zqd{x z y:List Nat}(h:lcp z y<lcp x z):lcp x y=lcp z y:=by
 have:=Zfg x y z
 rw[Zcq y z]at this
 omega
theorem ZqY{x z y:List Nat}(h:lcp x z=lcp y z):lcp x z≤lcp x y:=by
 have:=Zfg x y z
 omega
theorem ZjK{x z y:List Nat}{a b:Int}(h:lcp y z<lcp x z)(hz:ZJ z y≤0):Btr x a y b∧lcp x y=lcp y z:=by
 rw[Zcq y z]at h ⊢
 refine⟨.inl ?_,Zqd h⟩
 rw[Zla x z y h]
 rcases Int.lt_or_eq_of_le hz with g|g
 ·exact g
 ·have e:=Zc3 _ _ g
  subst e
  rw[ZjV]at h
  have:=(ZfY x z).2
  omega
noncomputable abbrev Com:=Option (Int×Int)
noncomputable def ZiV(hd:Hd)(z:List Nat)(M:List Int)(c:Com):Prop:=Win hd M (c.map (·.1))∧∀p,c=some p→∃x,hd p.1=some x∧p.2=((lcp x z:Nat):Int)
theorem Zm5{hd hd':Hd}{N M:List Int}{n:Int}{z:List Nat}{s:StL}(T:Tk hd hd' N n z)(hM:Sub N M)(h2:2≤M.length)(hn:n∈M)(ok:Z6 hd s N) :
  (Win hd' (Zax M n) none∧(ZU s (ZQ M)=none∨ZU s (ZQ M)=some none))∨∃t b y,Win hd' (Zax M n) (some b)∧hd' b=some y∧b∈N∧ZU s (ZQ M)=some (some (t,b,((lcp y z:Nat):Int))):=by
 have r:=hM.rise T.up
 have nd:=Zd2 r
 have hno:=ZfZ r (ZdZ hn)
 have nS:=(ok.sub hM).at_side h2 n
 have hoN:∀b∈Zax M n,b∈M:=fun b hb=>(Ze9 M n).mem_iff.mp (Qn _ hb)
 have hsN:∀b∈Zaj M n,b∈M:=fun b hb=>(Ze9 M n).mem_iff.mp (Qs _ hb)
 have wS:Win hd (Zaj M n) (some n):=by
  obtain⟨_,x,hx,hw⟩:=T.win
  exact⟨ZdZ hn,x,hx,fun b hb y hy=>hw b (hM.mem (hsN b hb)) y hy⟩
 have cO:∀m∈Zax M n,hd' m=hd m:=fun m hm=>T.oth m fun e=>hno (e ▸ hm)
 have ndO:(Zax M n).Nodup:=by unfold Zax;split;exact Zd2 (Zee r);exact Zd2 (Zd8 r)
 obtain⟨w,hw⟩:=Win.ex hd (Zax M n) ndO
 cases w with
 | none=>exact .inl ⟨hw.congr cO,nS.2 (.inr hw)⟩
 | some b =>
  obtain⟨y,hy⟩:∃y,hd b=some y:=by obtain⟨_,y,hy,_⟩:=hw;exact⟨y,hy⟩
  obtain⟨t,lz,e,o⟩:=nS.1 n b z y wS hw T.key hy
  have hbM:=hoN b hw.1
  have hbn:b≠n:=fun z=>hno (z ▸ hw.1)
  have hB:Btr z n y b:=by
   obtain⟨_,x,hx,hww⟩:=T.win
   rw[T.key]at hx;cases hx
   exact(hww b (hM.mem hbM) y hy).resolve_left hbn
  have el:lz=b:=by
   rcases o with⟨_,e⟩|⟨e,_⟩
   ·exact e
   ·exact(hB.asym e).elim
  subst el
  exact .inr ⟨t,lz,y,hw.congr cO,by rw[cO lz hw.1];exact hy,hM.mem hbM,by rw[Zcq y z];exact e⟩
theorem Zk1(ns:List Int):(Zel ns).length=(ns.length+1) / 2:=by unfold Zel mid;rw[Qx];omega
theorem Zlr(ns:List Int):(ZgR ns).length=ns.length / 2:=by unfold ZgR mid;rw[QR];omega
noncomputable def ZgZ:Nat→List Int→Int→List (List Int)
 | 0,_,_=>[]
 | f+1,ns,n=>if ns.length≤1 then [] else if n∈Zel ns then ZgR ns::ZgZ f (Zel ns) n else Zel ns::ZgZ f (ZgR ns) n
noncomputable def Zb9(ns:List Int)(n:Int):List Int:=if n∈Zel ns then Zel ns else ZgR ns
noncomputable def Zdc(ns:List Int)(n:Int):List Int:=if n∈Zel ns then ZgR ns else Zel ns
theorem ZeI{ns:List Int}{n:Int}(h:1<ns.length):(Zb9 ns n).length<ns.length:=by
 unfold Zb9
 split
 ·rw[Zk1];omega
 ·rw[Zlr];omega
theorem Znd{ns:List Int}{n:Int}(h:1<ns.length):0<(Zb9 ns n).length:=by
 unfold Zb9
 split
 ·rw[Zk1];omega
 ·rw[Zlr];omega
theorem Zfb{f:Nat}{ns:List Int}{n:Int}(h:1<ns.length):ZgZ (f+1) ns n=Zdc ns n::ZgZ f (Zb9 ns n) n:=by
 conv=>lhs;unfold ZgZ
 rw[if_neg (by omega)]
 unfold Zdc Zb9
 split<;>rfl
theorem Zck{f:Nat}{ns:List Int}{n:Int}(h:ns.length≤1):ZgZ f ns n=[]:=by
 cases f with
 | zero=>rfl
 | succ f=>unfold ZgZ;rw[if_pos h]
theorem ZhY:∀ (f g:Nat) (ns:List Int) (n:Int),ns.length≤f+1→ns.length≤g+1→ZgZ f ns n=ZgZ g ns n
 | 0,g,ns,n,h,_=>by rw[Zck (by omega),Zck (by omega)]
 | f+1,0,ns,n,_,h=>by rw[Zck (by omega),Zck (by omega)]
 | f+1,g+1,ns,n,h1,h2=>by
  by_cases h:1<ns.length
  ·have:=ZeI (n:=n) h
   rw[Zfb h,Zfb h,ZhY f g _ n (by omega) (by omega)]
  ·rw[Zck (by omega),Zck (by omega)]
noncomputable def way(ns:List Int)(n:Int):List (List Int):=ZgZ ns.length ns n
theorem Zjx{ns:List Int}{n:Int}(h:1<ns.length):way ns n=Zdc ns n::way (Zb9 ns n) n:=by
 unfold way
 cases e:ns.length with
 | zero=>omega
 | succ f =>
  have:=ZeI (n:=n) h
  rw[Zfb h,ZhY f (Zb9 ns n).length _ n (by omega) (by omega)]
theorem Zh3{ns:List Int}{n:Int}(h:ns.length≤1):way ns n=[]:=Zck h
theorem Zk0(n:Int):∀ns:List Int,inV (.int n) (ns.map V.int)=decide (n∈ns)
 | []=>rfl
 | m::r=>by
  have ih:=Zk0 n r
  unfold inV at ih ⊢
  rw[Ql,Qay,ih]
  by_cases h:m=n
  ·subst h;simp[eqV]
  ·have:(m == n)=false:=by simpa using h
   simp[eqV,this,List.mem_cons,Ne.symm h]
theorem Zhu:∀ns:List Int,(ns.map V.int).all Zeo=true
 | []=>rfl
 | _::r=>by rw[Ql,List.all_cons,Zhu r];rfl
noncomputable def Rd(H:Hp):List Addr→List (List Int)→Prop
 | [],[]=>True
 | l::ls,d::ds=>H l=some (.lst (d.map V.int))∧Rd H ls ds
 | _,_=>False
theorem Rd.len{H:Hp}:∀ {ls:List Addr} {ds:List (List Int)},Rd H ls ds→ls.length=ds.length
 | [],[],_=>rfl
 | [],_::_,h=>h.elim
 | _::_,[],h=>h.elim
 | _::ls,_::ds,h=>by rw[QE,QE,Rd.len h.2]
theorem Rd.mono{H H':Hp}:∀ {ls:List Addr} {ds:List (List Int)},(∀l∈ls,∀o,H l=some o→H' l=some o)→Rd H ls ds→Rd H' ls ds
 | [],[],_,_=>trivial
 | [],_::_,_,h=>h.elim
 | _::_,[],_,h=>h.elim
 | l::ls,_::ds,k,h=>⟨k l (by simp) _ h.1,Rd.mono (fun x hx=>k x (Qu _ hx)) h.2⟩
theorem Rd.app{H:Hp}:∀ {ls:List Addr} {ds:List (List Int)} {ms:List Addr} {es:List (List Int)},Rd H ls ds→Rd H ms es→Rd H (ls++ms) (ds++es)
 | [],[],_,_,_,h=>h
 | [],_::_,_,_,h,_=>h.elim
 | _::_,[],_,_,h,_=>h.elim
 | _::ls,_::ds,_,_,h,g=>⟨h.1,Rd.app h.2 g⟩
theorem Rd.rev{H:Hp}:∀ {ls:List Addr} {ds:List (List Int)},Rd H ls ds→Rd H ls.reverse ds.reverse
 | [],[],h=>h
 | [],_::_,h=>h.elim
 | _::_,[],h=>h.elim
 | l::ls,d::ds,h=>by
  rw[Qaz,Qaz]
  exact Rd.app (Rd.rev h.2) ⟨h.1,trivial⟩
theorem Rd.at{H:Hp}:∀ {ls:List Addr} {ds:List (List Int)} {i:Nat} {l:Addr},Rd H ls ds→ls[i]? = some l→∃d,ds[i]? = some d∧H l=some (.lst (d.map V.int))
 | [],_,i,l,_,h=>by simp at h
 | _::_,[],_,_,h,_=>h.elim
 | l::ls,d::ds,0,x,h,e=>⟨d,rfl,by simp at e;subst e;exact h.1⟩
 | l::ls,d::ds,i+1,x,h,e=>by simpa using Rd.at (i:=i) h.2 (by simpa using e)
noncomputable def ZmZ:Sp:=fun vs H Q _=>∃ (a:Addr) (ns:List Int) (n:Int),vs=[.ref a,.int n]∧H a=some (.lst (ns.map V.int))∧1≤ns.length∧ns.length≤100 ∧
 ∀ (r:Addr) (ls:List Addr) (H':Hp),H r=none→H' r=some (.lst (ls.map V.ref))→r ∉ ls→(∀l∈ls,H l=none)→Rd H' ls (way ns n).reverse→ZC H H'→Q (.ref r) H'
noncomputable def Dn(H:Hp)(a o:Addr)(ns:List Int)(n:Int)(b:Addr)(cur:List Int)(ls:List Addr)(H2:Hp):Prop :=
 ∃done:List (List Int),H2 b=some (.lst (cur.map V.int))∧b≠o∧1≤cur.length∧cur.length≤100∧way ns n=done++way cur n∧Rd H2 ls done∧H2 o=some (.lst (ls.map V.ref))∧ZC H H2∧(∀l∈ls,H l=none)∧o ∉ ls∧ls.length+cur.length≤100
theorem Dn.step{H:Hp}{a o:Addr}{ns:List Int}{n:Int}{b:Addr}{cur:List Int}{ls:List Addr}{H2 H3:Hp}(D:Dn H a o ns n b cur ls H2)(hO:H o=none)(h1:1<cur.length)(s:ZC H2 H3){x y:Addr}(hx:H3 x=some (.lst ((Zb9 cur n).map V.int)))(hy:H3 y=some (.lst ((Zdc cur n).map V.int)))(nx:H2 x=none)(ny:H2 y=none) :
  Dn H a o ns n x (Zb9 cur n) (ls++[y]) (upd H3 o (.lst (ls.map V.ref++[.ref y]))):=by
 obtain⟨done,d1,d2,d3,d4,d5,d6,d7,d8,d9,d10,d11⟩:=D
 have xo:x≠o:=(Zd d7 nx).symm
 have yo:y≠o:=(Zd d7 ny).symm
 have sl:=ZeI (n:=n) h1
 have k:∀l,l≠o→∀u,H3 l=some u→(upd H3 o (.lst (ls.map V.ref++[.ref y]))) l=some u:=fun l hl u hu=>by rw[Ze hl];exact hu
 refine⟨done++[Zdc cur n],k x xo _ hx,xo,Znd h1,by omega,by rw[d5,Zjx h1,Q6];rfl,?_,?_,fun c u hu=>?_,?_,?_,?_⟩
 ·refine Rd.app (Rd.mono (fun l hl u hu=>k l (fun e=>d10 (e ▸ hl)) u (s _ _ hu)) d6) ⟨k y yo _ hy,trivial⟩
 ·rw[Zb,Qf];rfl
 ·rw[Ze (Zd hu hO)];exact s _ _ (d8 _ _ hu)
 ·intro l hl
  rcases Qh.mp hl with hl|hl
  ·exact d9 l hl
  ·rw[Qd.mp hl];exact d8.free ny
 ·intro hm
  rcases Qh.mp hm with hl|hl
  ·exact d10 hl
  ·exact yo (Qd.mp hl).symm
 ·rw[Qe,Qm];omega
theorem ZqO(T:Zaf K mg cRow cMerge)(f_halves:Df P w K mg base 1 "halves" ["numbers"] (ZeF K true)):Df P w K mg base 2 "way_up" ["numbers", "n"] ZmZ:=by
 refine T.t_way_up.df ZbL (fun vs H Q E h=>?_) (fun cdv f A outer s H vs Q E hr h=>?_)
 ·obtain⟨a,ns,n,rfl,_⟩:=h
  rfl
 obtain⟨a,ns,n,rfl,hA,h1,h100,q⟩:=h
 refine⟨_,#[Zg,#[Zy,2,ZbL.nd,(Or.inl rfl),#[Zbg,#[Zc]]],#[Zg,#[Zy,3,ZbL.nd,(Or.inl rfl),‹0›],#[Zg,(@ZdN _ _ _ _ _ _ PassesOwn.never #[Zn,ZfE,#[Zk,(ZaR K),(by rfl),T.b.n_len,Qq,#[Za,‹3›,#[Zc]]],#[Zi],(Zs _)] #[Zg,#[ZaZ,#[ZB,f_halves,hr,#[Za,‹3›,#[Zc]],(by rfl)],#[gT,K,2,#[Zv,#[ZA,4,ZbL.nd],#[Zv,#[ZA,5,ZbL.nd],(@ZaE _)]]]],#[Zj,#[ZZ,#[Zn,(inQ K),‹1›,‹4›,(by with_unfolding_all rfl)],#[Zg,#[ZaO,#[ZcA,QG,QO,QP,Zay,‹2›,#[Za,‹5›,#[Zc]]]],#[Zj,#[Zy,3,ZbL.nd,(Or.inl rfl),‹4›]]],#[Zg,#[ZaO,#[ZcA,QG,QO,QP,Zay,‹2›,#[Za,‹4›,#[Zc]]]],#[Zj,#[Zy,3,ZbL.nd,(Or.inl rfl),‹5›]]]]]]),#[Zg,#[ZaO,(@Zrg _ _ _ _ _ _ _ _ _ QG PySem.F.slot_list_reverse PySem.F.type_list_reverse Zj9 ‹2› (by rfl) (by rfl))],#[Zj,#[Zm,‹2›]]]]]],?_⟩
 refine⟨(by show 0≤sizeLine;decide),fun o hO=>?_⟩
 have nao:a≠o:=Zd hA hO
 refine⟨_,rfl,?_⟩
 refine⟨fun m σ H2=>∃ (b:Addr) (cur:List Int) (ls:List Addr) (v4 v5:Option V),σ=[some (.ref a),some (.int n),some (.ref o),some (.ref b),v4,v5]∧Dn H a o ns n b cur ls H2∧m=cur.length,⟨_,a,ns,[],none,none,rfl,⟨[],?_,nao,h1,h100,rfl,trivial,Zb,Zh hO _,(fun l hl=>by cases hl),(fun hm=>by cases hm),by simpa using h100⟩,rfl⟩,?_⟩
 ·rw[Ze nao];exact hA
 rintro m σ H2 ⟨b,cur,ls,v4,v5,rfl,D,rfl⟩
 obtain⟨done,d1,d2,d3,d4,d5,d6,d7,d8,d9,d10,d11⟩:=id D
 have hlc:(((cur.map V.int).length:Nat):Int)=(cur.length:Int):=by rw[Qa]
 refine⟨_,rfl,b,_,rfl,.inl (SqL.of d1),_,_,rfl,rfl,_,rfl,?_⟩
 refine ZaX (fun c1=>?_) (fun c1=>?_)
 ·have c1':(1:Int)<(((cur.map V.int).length:Nat):Int):=of_decide_eq_true c1
  have hc:1<cur.length:=by omega
  refine⟨_,fun σ' H' h=>h,?_⟩
  refine⟨_,rfl,b,cur,rfl,SqL.of d1,d4,fun t x y H3 ht hx hy nxy et ex ey s3 ntx nty=>?_⟩
  refine⟨t,_,rfl,SqT.of et,rfl,_,_,rfl,_,_,rfl,rfl,?_⟩
  have ho3:=s3 _ _ d7
  have hlt:(ls.map V.ref).length<sizeLine:=by rw[Qa];exact ZH (by clear nty ntx nxy hc d10 d9 d2 nao q h100 h1 c1' hlc d4 d3;omega)
  have sl:=ZeI (n:=n) hc
  refine⟨_,rfl,_,rfl,x,_,rfl,.inl (SqL.of ex),rfl,Zhu _,_,rfl,?_⟩
  show if inV (V.int n) ((Zel cur).map V.int)=true then _ else _
  rw[Zk0]
  refine ZaX (fun c2=>?_) (fun c2=>?_)
  ·have c2':n∈Zel cur:=of_decide_eq_true c2
   have e1:Zb9 cur n=Zel cur:=by unfold Zb9;rw[if_pos c2']
   have e2:Zdc cur n=ZgR cur:=by unfold Zdc;rw[if_pos c2']
   refine⟨_,rfl,.inl ⟨rfl,_,SqL.of ho3⟩,_,rfl,o,_,_,rfl,rfl,ho3,hlt,_,rfl,_,?_,x,Zb9 cur n,ls++[y],_,_,rfl,D.step hO hc s3 (by rw[e1];exact ex) (by rw[e2];exact ey) hx hy,rfl⟩
   exact sl
  ·have c2':¬ n∈Zel cur:=fun z=>c2 (decide_eq_true z)
   have e1:Zb9 cur n=ZgR cur:=by unfold Zb9;rw[if_neg c2']
   have e2:Zdc cur n=Zel cur:=by unfold Zdc;rw[if_neg c2']
   refine⟨_,rfl,.inl ⟨rfl,_,SqL.of ho3⟩,_,rfl,o,_,_,rfl,rfl,ho3,hlt,_,rfl,_,?_,y,Zb9 cur n,ls++[x],_,_,rfl,D.step hO hc s3 (by rw[e1];exact ey) (by rw[e2];exact ex) hy hx,rfl⟩
   exact sl
 ·have c1':¬ (1:Int)<(((cur.map V.int).length:Nat):Int):=fun z=>c1 (decide_eq_true z)
  have e:way ns n=done:=by rw[d5,Zh3 (by omega),QL]
  refine⟨_,rfl,.inl ⟨rfl,_,SqL.of d7⟩,o,_,rfl,rfl,d7,?_⟩
  refine⟨_,rfl,q o ls.reverse _ hO (by rw[Zb,List.map_reverse]) (fun hm=>d10 (Qa0.mp hm)) (fun l hl=>d9 l (Qa0.mp hl)) ?_ fun c u hu=>?_⟩
  ·rw[e]
   refine Rd.mono (fun l hl u hu=>?_) d6.rev
   rw[Ze (fun z=>by subst z;exact d10 (Qa0.mp hl))]
   exact hu
  ·rw[Ze (Zd hu hO)];exact d8 _ _ hu
theorem ZhU:∀ (k:Nat) (M:List Int) (n:Int),M.length≤2 ^ k→(way M n).reverse=(ZY k M n).map (fun X=>Zax X n)
 | 0,M,n,h=>by
  rw[Zh3 (by simpa using h)];rfl
 | k+1,M,n,h=>by
  unfold ZY
  by_cases h2:2≤M.length
  ·rw[if_pos h2,Zjx (by omega),Qaz,Qf]
   have hs:(Zaj M n).length≤2 ^ k:=by
    rw[Nat.pow_succ]at h
    unfold Zaj
    split
    ·unfold lo mid;rw[Qx];omega
    ·unfold up mid;rw[QR];omega
   have e:=ZhU k (Zaj M n) n hs
   rw[← e];rfl
  ·rw[if_neg h2,Zh3 (by omega)];rfl
theorem Zon{M:List Int}(h:2≤M.length)(n:Int):Zax M n≠[]:=by
 unfold Zax
 split
 ·exact Z7 (ZeD h).2
 ·exact Z7 (ZdR h).2
theorem ZkA{M:List Int}(r:Zam M)(h:2≤M.length)(n:Int):ZQ M=(if (Zax M n).headD 0<(Zaj M n).headD 0 then (Zax M n).headD 0 else (Zaj M n).headD 0,if (Zax M n).getLastD 0>(Zaj M n).getLastD 0 then (Zax M n).getLastD 0 else (Zaj M n).getLastD 0):=by
 have a:=Zfa h
 have b:=Zft h
 have l1:=Zcf (Z7 (ZdR h).2)
 have l2:=Zch (Z7 (ZdR h).2)
 have u1:=Zcf (Z7 (ZeD h).2)
 have u2:=Zch (Z7 (ZeD h).2)
 have c:=ZL r l1 u1
 have d:=ZL r l2 u2
 unfold Zaj Zax
 split<;>(refine Prod.ext ?_ ?_<;>dsimp only<;>first|omega|(split<;>omega))
theorem Rd.get{H:Hp}:∀ {ls:List Addr} {ds:List (List Int)},Rd H ls ds→∀ {i:Nat} {l:Addr} {d:List Int},ls[i]? = some l→ds[i]? = some d→H l=some (.lst (d.map V.int))
 | [],[],_,i,l,d,h,_=>by simp at h
 | l::ls,d::ds,⟨h1,h2⟩,0,a,b,e1,e2=>by simp at e1 e2;rw[← e1,← e2];exact h1
 | l::ls,d::ds,⟨h1,h2⟩,i+1,a,b,e1,e2=>Rd.get h2 (by simpa using e1) (by simpa using e2)
noncomputable def ZhO:Sp:=fun vs H Q _=>∃ (a:Addr) (N:List Int) (n:Int),vs=[.ref a,.int n]∧H a=some (.lst (N.map V.int))∧n∈N∧N.length≤60∧Zam N ∧
 ∀ (r:Addr) (ts:List Addr) (H':Hp),H r=none→H' r=some (.lst (ts.map V.ref))→ts.length=(ZY 8 N n).length→(∀ (i:Nat) (t:Addr) (X:List Int),ts[i]? = some t→(ZY 8 N n)[i]? = some X→H' t=some (.tup [.int (ZQ X).1,.int (ZQ X).2]))→ZC H H'→Q (.ref r) H'
theorem Zkx(T:Zaf K mg cRow cMerge)(f_way_up:Df P w K mg base 2 "way_up" ["numbers", "n"] ZmZ):Df P w K mg base 3 "matches_up" ["numbers", "n"] ZhO:=by
 refine T.t_matches_up.df ZaH (fun vs H Q E h=>?_) (fun cdv f A outer s H vs Q E hr h=>?_)
 ·obtain⟨a,N,n,rfl,_⟩:=h
  rfl
 obtain⟨a,N,n,rfl,ha,hn,h60,hup,q⟩:=h
 refine⟨_,#[Zg,#[Zy,2,ZaH.nd,(Or.inl rfl),#[Zbg,#[Zc]]],#[Zg,#[Zy,3,ZaH.nd,(Or.inl rfl),‹1›],#[Zg,#[Zy,4,ZaH.nd,(Or.inl rfl),‹1›],#[Zg,#[Zbt,PassesOwn.never,#[iL,K,#[ZB,f_way_up,hr,#[Za,‹0›,#[Za,‹1›,#[Zc]]],(by rfl)]],#[ZA,5,ZaH.nd],#[Zg,#[Zy,3,ZaH.nd,(Or.inl rfl),#[Zk,(Zeh rfl),(by rfl),T.b.n_min,boot_min,#[Za,‹3›,#[Za,#[Zz,(ixL K),‹5›,#[Zi]],#[Zc]]]]],#[Zg,#[Zy,4,ZaH.nd,(Or.inl rfl),#[Zk,(Zhf rfl),(by rfl),T.b.n_max,boot_max,#[Za,‹4›,#[Za,#[Zz,(ixL K),‹5›,(@ZhS _ _ _ _ _ _ Ze2 #[Zi])],#[Zc]]]]],#[Zj,#[ZaO,#[ZcA,QG,QO,QP,Zay,‹2›,#[Za,#[ZT,#[Za,‹3›,#[Za,‹4›,#[Zc]]]],#[Zc]]]]]]]],#[Zj,#[Zm,‹2›]]]]]],?_⟩
 have hpos:=Q3 hn
 have hpw:N.length≤2 ^ 8:=QJ h60 (by decide)
 obtain⟨cok,ctop,clen⟩:=Zge 8 N n hn hpw
 refine⟨(by show 0≤sizeLine;decide),fun r hr0=>?_⟩
 have s1:=Zh hr0 (.lst [])
 have hr1:(upd H r (.lst [])) r=some (.lst []):=Zb
 generalize upd H r (.lst [])=H1 at s1 hr1 ⊢
 refine⟨_,rfl,_,rfl,_,rfl,_,rfl,a,N,n,rfl,s1 _ _ ha,hpos,by omega,fun wy ls H2 hwy hwy2 hnot hfr hrd s2=>?_⟩
 rw[ZhU 8 N n hpw]at hrd
 have hll:=hrd.len
 rw[Qa]at hll
 have s02:=s1.trans s2
 refine⟨wy,rfl,⟨_,SqL.of hwy2⟩,?_⟩
 refine Zgt (K:=K) (a:=wy) (xs:=ls.map V.ref) (fun i σ H3=>∃ (v5:Option V) (ts:List Addr),σ=[some (.ref a),some (.int n),some (.ref r),some (.int ((low n (ZY 8 N n) i).headD 0)),some (.int ((low n (ZY 8 N n) i).getLastD 0)),v5]∧i≤ls.length∧ts.length=i∧H3 r=some (.lst (ts.map V.ref))∧(∀ (j:Nat) (t:Addr) (X:List Int),ts[j]? = some t→(ZY 8 N n)[j]? = some X→H3 t=some (.tup [.int (ZQ X).1,.int (ZQ X).2]))∧(∀t∈ts,t≠r∧∃xs,H3 t=some (.tup xs))∧(∀b o,H2 b=some o→b≠r→H3 b=some o)) ⟨_,[],rfl,Qv _,rfl,s2 _ _ hr1,(fun j t X h=>by simp at h),(fun t h=>by cases h),fun b o h _=>h⟩ (fun i σ H3 _ hq=>by obtain⟨_,_,_,_,_,_,_,_,k3⟩:=hq;exact SqL.of (k3 _ _ hwy2 (fun z=>by rw[z,hr1]at hwy;cases hwy))) ?_ ?_
 ·rintro i y σ H3 hy ⟨v5,ts,rfl,hi,htl,hr3,hts,htr,k3⟩
  rw[Qi]at hy
  cases hz:ls[i]? with
  | none=>rw[hz]at hy;cases hy
  | some l =>
  rw[hz]at hy
  cases hy
  have hil:i<ls.length:=(Qc.mp hz).1
  cases hX:(ZY 8 N n)[i]? with
  | none=>rw[QaI]at hX;omega
  | some X =>
  obtain⟨x1,x2,x3,x4⟩:=cok i X hX
  have hl2:H2 l=some (.lst ((Zax X n).map V.int)):=hrd.get hz (by rw[Qi,hX];rfl)
  have nlr:l≠r:=fun z=>by rw[z]at hl2;rw[s2 _ _ hr1]at hl2;have:=hfr l (Qo hz);rw[z,hr1]at this;cases this
  have hl3:=k3 _ _ hl2 nlr
  have hne:=Zon x2 n
  have e2:=ZkA (x1.rise hup) x2 n
  rw[x4]at e2
  have e3:low n (ZY 8 N n) (i+1)=X:=by show (ZY 8 N n).getD i []=X;rw[Qk,hX];rfl
  refine⟨_,rfl,_,rfl,xw4 l _ _ _ ⟨rfl,rfl,SqL.of hl3,Zjk hne,_,_,rfl,?_⟩⟩
  refine⟨_,rfl,_,rfl,_,rfl,xw4 l _ _ _ ⟨rfl,rfl,SqL.of hl3,Zjy hne,_,_,rfl,?_⟩⟩
  refine⟨_,rfl,.inl ⟨rfl,_,SqL.of hr3⟩,_,rfl,_,rfl,(by show 2≤sizeLine;decide),fun t ht=>?_⟩
  have nrt:r≠t:=Zd hr3 ht
  refine⟨r,_,_,rfl,rfl,by rw[Ze nrt];exact hr3,(by rw[Qa];exact ZH (by omega)),?_⟩
  refine⟨some (.ref l),ts++[t],?_,hil,by rw[Qe,Qm];omega,by rw[Zb,Qf];rfl,fun j u Y hu hY=>?_,fun u hu=>?_,fun b o hb nb=>?_⟩
  ·rw[e3]
   have h1:=congrArg Prod.fst e2
   have h2:=congrArg Prod.snd e2
   simp only at h1 h2
   rw[show X.headD 0=(ZQ X).1 from rfl,show X.getLastD 0=(ZQ X).2 from rfl,h1,h2]
   rfl
  ·have htuple:∀ (u:Addr) (xs:List V),H3 u=some (.tup xs)→(upd (upd H3 t (.tup [.int (if (Zax X n).headD 0<(low n (ZY 8 N n) i).headD 0 then (Zax X n).headD 0 else (low n (ZY 8 N n) i).headD 0),.int (if (Zax X n).getLastD 0>(low n (ZY 8 N n) i).getLastD 0 then (Zax X n).getLastD 0 else (low n (ZY 8 N n) i).getLastD 0)])) r (.lst (ts.map V.ref++[.ref t]))) u=some (.tup xs):=fun u xs hu=>by
    rw[Ze (fun z=>by rw[z,hr3]at hu;cases hu),Ze (Zd hu ht)];exact hu
   by_cases hj:j<ts.length
   ·rw[QX hj]at hu
    exact htuple u _ (hts j u Y hu hY)
   ·have ej:j=ts.length:=by have:=(Qc.mp hu).1;rw[Qe,Qm]at this;omega
    subst ej
    rw[QW (Qg _),Nat.sub_self]at hu
    cases hu
    rw[htl,hX]at hY
    cases hY
    rw[Ze nrt.symm,Zb,e2]
  ·rcases Qh.mp hu with hu|hu
   ·obtain⟨g1,xs,g2⟩:=htr u hu
    exact⟨g1,xs,by rw[Ze g1,Ze (Zd g2 ht)];exact g2⟩
   ·rw[Qd.mp hu]
    exact⟨nrt.symm,_,by rw[Ze nrt.symm];exact Zb⟩
  ·have:=k3 b o hb nb
   rw[Ze nb,Ze (Zd this ht)];exact this
 ·rintro σ H3 ⟨v5,ts,rfl,_,htl,hr3,hts,_,k3⟩
  rw[Qa]at htl
  exact⟨_,rfl,q r ts H3 hr0 hr3 (by omega) hts (fun b o hb=>k3 b o (s02 b o hb) (Zd hb hr0))⟩
noncomputable def CV(H:Hp)(v:V)(c:Com):Prop:=(c=none∧v=.non)∨∃ (t:Addr) (p:Int×Int),c=some p∧v=.ref t∧H t=some (.tup [.int p.1,.int p.2])
theorem CV.keep{H H':Hp}{v:V}{c:Com}(h:CV H v c)(k:∀t xs,H t=some (.tup xs)→H' t=some (.tup xs)):CV H' v c:=by
 rcases h with h|⟨t,p,h1,h2,h3⟩
 ·exact .inl h
 ·exact .inr ⟨t,p,h1,h2,k _ _ h3⟩
theorem Zol{s:StL}{k:Int×Int}{v0:Option (Addr×Int×Int)}(h:ZU s k=some v0):s.any (fun e=>decide (e.1=k))=true:=List.any_eq_true.mpr ⟨_,ZhL h,decide_eq_true rfl⟩
theorem Zfc{s:StL}{k:Int×Int}{v0 v:Option (Addr×Int×Int)}(h:ZU s k=some v0):(ZcQ s k v).length=s.length:=by
 unfold ZcQ
 rw[if_pos (Zol h),Qa]
noncomputable def AgS(hd:Hd)(z:List Nat)(A B:List Int)(k q:Int):Prop:=∀C k0 q0,Ag hd z C k0 q0→Ag hd z (C++[(A,B)]) (k0+k) (q0+q)
noncomputable def Zll(cR cM:Addr):Sp:=fun vs H Q _=>∃ (m rd sd:Addr) (L:List ZK) (s:StL) (nb li lo:Int) (best:V) (tm:Addr) (v:V) (c:Com) (z:List Nat) (M:List Int) (n:Int),vs=[.ref m,.ref tm,v]∧Zaa cR cM H m rd sd L s nb li lo best∧H tm=some (.tup [.int (ZQ M).1,.int (ZQ M).2])∧CV H v c∧ZiV (hdM L) z (Zaj M n) c ∧
 ((Win (hdM L) (Zax M n) none∧(ZU s (ZQ M)=none∨ZU s (ZQ M)=some none))∨∃t b y,Win (hdM L) (Zax M n) (some b)∧hdM L b=some y∧ZU s (ZQ M)=some (some (t,b,((lcp y z:Nat):Int)))) ∧
 (∀b∈M,∀y,hdM L b=some y→ZJ z y≤0)∧Zam M∧(∀b∈M,b∈ZI L)∧2≤M.length∧n∈M ∧
 ∀ (v':V) (c':Com) (s':StL) (k q:Int) (H':Hp),CV H' v' c'→ZiV (hdM L) z M c'→Zer (hdM L) s' (Zaj M n) (Zax M n) (ZQ M)→(∀j,j≠ZQ M→ZU s' j=ZU s j)→AgS (hdM L) z (Zaj M n) (Zax M n) k q →
  Zaa cR cM H' m rd sd L s' nb (li+k) (lo+q) best→(∀b o,H b=some o→b≠m→b≠sd→H' b=some o)→Q v' H'
theorem ZnF{L:List ZK}(nd:(ZI L).Nodup){b:Int}(hb:b∈ZI L){y:List Nat}(hy:hdM L b=some y):∃e∈L,e.n=b∧∃x,e.ss[e.g]? = some x∧y=cds x:=by
 obtain⟨e,he,rfl⟩:=Zdz hb
 rw[Zev nd he]at hy
 cases hx:e.ss[e.g]? with
 | none=>rw[hx]at hy;cases hy
 | some x=>rw[hx]at hy;cases hy;exact⟨e,he,rfl,x,hx,rfl⟩
theorem Zox(T:Zaf K mg cRow cMerge)(f_Merge_meet:Mf P w K mg base 3 cMerge "meet" ["self", "one", "other", "far"] (Zks cRow cMerge)):Mf P w K mg base 4 cMerge "play_again" ["self", "meeting", "comer"] (Zll cRow cMerge):=by
 refine T.t_Merge_play_again.mf Zal (fun vs H Q E h=>?_) (fun cdv f A outer s H vs Q E hr h=>?_)
 ·obtain⟨m,rd,sd,L,s,nb,li,lo,best,tm,v,c,z,M,n,rfl,_⟩:=h
  rfl
 obtain⟨m,rd,sd,L,s,nb,li,lo',best,tm,v,c,z,M,n,rfl,Mg,htm,hcv,⟨wS,hcf⟩,hst,hge,hup,hin,h2,hn,q⟩:=h
 refine⟨_,#[Zg,#[Zy,3,Zal.nd,(Or.inl rfl),(@Zrv _ _ _ _ _ _ _ _ hr #[Zad,‹0›] ‹1› (by rfl) (by rfl) (by rfl))],#[Zg,#[ZZ,#[Zn,ZdK,‹3›,#[ZaQ],(Zs _)],#[Zj,#[Zm,‹2›]],#[ZD]],#[Zg,#[ZZ,#[Zn,ZdK,‹2›,#[ZaQ],(Zs _)],#[Zg,#[ZaZ,#[ZaQ],#[ZdC,#[Zad,‹0›],‹1›,(Zou hr)]],#[Zj,#[Zm,‹3›]]],#[ZD]],#[Zg,#[ZZ,#[Zn,Zbf,#[Zz,(ixT K),‹2›,#[Zi]],#[Zz,(ixT K),‹3›,#[Zi]],(Zs _)],#[Zg,#[ZaZ,#[ZfB,f_Merge_meet,T.cl_Merge,hr,‹0›,#[Za,#[Zz,(ixT K),‹2›,#[Zi]],#[Za,#[Zz,(ixT K),‹3›,#[Zi]],#[Za,#[Zz,(ixT K),‹2›,#[Zi]],#[Zc]]]]],#[gT,K,3,#[Zv,#[ZA,4,Zal.nd],#[Zv,#[ZA,5,Zal.nd],#[Zv,#[ZA,6,Zal.nd],(@ZaE _)]]]]],#[Zg,#[ZaZ,#[ZT,#[Za,‹5›,#[Za,‹6›,#[Zc]]]],#[ZdC,#[Zad,‹0›],‹1›,(Zou hr)]],#[Zj,#[Zm,#[ZT,#[Za,‹4›,#[Za,#[Zz,(ixT K),‹2›,#[Zi]],#[Zc]]]]]]]],#[ZD]],#[Zg,(@Zd5 _ _ _ _ _ _ _ _ _ _ ‹0› #[Zi] ZiF),#[Zg,#[ZZ,#[Zn,ZfE,#[Zz,(ixT K),‹2›,#[Zi]],#[Zz,(ixT K),‹3›,#[Zi]],(Zs _)],#[Zj,#[Zm,‹2›]],#[ZD]],#[Zg,#[ZaZ,‹2›,#[ZdC,#[Zad,‹0›],‹1›,(Zou hr)]],#[Zj,#[Zm,‹3›]]]]]]]]],?_⟩
 obtain⟨dx,hm⟩:=Mg.ob
 have htm':H tm=some (.tup (([.inl (ZQ M).1,.inl (ZQ M).2]:List Key).map kV)):=htm
 have pm:=Ze9 M n
 have dg:=Zdv.t (k:=[.inl (ZQ M).1,.inl (ZQ M).2]) Mg.stays htm'
 rw[Zjp]at dg
 have sA:∀b∈Zaj M n,b∈M:=fun b hb=>pm.mem_iff.mp (Qs _ hb)
 have sB:∀b∈Zax M n,b∈M:=fun b hb=>pm.mem_iff.mp (Qn _ hb)
 have hno:=ZfZ hup (ZdZ hn)
 have dis:∀a b,a∈Zaj M n→b∈Zax M n→a≠b:=fun a b ha hb e=>by
  subst e
  unfold Zaj Zax at *
  split at ha
  ·rename_i hl;rw[if_pos hl]at hb;have:=ZL hup ha hb;omega
  ·rename_i hl;rw[if_neg hl]at hb;have:=ZL hup hb ha;omega
 refine⟨_,rfl,xw5 m cMerge dx _ _ ⟨rfl,hm,T.cl_Merge,T.na_Merge_stays,ZcN ..,sd,rfl,.inr ⟨_,.inl Mg.stays⟩,_,rfl,_,dg,?_⟩⟩
 rcases hst with⟨wO,hlk⟩|⟨t,b,y,wO,hy,hlk⟩
 ·have ev:((ZU s (ZQ M)).map stV).getD .non=.non:=by rcases hlk with e|e<;>rw[e]<;>rfl
  rw[ev]
  refine⟨_,rfl,rfl,_,rfl,ZgV rfl ⟨_,rfl,q v c s 0 0 H hcv ⟨(Win.left wS wO).perm pm,hcf⟩ ⟨(fun a b x y _ wb _ _=>nomatch wO.one wb),fun _=>hlk⟩ (fun _ _=>rfl) (fun C k0 q0 g=>by rw[QaT,QaT];exact .no g (.inr wO)) (Mg.cast (by omega) (by omega)) (fun b o h _ _=>h)⟩⟩
 have hat:=Mg.ats _ (ZhL hlk) _ rfl
 have e1:((ZU s (ZQ M)).map stV).getD .non=.ref t:=by rw[hlk];rfl
 rw[e1]
 have hsf:=Mg.sfew
 have hsl:(kvS s).length<sizeLine:=by unfold kvS;rw[Qa];exact ZH (by omega)
 refine⟨_,rfl,rfl,_,rfl,Zds (fun z=>nomatch z) ?_⟩
 have hbM:=sB b wO.1
 rcases hcv with⟨rfl,rfl⟩|⟨tc,p,rfl,rfl,htc⟩
 ·refine⟨_,rfl,rfl,_,rfl,ZgV rfl ?_⟩
  refine⟨_,rfl,xw5 m cMerge dx _ _ ⟨rfl,hm,T.cl_Merge,T.na_Merge_stays,ZcN ..,_,rfl,sd,_,rfl,ZgD.t (k:=[.inl (ZQ M).1,.inl (ZQ M).2]) Mg.stays htm' hsl,?_⟩⟩
  rw[show V.non=stV none from rfl,ZfL]
  have hl1:(ZcQ s (ZQ M) none).length≤100:=by rw[Zfc hlk];exact hsf
  have M2:=Mg.put (k:=ZQ M) (v:=none) (fun t ht=>by cases ht) hl1
  have wS':Win (hdM L) (Zaj M n) none:=wS
  refine⟨_,rfl,q (.ref t) (some (b,((lcp y z:Nat):Int))) _ 0 0 _ (.inr ⟨t,_,rfl,rfl,?_⟩) ⟨(Win.right wS' wO).perm pm,fun p hp=>?_⟩ ⟨(fun a b x y wa _ _ _=>nomatch wS'.one wa),fun _=>.inr ?_⟩ (fun j hj=>?_) (fun C k0 q0 g=>?_) (M2.cast (by omega) (by omega)) (fun b o hb _ n2=>by rw[Ze n2];exact hb)⟩
  ·rw[Ze (fun z=>by rw[z,Mg.stays]at hat;cases hat)];exact hat
  ·cases hp;exact⟨y,hy,rfl⟩
  ·rw[Za2,if_pos rfl]
  ·rw[Za2,if_neg hj]
  ·rw[QaT,QaT];exact .no g (.inl wS')
 obtain⟨a,fa⟩:=p
 obtain⟨x,hx,efa⟩:=hcf _ rfl
 simp only at hx efa
 subst efa
 have wS':Win (hdM L) (Zaj M n) (some a):=wS
 have haM:=sA a wS'.1
 have hab:=dis a b wS'.1 wO.1
 obtain⟨ea,hea,rfl,zx,hzx,rfl⟩:=ZnF Mg.nd (hin a haM) hx
 obtain⟨eb,heb,rfl,zy,hzy,rfl⟩:=ZnF Mg.nd (hin b hbM) hy
 have c0:atI [V.int ea.n,.int ((lcp (cds zx) z:Nat):Int)] 0=some (.int ea.n):=ZX (j:=0) rfl
 have c1:atI [V.int ea.n,.int ((lcp (cds zx) z:Nat):Int)] 1=some (.int ((lcp (cds zx) z:Nat):Int)):=ZX (j:=1) rfl
 have d0:atI [V.int eb.n,.int ((lcp (cds zy) z:Nat):Int)] 0=some (.int eb.n):=ZX (j:=0) rfl
 have d1:atI [V.int eb.n,.int ((lcp (cds zy) z:Nat):Int)] 1=some (.int ((lcp (cds zy) z:Nat):Int)):=ZX (j:=1) rfl
 refine⟨_,rfl,rfl,_,rfl,Zds (fun z=>nomatch z) ?_⟩
 refine⟨_,rfl,tc,_,_,_,rfl,rfl,SqT.of htc,c1,_,rfl,xw4 t _ _ _ ⟨rfl,rfl,SqT.of hat,d1,rfl,_,rfl,ZaX (fun d=>?_) (fun d=>?_)⟩⟩
 ·have ef:lcp (cds zx) z=lcp (cds zy) z:=by have:=of_decide_eq_true d;injection this with this;omega
  have hle:=ZqY ef
  refine⟨_,rfl,m,dx,_,rfl,hm,Zgz ..,_,rfl,tc,_,_,_,rfl,rfl,SqT.of htc,c0,_,rfl,xw4 t _ _ _ ⟨rfl,rfl,SqT.of hat,d0,_,rfl,tc,_,_,_,rfl,rfl,SqT.of htc,c1,?_⟩⟩
  refine⟨m,rd,sd,L,s,nb,li,lo',best,ea,eb,zx,zy,lcp (cds zx) z,rfl,Mg,hea,heb,hzx,hzy,hle,fun t5 wi lz H5 hw ht5 ht5' M5 b5=>?_⟩
  refine⟨t5,_,rfl,SqT.of ht5',rfl,_,_,rfl,_,_,rfl,_,_,rfl,rfl,?_⟩
  have sz2:2≤sizeLine:=by decide
  refine⟨_,rfl,_,rfl,sz2,fun t6 ht6=>?_⟩
  have s6:=Zh ht6 (.tup [.int lz,.int ((lcp (cds zx) (cds zy):Nat):Int)])
  have ht66:(upd H5 t6 (.tup [.int lz,.int ((lcp (cds zx) (cds zy):Nat):Int)])) t6=some (.tup [.int lz,.int ((lcp (cds zx) (cds zy):Nat):Int)]):=Zb
  have M6:=M5.same s6
  generalize upd H5 t6 (.tup [.int lz,.int ((lcp (cds zx) (cds zy):Nat):Int)])=H6 at s6 ht66 M6 ⊢
  obtain⟨dx6,hm6⟩:=M6.ob
  have ntm:tm≠m:=fun z=>by rw[z,hm]at htm;cases htm
  have ntc:tc≠m:=fun z=>by rw[z,hm]at htc;cases htc
  have htm6:H6 tm=some (.tup (([.inl (ZQ M).1,.inl (ZQ M).2]:List Key).map kV)):=s6 _ _ (b5 _ _ htm' ntm)
  refine⟨_,rfl,xw5 m cMerge dx6 _ _ ⟨rfl,hm6,T.cl_Merge,T.na_Merge_stays,ZcN ..,_,rfl,sd,_,rfl,ZgD.t (k:=[.inl (ZQ M).1,.inl (ZQ M).2]) M6.stays htm6 hsl,?_⟩⟩
  rw[show V.ref t6=stV (some (t6,lz,((lcp (cds zx) (cds zy):Nat):Int))) from rfl,ZfL]
  have hl1:(ZcQ s (ZQ M) (some (t6,lz,((lcp (cds zx) (cds zy):Nat):Int)))).length≤100:=by rw[Zfc hlk];exact hsf
  have M7:=M6.put (k:=ZQ M) (v:=some (t6,lz,((lcp (cds zx) (cds zy):Nat):Int))) (fun t ht=>by injection ht with ht;rw[← ht];exact ht66) hl1
  have b7:∀b o,H b=some o→b≠m→b≠sd→(upd H6 sd (.dT (kvS (ZcQ s (ZQ M) (some (t6,lz,((lcp (cds zx) (cds zy):Nat):Int))))))) b=some o:=fun b o hb n1 n2=>by rw[Ze n2];exact s6 _ _ (b5 b o hb n1)
  have ntcs:tc≠sd:=fun z=>by rw[z,Mg.stays]at htc;cases htc
  generalize upd H6 sd (.dT (kvS (ZcQ s (ZQ M) (some (t6,lz,((lcp (cds zx) (cds zy):Nat):Int))))))=H7 at M7 b7 ⊢
  refine⟨_,rfl,_,rfl,tc,_,_,_,rfl,rfl,SqT.of (b7 _ _ htc ntc ntcs),c1,sz2,fun t8 ht8=>?_⟩
  have wn:Win (hdM L) M (some wi):=by
   rcases hw with⟨w0,rfl,_⟩|⟨w0,rfl,_⟩
   ·exact(Win.both wS' wO hx hy w0).perm pm
   ·exact(Win.both' wS' wO hx hy ((Btr.total hab).resolve_left w0)).perm pm
  refine q (.ref t8) (some (wi,((lcp (cds zx) z:Nat):Int))) _ 1 ((lcp (cds zx) (cds zy):Nat)-(lcp (cds zx) z:Nat)+1) _ (.inr ⟨t8,_,rfl,rfl,Zb⟩) ⟨wn,fun p hp=>?_⟩ ⟨fun a b x' y' wa wb hxa hyb=>?_,fun hno=>?_⟩ (fun j hj=>by rw[Za2,if_neg hj]) (fun C k0 q0 g=>.eq g wS' wO hx hy ef) ((M7.same (Zh ht8 _)).cast rfl rfl) (fun b o hb n1 n2=>Zh ht8 _ _ _ (b7 b o hb n1 n2))
  ·cases hp
   rcases hw with⟨w0,rfl,_⟩|⟨w0,rfl,_⟩
   ·exact⟨_,hx,rfl⟩
   ·exact⟨_,hy,by simp only;rw[ef]⟩
  ·have e1:=Qr (wa.one wS')
   have e2:=Qr (wb.one wO)
   subst e1
   subst e2
   have e3:=Qr (hxa.symm.trans hx)
   have e4:=Qr (hyb.symm.trans hy)
   subst e3
   subst e4
   refine⟨t6,lz,by rw[Za2,if_pos rfl],?_⟩
   rcases hw with⟨w0,_,rfl⟩|⟨w0,_,rfl⟩
   ·exact .inl ⟨w0,rfl⟩
   ·exact .inr ⟨(Btr.total hab).resolve_left w0,rfl⟩
  ·rcases hno with z|z
   ·exact nomatch z.one wS'
   ·exact nomatch z.one wO
 have nef:lcp (cds zx) z≠lcp (cds zy) z:=fun e=>d (decide_eq_true (by rw[e]))
 refine⟨_,rfl,xw5 m cMerge dx _ _ ⟨rfl,hm,T.cl_Merge,T.na_Merge_likened,ZfD ..,_,_,rfl,rfl,dx,_,hm,Zcz ..,?_⟩⟩
 rw[Zdr]
 have M2:=Mg.obj (nb':=nb) (li':=li+1) (lo':=lo') (best':=best) (dx:=dx)
 have k2:∀b o,H b=some o→b≠m→(upd H m (.ins cMerge dx (mgF rd nb (li+1) lo' sd best))) b=some o:=fun b o hb n=>by rw[Ze n];exact hb
 have ntc:tc≠m:=fun z=>by rw[z,hm]at htc;cases htc
 have ntt:t≠m:=fun z=>by rw[z,hm]at hat;cases hat
 have ntm:tm≠m:=fun z=>by rw[z,hm]at htm;cases htm
 generalize upd H m (.ins cMerge dx (mgF rd nb (li+1) lo' sd best))=H2 at M2 k2 ⊢
 have htc2:=k2 _ _ htc ntc
 have hat2:=k2 _ _ hat ntt
 refine⟨_,rfl,tc,_,_,_,rfl,rfl,SqT.of htc2,c1,_,rfl,xw4 t _ _ _ ⟨rfl,rfl,SqT.of hat2,d1,_,_,rfl,rfl,_,rfl,ZaX (fun g=>?_) (fun g=>?_)⟩⟩
 ·have hgt:lcp (cds zy) z<lcp (cds zx) z:=by have:((lcp (cds zy) z:Nat):Int)<((lcp (cds zx) z:Nat):Int):=of_decide_eq_true g;omega
  obtain⟨bt,el⟩:=ZjK (a:=ea.n) (b:=eb.n) hgt (hge _ hbM _ hy)
  refine⟨_,rfl,q (.ref tc) (some (ea.n,((lcp (cds zx) z:Nat):Int))) s 1 0 H2 (.inr ⟨tc,_,rfl,rfl,htc2⟩) ⟨(Win.both wS' wO hx hy bt).perm pm,fun p hp=>by cases hp;exact⟨_,hx,rfl⟩⟩ ⟨fun a b x' y' wa wb hxa hyb=>?_,fun hno=>?_⟩ (fun _ _=>rfl) (fun C k0 q0 g=>by rw[QaT];exact .ne g wS' wO hx hy nef) (M2.cast rfl (by omega)) (fun b o hb n1 _=>k2 b o hb n1)⟩
  ·have e1:=Qr (wa.one wS')
   have e2:=Qr (wb.one wO)
   subst e1
   subst e2
   have e3:=Qr (hxa.symm.trans hx)
   have e4:=Qr (hyb.symm.trans hy)
   subst e3
   subst e4
   exact⟨t,_,by rw[el];exact hlk,.inl ⟨bt,rfl⟩⟩
  ·rcases hno with z|z
   ·exact nomatch z.one wS'
   ·exact nomatch z.one wO
 ·have hlt:lcp (cds zx) z<lcp (cds zy) z:=by
   have:¬ ((lcp (cds zy) z:Nat):Int)<((lcp (cds zx) z:Nat):Int):=fun e=>g (decide_eq_true e)
   omega
  obtain⟨bt,el⟩:=ZjK (a:=eb.n) (b:=ea.n) hlt (hge _ haM _ hx)
  obtain⟨dx2,hm2⟩:=M2.ob
  have htm2:H2 tm=some (.tup (([.inl (ZQ M).1,.inl (ZQ M).2]:List Key).map kV)):=k2 _ _ htm' ntm
  refine⟨_,rfl,_,rfl,xw5 m cMerge dx2 _ _ ⟨rfl,hm2,T.cl_Merge,T.na_Merge_stays,ZcN ..,_,rfl,sd,_,rfl,ZgD.t (k:=[.inl (ZQ M).1,.inl (ZQ M).2]) M2.stays htm2 hsl,?_⟩⟩
  rw[show V.ref tc=stV (some (tc,ea.n,((lcp (cds zx) z:Nat):Int))) from rfl,ZfL]
  have hl1:(ZcQ s (ZQ M) (some (tc,ea.n,((lcp (cds zx) z:Nat):Int)))).length≤100:=by rw[Zfc hlk];exact hsf
  have M3:=M2.put (k:=ZQ M) (v:=some (tc,ea.n,((lcp (cds zx) z:Nat):Int))) (fun t ht=>by injection ht with ht;rw[← ht];exact htc2) hl1
  refine⟨_,rfl,q (.ref t) (some (eb.n,((lcp (cds zy) z:Nat):Int))) _ 1 0 _ (.inr ⟨t,_,rfl,rfl,?_⟩) ⟨(Win.both' wS' wO hx hy bt).perm pm,fun p hp=>by cases hp;exact⟨_,hy,rfl⟩⟩ ⟨fun a b x' y' wa wb hxa hyb=>?_,fun hno=>?_⟩ (fun j hj=>by rw[Za2,if_neg hj]) (fun C k0 q0 g=>by rw[QaT];exact .ne g wS' wO hx hy nef) (M3.cast rfl (by omega)) (fun b o hb n1 n2=>by rw[Ze n2];exact k2 b o hb n1)⟩
  ·rw[Ze (fun z=>by rw[z,M2.stays]at hat2;cases hat2)];exact hat2
  ·have e1:=Qr (wa.one wS')
   have e2:=Qr (wb.one wO)
   subst e1
   subst e2
   have e3:=Qr (hxa.symm.trans hx)
   have e4:=Qr (hyb.symm.trans hy)
   subst e3
   subst e4
   exact⟨tc,_,by rw[Za2,if_pos rfl,Zcq (cds zx) (cds zy),el],.inr ⟨bt,rfl⟩⟩
  ·rcases hno with z|z
   ·exact nomatch z.one wS'
   ·exact nomatch z.one wO
noncomputable def ZcS(n:Int)(e:ZK):ZK:=if e.n=n then ⟨e.n,e.p,e.k,e.f,e.ss,e.g+1⟩ else e
noncomputable def bump(L:List ZK)(n:Int):List ZK:=L.map (ZcS n)
theorem Zdb(n:Int)(e:ZK):(ZcS n e).n=e.n∧(ZcS n e).p=e.p∧(ZcS n e).k=e.k∧(ZcS n e).f=e.f∧(ZcS n e).ss=e.ss:=by unfold ZcS;split<;>exact⟨rfl,rfl,rfl,rfl,rfl⟩
theorem ZeQ{n:Int}{e:ZK}(h:e.n=n):ZcS n e=⟨e.n,e.p,e.k,e.f,e.ss,e.g+1⟩:=if_pos h
theorem Zf9{n:Int}{e:ZK}(h:¬ e.n=n):ZcS n e=e:=if_neg h
theorem Zce(L:List ZK)(n:Int):ZI (bump L n)=ZI L:=by
 unfold ZI bump
 rw[QB]
 exact QM fun e _=>(Zdb n e).1
theorem Zp5(L:List ZK)(n:Int):(bump L n).map (·.p)=L.map (·.p):=by
 unfold bump
 rw[QB]
 exact QM fun e _=>(Zdb n e).2.1
theorem Znl(L:List ZK)(n:Int):kvM (bump L n)=kvM L:=by
 unfold kvM bump
 rw[QB]
 refine QM fun e _=>?_
 simp only[Function.comp]
 rw[(Zdb n e).1,(Zdb n e).2.1]
theorem Zp9{m rd sd:Addr}{L:List ZK}{n:Int}{b:Addr}(h:Fp m rd sd (bump L n) b):Fp m rd sd L b:=by
 rcases h with h|h|h|⟨e',he',h⟩
 ·exact .inl h
 ·exact .inr (.inl h)
 ·exact .inr (.inr (.inl h))
 ·obtain⟨e,he,rfl⟩:=Qw.mp he'
  obtain⟨_,h1,h2,h3,_⟩:=Zdb n e
  rw[h1,h2,h3]at h
  exact .inr (.inr (.inr ⟨e,he,h⟩))
theorem Fp_bump'{m rd sd:Addr}{L:List ZK}{n:Int}{b:Addr}(h:Fp m rd sd L b):Fp m rd sd (bump L n) b:=by
 rcases h with h|h|h|⟨e,he,h⟩
 ·exact .inl h
 ·exact .inr (.inl h)
 ·exact .inr (.inr (.inl h))
 ·obtain⟨_,h1,h2,h3,_⟩:=Zdb n e
  refine .inr (.inr (.inr ⟨ZcS n e,Qp he,?_⟩))
  rw[h1,h2,h3]
  exact h
theorem Zlk{n b:Int}(h:b≠n):∀L:List ZK,hdM (bump L n) b=hdM L b
 | []=>rfl
 | e::L=>by
  have ih:=Zlk h L
  unfold hdM hdL bump at ih ⊢
  rw[Ql,Ql,Ql,Qao,Qao]
  have e1:(toL (ZcS n e)).1=e.n:=(Zdb n e).1
  rw[e1]
  by_cases he:e.n=b
  ·rw[decide_eq_true he,decide_eq_true (show (toL e).1=b from he),Zf9 (fun z=>h (he.symm.trans z))]
  ·rw[decide_eq_false he,decide_eq_false (show ¬ (toL e).1=b from he)]
   exact ih
theorem ZjU{L:List ZK}(nd:(ZI L).Nodup){e:ZK}(he:e∈L):hdM (bump L e.n) e.n=(e.ss[e.g+1]?).map cds:=by
 have hm:ZcS e.n e∈bump L e.n:=Qp he
 rw[ZeQ rfl]at hm
 exact Zev (L:=bump L e.n) (by rw[Zce];exact nd) hm
theorem Zfj(k f:Addr)(g:Int):ZcW k f g=([("all_keys",.ref k),("fars",.ref f),("gone",.int g)]:List (Str×V)):=by
 unfold ZcW
 rw[ZbB,Zu nFK,ZbB,Zu nGK,Zu nGF,ZbB]
theorem Zg0(k f:Addr)(g v:Int):Zr "gone" (.int v) (ZcW k f g)=ZcW k f v:=by
 rw[Zfj,Zfj,Zu nGK,Zu nGF,ZdO]
theorem Zof(k f:Addr)(g:Int):(ZcW k f g).length<1000:=by rw[Zfj];show 3<1000;decide
theorem ZlV(k f:Addr)(g:Int):(ZcW k f g).lookup ("fars" : Str)=some (.ref f):=by
 unfold ZcW
 rw[Zo,if_neg nGF,Zo,if_pos rfl]
theorem Zr0{L:List ZK}(pd:(L.map (·.p)).Nodup){e e':ZK}(he:e∈L)(he':e'∈L)(h:e.p=e'.p):e=e':=by
 have n2:((L.map fun x=>(x.p,x)).map (·.1)).Nodup:=by rw[QB];exact pd
 have:=Zdm n2 (Qp (f:=fun x:ZK=>(x.p,x)) he) (Qp (f:=fun x:ZK=>(x.p,x)) he') h
 injection this
theorem Zaa.bump{cR cM:Addr}{H:Hp}{m rd sd:Addr}{L:List ZK}{s:StL}{nb li lo:Int}{best:V}(M:Zaa cR cM H m rd sd L s nb li lo best){e:ZK}(he:e∈L)(hg:e.g<e.ss.length){dp:Addr} :
  Zaa cR cM (upd H e.p (.ins cR dp (ZcW e.k e.f ((e.g+1:Nat):Int)))) m rd sd (My.bump L e.n) s nb li lo best:=by
 obtain⟨dm,hm⟩:=M.ob
 obtain⟨dq,hp⟩:=(M.each e he).at'.ob
 obtain⟨n1,_,_⟩:=M.ne_p he
 obtain⟨n2,_,_,n3,_,_⟩:=M.ne_sd he
 refine⟨⟨dm,by rw[Ze n1];exact hm⟩,by rw[Ze n3,Znl];exact M.rows,by rw[Ze n2];exact M.stays,fun x hx t ht=>?_,fun e' he'=>?_,by rw[Zce];exact M.up,by rw[Zp5];exact M.pd,by unfold My.bump;rw[Qa];exact M.few,M.sfew⟩
 ·have:=M.ats x hx t ht
  rw[Ze (fun z=>by rw[z,hp]at this;cases this)];exact this
 ·obtain⟨x,hx,rfl⟩:=Qw.mp he'
  have R:=M.each x hx
  have kne:∀ {y:ZK},y∈L→y.k≠e.p∧y.f≠e.p:=fun {y} hy=>by
   have Ry:=M.each y hy
   exact⟨(fun z=>by have:=Ry.at'.ks;rw[z,hp]at this;cases this),(fun z=>by have:=Ry.at'.fs;rw[z,hp]at this;cases this)⟩
  obtain⟨k1,k2⟩:=kne hx
  by_cases hn:x.n=e.n
  ·have ex:x=e:=by
    have n2:((L.map fun x=>(x.n,x)).map (·.1)).Nodup:=by rw[QB];exact M.nd
    have:=Zdm n2 (Qp (f:=fun x:ZK=>(x.n,x)) hx) (Qp (f:=fun x:ZK=>(x.n,x)) he) hn
    injection this
   subst ex
   rw[ZeQ rfl]
   exact⟨⟨⟨dp,Zb⟩,by show (upd H x.p _) x.k=_;rw[Ze k1];exact R.at'.ks,by show (upd H x.p _) x.f=_;rw[Ze k2];exact R.at'.fs⟩,hg,R.len,R.srt,R.str⟩
  ·rw[Zf9 hn]
   exact R.keep (Ze (fun z=>hn (by rw[Zr0 M.pd hx he z]))) (Ze k1) (Ze k2)
theorem Zsd{L:List ZK}{e:ZK}{x:Str}(nd:(ZI L).Nodup)(up:Zam (ZI L))(he:e∈L)(hx:e.ss[e.g]? = some x)(srt:sortedS e.ss=true)(W:Win (hdM L) (ZI L) (some e.n)):Tk (hdM L) (hdM (bump L e.n)) (ZI L) e.n (cds x):=by
 refine⟨W,by rw[Zev nd he,hx];rfl,fun b hb=>Zlk hb L,fun y hy=>?_,up⟩
 rw[ZjU nd he]at hy
 cases hz:e.ss[e.g+1]? with
 | none=>rw[hz]at hy;cases hy
 | some y'=>rw[hz]at hy;cases hy;exact Zh0 srt e.g x y' hx hz
theorem Zre{c:Bool}{e1 e2:VK→Prop}{Q:VK}(P:V→Hp→Prop)(h1:c=true→∀Q':VK,(∀v H,P v H→Q' v H)→e1 Q')(h2:c=false→∀Q':VK,(∀v H,P v H→Q' v H)→e2 Q')(q:∀v H,P v H→Q v H):if c=true then e1 Q else e2 Q:=by
 cases c with
 | true=>rw[if_pos rfl];exact h1 rfl Q q
 | false=>rw[if_neg (by decide)];exact h2 rfl Q q
noncomputable def ZeL(n:Int)(C:List (List Int)):List (List Int×List Int):=C.map fun X=>(Zaj X n,Zax X n)
theorem Zju(rd:Addr)(nb li lo:Int)(sd:Addr)(best:V):(mgF rd nb li lo sd best).lookup ("play_again" : Str)=none:=Zdj _ _ _ _ _ _ (by ac_rfl) (by ac_rfl) (by ac_rfl) (by ac_rfl) (by ac_rfl) (by ac_rfl)
noncomputable def ZnE(cR cM:Addr):Sp:=fun vs H Q _=>∃ (m rd sd:Addr) (L:List ZK) (s:StL) (nb li lo:Int) (best:V) (e:ZK) (x:Str),vs=[.ref m,.int e.n]∧Zaa cR cM H m rd sd L s nb li lo best∧e∈L∧e.ss[e.g]? = some x∧Win (hdM L) (ZI L) (some e.n)∧Z6 (hdM L) s (ZI L) ∧
 ∀ (s':StL) (w':Option Int) (k q:Int) (H':Hp),Zaa cR cM H' m rd sd (bump L e.n) s' nb (li+k) (lo+q) (Zff w')→Win (hdM (bump L e.n)) (ZI L) w'→Z6 (hdM (bump L e.n)) s' (ZI L)→Ag (hdM (bump L e.n)) (cds x) (ZeL e.n (ZY 8 (ZI L) e.n)) k q→(∀b o,H b=some o→¬ Fp m rd sd L b→H' b=some o)→Q .non H'
theorem ZoV(T:Zaf K mg cRow cMerge)(f_Row_head:Mf P w K mg base 2 cRow "head" ["self"] (Zgf cRow))(f_matches_up:Df P w K mg base 3 "matches_up" ["numbers", "n"] ZhO)(f_Merge_play_again:Mf P w K mg base 4 cMerge "play_again" ["self", "meeting", "comer"] (Zll cRow cMerge)):Mf P w K mg base 5 cMerge "send_out" ["self", "number"] (ZnE cRow cMerge):=by
 refine T.t_Merge_send_out.mf ZaB (fun vs H Q E h=>?_) (fun cdv f A outer s H vs Q E hr h=>?_)
 ·obtain⟨m,rd,sd,L,s,nb,li,lo,best,e,x,rfl,_⟩:=h
  rfl
 obtain⟨m,rd,sd,L,s,nb,li,lo',best,e,x,rfl,M,he,hx,W,ok,q⟩:=h
 refine⟨_,#[Zg,#[Zy,2,ZaB.nd,(Or.inl rfl),#[Zz,(ixG hr),#[Zad,‹0›],‹1›]],#[Zg,(@Zd5 _ _ _ _ _ _ _ _ _ _ ‹2› #[Zi] ZiF),#[Zg,#[Zy,3,ZaB.nd,(Or.inl rfl),#[Zbq,#[Zn,ZdK,#[Zde,f_Row_head,T.cl_Row,hr,‹2›],#[ZaQ],(Zs _)],#[ZaQ],#[ZT,#[Za,‹1›,#[Za,#[Zz,(ixL K),#[Zad,‹2›],#[Zad,‹2›]],#[Zc]]]]]],#[Zg,#[Zbt,PassesOwn.never,#[iL,K,#[ZB,f_matches_up,hr,#[Za,#[Z4,ZsD,T.b.n_list,boot_list,#[Za,#[Zad,‹0›],#[Zc]]],#[Za,‹1›,#[Zc]]],(by rfl)]],#[ZA,4,ZaB.nd],#[Zj,#[Zy,3,ZaB.nd,(Or.inl rfl),#[ZfB,f_Merge_play_again,T.cl_Merge,hr,‹0›,#[Za,‹4›,#[Za,‹3›,#[Zc]]]]]]],#[Zj,#[Zb6,‹0›,#[Zbq,#[Zn,ZdK,‹3›,#[ZaQ],(Zs _)],#[ZaQ],#[Zz,(ixT K),‹3›,#[Zi]]]]]]]]],?_⟩
 obtain⟨dx,hm⟩:=M.ob
 have R:=M.each e he
 obtain⟨dp,hp⟩:=R.at'.ob
 have hg:e.g<e.ss.length:=(Qc.mp hx).1
 have tk:=Zsd M.nd M.up he hx R.srt W
 refine⟨_,rfl,xw5 m cMerge dx _ _ ⟨rfl,hm,T.cl_Merge,T.na_Merge_rows,ZbZ ..,_,rfl,rd,_,rfl,Zdv.k' (k:=.inl e.n) M.rows (Zgr M.nd he),?_⟩⟩
 refine⟨_,rfl,e.p,cRow,dp,_,_,rfl,hp,T.cl_Row,T.na_Row_gone,ZcJ ..,_,_,rfl,rfl,dp,_,hp,Zof ..,?_⟩
 rw[Zg0,show ((e.g:Int)+1)=((e.g+1:Nat):Int) by omega]
 have M1:=M.bump he hg (dp:=dp)
 have hp1:(upd H e.p (.ins cRow dp (ZcW e.k e.f ((e.g+1:Nat):Int)))) e.p=some (.ins cRow dp (ZcW e.k e.f ((e.g+1:Nat):Int))):=Zb
 have k1:∀b o,H b=some o→b≠e.p→(upd H e.p (.ins cRow dp (ZcW e.k e.f ((e.g+1:Nat):Int)))) b=some o:=fun b o hb n=>by rw[Ze n];exact hb
 generalize upd H e.p (.ins cRow dp (ZcW e.k e.f ((e.g+1:Nat):Int)))=H1 at M1 hp1 k1 ⊢
 have hm':(⟨e.n,e.p,e.k,e.f,e.ss,e.g+1⟩:ZK)∈bump L e.n:=by
  have:ZcS e.n e∈bump L e.n:=Qp he
  rwa [ZeQ rfl]at this
 have R1:=M1.each _ hm'
 have keep1:∀ {H2:Hp},(∀b o,H1 b=some o→b≠m→b≠sd→H2 b=some o)→∀b o,H b=some o→¬ Fp m rd sd L b→H2 b=some o:=fun {H2} k b o hb nf =>
  k b o (k1 b o hb fun z=>nf (.inr (.inr (.inr ⟨e,he,.inl z⟩)))) (fun z=>nf (.inl z)) (fun z=>nf (.inr (.inr (.inl z))))
 have hpos:e.n∈ZI L:=W.1
 have h60:(ZI L).length≤60:=by unfold ZI;rw[Qa];exact M.few
 have hpw:(ZI L).length≤2 ^ 8:=QJ h60 (by decide)
 obtain⟨cok,ctop,clen⟩:=Zge 8 (ZI L) e.n hpos hpw
 have hgo:hdM (bump L e.n) e.n=(e.ss[e.g+1]?).map cds:=ZjU M.nd he
 have hdd:∀ (c:Com),(c=none∧e.ss[e.g+1]? = none)∨(∃y,e.ss[e.g+1]? = some y∧c=some (e.n,((lcp (cds y) (cds x):Nat):Int)))→ZiV (hdM (bump L e.n)) (cds x) [e.n] c:=fun c hc=>by
  have hw:=Win.sing (hd:=hdM (bump L e.n)) (n:=e.n)
  rcases hc with⟨rfl,hn⟩|⟨y,hy,rfl⟩
  ·rw[hgo,hn]at hw
   exact⟨hw,fun p hp=>by cases hp⟩
  ·rw[hgo,hy]at hw
   exact⟨hw,fun p hp=>by cases hp;exact⟨cds y,by rw[hgo,hy];rfl,rfl⟩⟩
 refine⟨_,rfl,e.p,dp,_,rfl,hp1,Zb4 ..,e.p,e.k,e.f,e.ss,e.g+1,rfl,R1.at',rfl,_,rfl,?_⟩
 rw[ZmK]
 refine Zre (fun v H2=>ZC H1 H2∧∃c,CV H2 v c∧ZiV (hdM (bump L e.n)) (cds x) [e.n] c) (fun d Q' hq=>?_) (fun d Q' hq=>?_) (fun v H2 ⟨s2,c,hcv,hok⟩=>?_)
 ·have hn:e.ss[e.g+1]? = none:=by
   have:=of_decide_eq_true d
   cases hy:e.ss[e.g+1]? with
   | none=>rfl
   | some y=>rw[hy]at this;cases this
  exact hq _ _ ⟨ZC.refl _,none,.inl ⟨rfl,rfl⟩,hdd none (.inl ⟨rfl,hn⟩)⟩
 ·obtain⟨y,hy⟩:∃y,e.ss[e.g+1]? = some y:=by
   cases hy:e.ss[e.g+1]? with
   | none=>rw[hy]at d;exact absurd rfl (of_decide_eq_false d)
   | some y=>exact⟨y,rfl⟩
  have hyl:e.g+1<e.ss.length:=(Qc.mp hy).1
  have hal:Zc2 e.ss (e.g+1)=((lcp (cds y) (cds x):Nat):Int):=by
   unfold Zc2
   rw[if_neg (by omega),Qax,Qk,Qk,hx,hy,Zcq]
   rfl
  have hat:atI ((List.range e.ss.length).map fun j=>V.int (Zc2 e.ss j)) ((e.g+1:Nat):Int)=some (.int ((lcp (cds y) (cds x):Nat):Int)):=ZX (by rw[Qi,Qak hyl,← hal];rfl)
  refine⟨_,rfl,_,rfl,e.p,cRow,dp,_,_,rfl,hp1,T.cl_Row,T.na_Row_fars,ZlV ..,_,rfl,e.p,cRow,dp,_,_,rfl,hp1,T.cl_Row,T.na_Row_gone,ZcJ ..,xw4 e.f _ _ _ ⟨rfl,rfl,SqL.of R1.at'.fs,hat,(by show 2≤sizeLine;decide),fun tc htc=>?_⟩⟩
  exact hq _ _ ⟨Zh htc _,some (e.n,((lcp (cds y) (cds x):Nat):Int)),.inr ⟨tc,_,rfl,rfl,Zb⟩,hdd _ (.inr ⟨y,hy,rfl⟩)⟩
 have M2:=M1.same s2
 obtain⟨dx2,hm2⟩:=M2.ob
 refine⟨_,rfl,xw5 m cMerge dx2 _ _ ⟨rfl,hm2,T.cl_Merge,T.na_Merge_rows,ZbZ ..,rd,_,rfl,M2.rows,fun l hl=>?_⟩⟩
 rw[ZmN,Zce]
 have s3:=s2.trans (Zh hl (.lst ((ZI L).map V.int)))
 have hl3:(upd H2 l (.lst ((ZI L).map V.int))) l=some (.lst ((ZI L).map V.int)):=Zb
 have hcv3:CV (upd H2 l (.lst ((ZI L).map V.int))) v c:=hcv.keep fun t xs ht=>Zh hl _ _ _ ht
 generalize upd H2 l (.lst ((ZI L).map V.int))=H3 at s3 hl3 hcv3 ⊢
 refine⟨_,rfl,l,ZI L,e.n,rfl,hl3,hpos,h60,M.up,fun r ts H4 hr0 hr4 htl hts s4=>?_⟩
 have s14:=s3.trans s4
 have M4:=M1.same s14
 have hcv4:CV H4 v c:=hcv3.keep fun t xs ht=>s4 _ _ ht
 refine⟨r,rfl,⟨_,SqL.of hr4⟩,?_⟩
 obtain⟨dm4,hm4⟩:=M4.ob
 obtain⟨dm1,hm1⟩:=M1.ob
 have nrm:r≠m:=(Zd (s3 _ _ hm1) hr0).symm
 have nrs:r≠sd:=(Zd (s3 _ _ M1.stays) hr0).symm
 refine Zgt (K:=K) (a:=r) (xs:=ts.map V.ref) (fun i σ H5=>∃ (v':V) (c':Com) (s':StL) (k q':Int) (v4:Option V),σ=[some (.ref m),some (.int e.n),some (.ref e.p),some v',v4]∧i≤ts.length∧CV H5 v' c'∧ZiV (hdM (bump L e.n)) (cds x) (low e.n (ZY 8 (ZI L) e.n) i) c'∧Zaa cRow cMerge H5 m rd sd (bump L e.n) s' nb (li+k) (lo'+q') best∧Z6 (hdM (bump L e.n)) s' (low e.n (ZY 8 (ZI L) e.n) i)∧(∀j,¬ Kys (low e.n (ZY 8 (ZI L) e.n) i) j→ZU s' j=ZU s j)∧Ag (hdM (bump L e.n)) (cds x) (ZeL e.n ((ZY 8 (ZI L) e.n).take i)) k q'∧(∀b o,H4 b=some o→b≠m→b≠sd→H5 b=some o)) ?_ (fun i σ H5 _ hq=>by obtain⟨_,_,_,_,_,_,_,_,_,_,_,_,_,_,k5⟩:=hq;exact SqL.of (k5 _ _ hr4 nrm nrs)) ?_ ?_
 ·refine⟨v,c,s,0,0,_,rfl,Qv _,hcv4,hok,M4.cast (by omega) (by omega),fun X hX h2=>?_,fun _ _=>rfl,.nil,fun b o h _ _=>h⟩
  have:=Zfk hX
  rcases this with rfl|⟨g,_⟩
  ·exact absurd h2 (by show ¬ 2≤1;decide)
  ·exact absurd g (by show ¬ 2≤1;decide)
 ·rintro i y σ H5 hy ⟨v',c',s',k,q',v4,rfl,hi,hcv5,hok5,M5,nok,hlk,ag,k5⟩
  rw[Qi]at hy
  cases hz:ts[i]? with
  | none=>rw[hz]at hy;cases hy
  | some t =>
  rw[hz]at hy
  cases hy
  have hil:i<ts.length:=(Qc.mp hz).1
  cases hX:(ZY 8 (ZI L) e.n)[i]? with
  | none=>rw[QaI]at hX;omega
  | some X =>
  obtain⟨x1,x2,x3,x4⟩:=cok i X hX
  have hup:=x1.rise M.up
  have e3:low e.n (ZY 8 (ZI L) e.n) (i+1)=X:=by show (ZY 8 (ZI L) e.n).getD i []=X;rw[Qk,hX];rfl
  have ht5:H5 t=some (.tup [.int (ZQ X).1,.int (ZQ X).2]):=k5 _ _ (hts i t X hz hX) (fun z=>by have:=hts i t X hz hX;rw[z,hm4]at this;cases this) (fun z=>by have:=hts i t X hz hX;rw[z,M4.stays]at this;cases this)
  obtain⟨dm5,hm5⟩:=M5.ob
  rw[← x4]at hok5 nok hlk
  have was:=Zm5 tk x1 x2 x3 ok
  have hkey:ZU s' (ZQ X)=ZU s (ZQ X):=hlk _ fun z=>(ZiS hup x2 z).1 rfl
  refine⟨_,rfl,m,dm5,_,rfl,hm5,Zju ..,_,rfl,_,rfl,m,rd,sd,bump L e.n,s',nb,_,_,best,t,v',c',cds x,X,e.n,rfl,M5,ht5,hcv5,hok5,?_,fun b hb y hy=>tk.ge (x1.mem hb) hy,hup,fun b hb=>by rw[Zce];exact x1.mem hb,x2,x3,fun v6 c6 s6 k6 q6 H6 hcv6 hok6 hnd6 hoth6 hag6 M6 k6'=>?_⟩
  ·rw[hkey]
   rcases was with w|⟨t',b,y,w1,w2,_,w4⟩
   ·exact .inl w
   ·exact .inr ⟨t',b,y,w1,w2,w4⟩
  ·refine⟨v6,c6,s6,k+k6,q'+q6,_,rfl,hil,hcv6,by rw[e3];exact hok6,M6.cast (by omega) (by omega),?_,fun j hj=>?_,?_,fun b o hb n1 n2=>k6' b o (k5 b o hb n1 n2) n1 n2⟩
   ·rw[e3]
    refine ZlH (n:=e.n) (nok.congr (fun _ _=>rfl) fun j hj=>hoth6 j (ZiS hup x2 hj).1) ?_ hnd6
    have hno:=ZfZ hup (ZdZ x3)
    have so:Sub X (Zax X e.n):=by unfold Zax;split;exact Sub.top.up x2;exact Sub.top.lo x2
    refine(ok.sub (x1.trans so)).congr (fun b hb=>tk.oth b fun z=>hno (z ▸ hb)) fun j hj=>?_
    rw[hoth6 j (ZjB hup x2 hj).1,hlk j (ZjB hup x2 hj).2]
   ·rw[e3]at hj
    rw[hoth6 j (fun z=>hj ⟨X,.top,x2,z⟩),hlk j (fun hq=>by obtain⟨Y,y1,y2,y3⟩:=hq;exact hj ⟨Y,(Zjw x2 e.n).trans y1,y2,y3⟩)]
   ·have:=hag6 _ _ _ ag
    unfold ZeL at this ⊢
    rw[QI,hX,Qf]
    exact this
 ·rintro σ H5 ⟨v',c',s',k,q',v4,rfl,_,hcv5,hok5,M5,nok,hlk,ag,k5⟩
  rw[Qa,htl,ctop]at hok5 nok
  rw[Qa,htl,Qy (Qg _)]at ag
  obtain⟨dm5,hm5⟩:=M5.ob
  have fin:∀w':Option Int,w'=c'.map (·.1)→Q .non (upd H5 m (.ins cMerge dm5 (mgF rd nb (li+k) (lo'+q') sd (Zff w')))):=fun w' ew=>by
   subst ew
   refine q s' _ k q' _ M5.obj hok5.1 nok ag fun b o hb nf=>?_
   rw[Ze (fun z=>nf (.inl z))]
   exact keep1 (fun b o hb n1 n2=>k5 b o (s14 b o hb) n1 n2) b o hb nf
  rcases hcv5 with⟨rfl,rfl⟩|⟨t,p,rfl,rfl,ht⟩
  ·refine⟨_,rfl,rfl,_,rfl,ZgV rfl ?_⟩
   refine⟨_,rfl,m,cMerge,dm5,_,rfl,hm5,T.cl_Merge,T.na_Merge_best,Zcz ..,?_⟩
   rw[Zcc]
   exact fin none rfl
  ·refine⟨_,rfl,rfl,_,rfl,Zds (fun z=>nomatch z) ?_⟩
   refine⟨_,rfl,xw4 t _ _ _ ⟨rfl,rfl,SqT.of ht,(show atI [V.int p.1,V.int p.2] 0=some (.int p.1) from ZX (j:=0) rfl),_,rfl,m,cMerge,dm5,_,rfl,hm5,T.cl_Merge,T.na_Merge_best,Zcz ..,?_⟩⟩
   rw[Zcc]
   exact fin (some p.1) rfl
noncomputable def ZkJ(L:List ZK)(w:Option Int)(x:V)(L':List ZK)(k q:Int)(H':Hp):Prop :=
 (w=none∧x=.non∧L'=L∧k=0∧q=0)∨∃ (e:ZK) (t:Addr) (z:Str),e∈L∧w=some e.n∧x=.ref t∧e.ss[e.g]? = some z∧H' t=some (.tup [.int e.n,.int (e.g:Int),.str z])∧L'=bump L e.n∧Ag (hdM L') (cds z) (ZeL e.n (ZY 8 (ZI L) e.n)) k q
theorem Zkd(rd:Addr)(nb li lo:Int)(sd:Addr)(best:V):(mgF rd nb li lo sd best).lookup ("send_out" : Str)=none:=Zdj _ _ _ _ _ _ (by ac_rfl) (by ac_rfl) (by ac_rfl) (by ac_rfl) (by ac_rfl) (by ac_rfl)
theorem Zkk(rd:Addr)(nb li lo:Int)(sd:Addr)(best:V):(mgF rd nb li lo sd best).lookup ("take" : Str)=none:=Zdj _ _ _ _ _ _ (by ac_rfl) (by ac_rfl) (by ac_rfl) (by ac_rfl) (by ac_rfl) (by ac_rfl)
noncomputable def Zod(cR cM:Addr):Sp:=fun vs H Q _=>∃ (m rd sd:Addr) (L:List ZK) (s:StL) (nb li lo:Int) (w:Option Int),vs=[.ref m]∧Zaa cR cM H m rd sd L s nb li lo (Zff w)∧Win (hdM L) (ZI L) w∧Z6 (hdM L) s (ZI L) ∧
 ∀ (x:V) (L':List ZK) (s':StL) (w':Option Int) (k q:Int) (H':Hp),ZkJ L w x L' k q H'→Zaa cR cM H' m rd sd L' s' nb (li+k) (lo+q) (Zff w')→Win (hdM L') (ZI L') w'→Z6 (hdM L') s' (ZI L')→(∀b o,H b=some o→¬ Fp m rd sd L b→H' b=some o)→Q x H'
theorem Zpr(T:Zaf K mg cRow cMerge)(f_Merge_coming:Mf P w K mg base 3 cMerge "coming" ["self"] (ZjR cRow cMerge))(f_Merge_send_out:Mf P w K mg base 5 cMerge "send_out" ["self", "number"] (ZnE cRow cMerge)):Mf P w K mg base 6 cMerge "take" ["self"] (Zod cRow cMerge):=by
 refine T.t_Merge_take.mf Zep (fun vs H Q E h=>?_) (fun cdv f A outer s H vs Q E hr h=>?_)
 ·obtain⟨m,rd,sd,L,s,nb,li,lo,w,rfl,_⟩:=h
  rfl
 obtain⟨m,rd,sd,L,s,nb,li,lo',w,rfl,M,W,ok,q⟩:=h
 refine⟨_,#[Zg,#[Zy,1,Zep.nd,(Or.inl rfl),#[Zde,f_Merge_coming,T.cl_Merge,hr,‹0›]],#[Zg,#[ZZ,#[Zn,Zif,‹1›,#[ZaQ],(Zs _)],#[Zj,#[ZaO,#[ZfB,f_Merge_send_out,T.cl_Merge,hr,‹0›,#[Za,#[Zad,‹0›],#[Zc]]]]],#[ZD]],#[Zj,#[Zm,‹1›]]]],?_⟩
 obtain⟨dx,hm⟩:=M.ob
 refine⟨_,rfl,m,dx,_,rfl,hm,Zh8 ..,xw9 m rd sd L s nb li lo' w ⟨rfl,M,W,fun x H1 hc s1=>?_⟩⟩
 have M1:=M.same s1
 rcases hc with⟨rfl,hw⟩|⟨t,e',z,rfl,he',hz,ht,hw⟩
 ·have hw':Win (hdM L) (ZI L) none:=by rw[ZeE]at hw;exact hw
  have ew:=W.one hw'
  subst ew
  exact⟨_,rfl,rfl,_,rfl,Zm1 rfl ⟨_,rfl,q .non L s none 0 0 H1 (.inl ⟨rfl,rfl,rfl,rfl,rfl⟩) (M1.cast (by omega) (by omega)) W ok (fun b o hb _=>s1 b o hb)⟩⟩
 ·obtain⟨e,he,rfl⟩:=Qw.mp he'
  have hw':Win (hdM L) (ZI L) (some e.n):=by rw[ZeE]at hw;exact hw
  have ew:=W.one hw'
  subst ew
  obtain⟨dx1,hm1⟩:=M1.ob
  refine⟨_,rfl,rfl,_,rfl,Zql (fun z=>nomatch z) ?_⟩
  refine⟨_,rfl,m,dx1,_,rfl,hm1,Zkd ..,_,rfl,xw5 m cMerge dx1 _ _ ⟨rfl,hm1,T.cl_Merge,T.na_Merge_best,ZdE ..,Ztc m rd sd L s nb li lo' _ e z ⟨rfl,M1,he,hz,W,ok,fun s' w' k q' H2 M2 W2 ok2 ag k2=>?_⟩⟩⟩
  have ht2:H2 t=some (.tup [.int e.n,.int (e.g:Int),.str z]):=k2 _ _ ht fun hf=>by
   have ht':=ht
   rcases hf with h|h|h|⟨y,hy,h⟩
   ·rw[h,hm1]at ht';cases ht'
   ·rw[h,M1.rows]at ht';cases ht'
   ·rw[h,M1.stays]at ht';cases ht'
   ·have R:=(M1.each y hy).at'
    obtain⟨dy,hdy⟩:=R.ob
    rcases h with h|h|h
    ·rw[h,hdy]at ht';cases ht'
    ·rw[h,R.ks]at ht';cases ht'
    ·rw[h,R.fs]at ht';cases ht'
  exact⟨_,rfl,q (.ref t) (bump L e.n) s' w' k q' H2 (.inr ⟨e,t,z,he,rfl,rfl,hz,ht2,rfl,ag⟩) M2 (by rw[Zce];exact W2) (by rw[Zce];exact ok2) (fun b o hb nf=>k2 b o (s1 b o hb) nf)⟩
noncomputable abbrev ZM:=Int×List Str×Nat
noncomputable def Zb7(L:List ZK):List ZM:=L.map fun e=>(e.n,(e.ss,e.g))
noncomputable def hdP(P:List ZM):Hd:=hdL (P.map fun x=>(x.1,0,x.2))
noncomputable def ZaT(P:List ZM):List Int:=P.map (·.1)
noncomputable def Zar(n:Int)(x:ZM):ZM:=if x.1=n then (x.1,x.2.1,x.2.2+1) else x
noncomputable def ZbI(P:List ZM)(n:Int):List ZM:=P.map (Zar n)
theorem ZfP(L:List ZK):hdM L=hdP (Zb7 L):=Zls _ _ (by unfold Zb7;rw[QB,QB,QB];rfl)
theorem ZcP(L:List ZK):ZI L=ZaT (Zb7 L):=by unfold ZaT Zb7 ZI;rw[QB];rfl
theorem ZhN(L:List ZK)(n:Int):Zb7 (bump L n)=ZbI (Zb7 L) n:=by
 unfold Zb7 bump ZbI
 rw[QB,QB]
 refine QM fun e _=>?_
 simp only[Function.comp]
 unfold Zar
 by_cases h:e.n=n
 ·rw[ZeQ h,if_pos h]
 ·rw[Zf9 h,if_neg h]
theorem ZhT(P:List ZM)(n:Int):ZaT (ZbI P n)=ZaT P:=by
 unfold ZaT ZbI
 rw[QB]
 refine QM fun x _=>?_
 simp only[Function.comp]
 unfold Zar
 split<;>rfl
theorem ZgE{P:List ZM}(nd:(ZaT P).Nodup){x:ZM}(h:x∈P):hdP P x.1=(x.2.1[x.2.2]?).map cds :=
 Zkj (L:=P.map fun x:ZM=>((x.1,0,x.2):Zek)) (e:=(x.1,0,x.2)) (by rw[QB];exact nd) (Qp (f:=fun x:ZM=>((x.1,0,x.2):Zek)) h)
noncomputable def ZmI(P:List ZM)(x:ZM)(z:Str)(k q:Int):Prop:=x∈P∧x.2.1[x.2.2]? = some z∧Win (hdP P) (ZaT P) (some x.1)∧Ag (hdP (ZbI P x.1)) (cds z) (ZeL x.1 (ZY 8 (ZaT P) x.1)) k q
noncomputable abbrev ZaA:=Int×Nat×Str
inductive Zc6 (P:List ZM):List ZaA→List ZM→Int→Int→Prop
 | nil:Zc6 P [] P 0 0
 | snoc {ts:List ZaA} {P1:List ZM} {x:ZM} {z:Str} {k q k1 q1:Int}:Zc6 P ts P1 k q→ZmI P1 x z k1 q1→Zc6 P (ts++[(x.1,x.2.2,z)]) (ZbI P1 x.1) (k+k1) (q+q1)
inductive Zfh:List ZM→Int→Int→Prop
 | stop {P:List ZM}:Win (hdP P) (ZaT P) none→Zfh P 0 0
 | go {P:List ZM} {x:ZM} {z:Str} {k q k1 q1:Int}:ZmI P x z k1 q1→Zfh (ZbI P x.1) k q→Zfh P (k1+k) (q1+q)
theorem Zc6.num{P P':List ZM}{ts:List ZaA}{k q:Int}(h:Zc6 P ts P' k q):ZaT P'=ZaT P:=by
 induction h with
 | nil=>rfl
 | snoc _ _ ih=>rw[ZhT,ih]
noncomputable def Za3(P:List ZM):Nat:=(P.map fun x=>x.2.1.length-x.2.2).sum
theorem Zea:∀ (P:List ZM),(ZaT P).Nodup→∀ {x:ZM},x∈P→x.2.2<x.2.1.length→Za3 (ZbI P x.1)+1=Za3 P
 | [],_,_,h,_=>by cases h
 | y::P,nd,x,h,hlt=>by
  unfold ZaT at nd
  rw[Ql,QY]at nd
  unfold Za3 ZbI
  rw[Ql,Ql,Ql,Q0,Q0]
  rcases QK.mp h with rfl|h
  ·have e:P.map (Zar x.1)=P:=by
    conv=>rhs;rw[← List.map_id P]
    refine QM fun u hu=>?_
    unfold Zar
    rw[if_neg (fun z:u.1=x.1=>nd.1 (z ▸ Qp (f:=fun x:ZM=>x.1) hu))]
    rfl
   rw[e]
   unfold Zar
   rw[if_pos rfl]
   show x.2.1.length-(x.2.2+1)+_+1=_
   omega
  ·have ih:=Zea P nd.2 h hlt
   unfold Za3 ZbI at ih
   have e:Zar x.1 y=y:=if_neg (fun z:y.1=x.1=>nd.1 (z ▸ Qp (f:=fun x:ZM=>x.1) h))
   rw[e]
   omega
theorem Zc6.left{P P':List ZM}{ts:List ZaA}{k q:Int}(h:Zc6 P ts P' k q)(nd:(ZaT P).Nodup):Za3 P'+ts.length=Za3 P:=by
 induction h with
 | nil=>rfl
 | snoc h s ih =>
  have:=Zea _ (by rw[h.num];exact nd) s.1 (Qc.mp s.2.1).1
  rw[Qe,Qm]
  omega
theorem Zmh{L L':List ZK}{w:Option Int}{x:V}{k q:Int}{H:Hp}(W:Win (hdM L) (ZI L) w)(h:ZkJ L w x L' k q H):(Win (hdP (Zb7 L)) (ZaT (Zb7 L)) none∧x=.non∧L'=L∧k=0∧q=0)∨∃ (y:ZM) (z:Str) (t:Addr),ZmI (Zb7 L) y z k q∧Zb7 L'=ZbI (Zb7 L) y.1∧x=.ref t∧H t=some (.tup [.int y.1,.int (y.2.2:Int),.str z]):=by
 rw[ZfP,ZcP]at W
 rcases h with⟨rfl,h1,h2,h3,h4⟩|⟨e,t,z,he,rfl,rfl,hz,ht,rfl,ag⟩
 ·exact .inl ⟨W,h1,h2,h3,h4⟩
 ·refine .inr ⟨(e.n,(e.ss,e.g)),z,t,⟨Qp (f:=fun e:ZK=>(e.n,(e.ss,e.g))) he,hz,W,?_⟩,ZhN L e.n,rfl,ht⟩
  rw[ZfP,ZhN,ZcP]at ag
  exact ag
noncomputable def Zqt(K:PySem.W.Frag)(cR cM:Addr):Sp:=fun vs H Q _=>∃ (m rd sd:Addr) (L:List ZK) (s:StL) (nb li lo:Int) (w:Option Int) (many:Int),vs=[.ref m,.int many]∧Zaa cR cM H m rd sd L s nb li lo (Zff w)∧Win (hdM L) (ZI L) w∧Z6 (hdM L) s (ZI L)∧Za3 (Zb7 L)≤100000 ∧
 ∀ (r:Addr) (us:List (Addr×ZaA)) (L':List ZK) (s':StL) (w':Option Int) (k q:Int) (H':Hp),H r=none→H' r=some (.lst (us.map fun u=>V.ref u.1))→(∀u∈us,H' u.1=some (.tup [.int u.2.1,.int (u.2.2.1:Int),.str u.2.2.2]))→Zc6 (Zb7 L) (us.map (·.2)) (Zb7 L') k q→((us.length:Int)<many→w'=none)→(us≠[]→(us.length:Int)≤many)→Zaa cR cM H' m rd sd L' s' nb (li+k) (lo+q) (Zff w')→Win (hdM L') (ZI L') w'→Z6 (hdM L') s' (ZI L')→(∀b,Fp m rd sd L' b↔Fp m rd sd L b)→(∀b o,H b=some o→¬ Fp m rd sd L b→H' b=some o)→Q (.ref r) H'
theorem ZkJ.fp{L L':List ZK}{w:Option Int}{x:V}{k q:Int}{H:Hp}(h:ZkJ L w x L' k q H){m rd sd b:Addr}:Fp m rd sd L' b↔Fp m rd sd L b:=by
 rcases h with⟨_,_,rfl,_⟩|⟨e,t,z,_,_,_,_,_,rfl,_⟩
 ·exact Iff.rfl
 ·exact⟨Zp9,Fp_bump'⟩
theorem Zaa.fp_live{cR cM:Addr}{H:Hp}{m rd sd:Addr}{L:List ZK}{s:StL}{nb li lo:Int}{best:V}(M:Zaa cR cM H m rd sd L s nb li lo best){b:Addr}(h:Fp m rd sd L b):∃o,H b=some o∧∀xs,o≠.tup xs:=by
 rcases h with rfl|rfl|rfl|⟨e,he,h⟩
 ·obtain⟨dx,hd⟩:=M.ob;exact⟨_,hd,fun xs z=>by cases z⟩
 ·exact⟨_,M.rows,fun xs z=>by cases z⟩
 ·exact⟨_,M.stays,fun xs z=>by cases z⟩
 ·have R:=(M.each e he).at'
  obtain⟨dx,hd⟩:=R.ob
  rcases h with rfl|rfl|rfl
  ·exact⟨_,hd,fun xs z=>by cases z⟩
  ·exact⟨_,R.ks,fun xs z=>by cases z⟩
  ·exact⟨_,R.fs,fun xs z=>by cases z⟩
theorem Zaa.fp_fresh{cR cM:Addr}{H:Hp}{m rd sd:Addr}{L:List ZK}{s:StL}{nb li lo:Int}{best:V}(M:Zaa cR cM H m rd sd L s nb li lo best){b:Addr}(h:H b=none):¬ Fp m rd sd L b:=fun z=>by
 obtain⟨o,ho,_⟩:=M.fp_live z
 rw[h]at ho;cases ho
theorem Zaa.fp_tup{cR cM:Addr}{H:Hp}{m rd sd:Addr}{L:List ZK}{s:StL}{nb li lo:Int}{best:V}(M:Zaa cR cM H m rd sd L s nb li lo best){b:Addr}{xs:List V}(h:H b=some (.tup xs)):¬ Fp m rd sd L b:=fun z=>by
 obtain⟨o,ho,hn⟩:=M.fp_live z
 rw[h]at ho;cases ho;exact hn xs rfl
theorem ZqM(T:Zaf K mg cRow cMerge)(f_Merge_take:Mf P w K mg base 6 cMerge "take" ["self"] (Zod cRow cMerge)):Mf P w K mg base 7 cMerge "take_few" ["self", "many"] (Zqt K cRow cMerge):=by
 refine T.t_Merge_take_few.mf Zcx (fun vs H Q E h=>?_) (fun cdv f A outer s H vs Q E hr h=>?_)
 ·obtain⟨m,rd,sd,L,s,nb,li,lo,w,many,rfl,_⟩:=h
  rfl
 obtain⟨m,rd,sd,L,s,nb,li,lo',w,many,rfl,M,W,ok,hleft,q⟩:=h
 refine⟨_,#[Zg,#[Zy,2,Zcx.nd,(Or.inl rfl),#[Zbg,#[Zc]]],#[Zg,(@ZdN _ _ _ _ _ _ PassesOwn.never (@PW.pt _ _ _ #[ZeA,#[Zn,Zdq,#[Zk,(ZaR K),(by rfl),T.b.n_len,Qq,#[Za,‹2›,#[Zc]]],‹1›,(Zs _)],(@Zeb _ _ _ _ #[Zn,Zif,#[Zad,‹0›],#[ZaQ],(Zs _)])]) #[Zj,#[ZaO,#[ZcA,QG,QO,QP,Zay,‹2›,#[Za,#[Zde,f_Merge_take,T.cl_Merge,hr,‹0›],#[Zc]]]]]),#[Zj,#[Zm,‹2›]]]],?_⟩
 have nd:(ZaT (Zb7 L)).Nodup:=by rw[← ZcP];exact M.nd
 refine⟨(by show 0≤sizeLine;decide),fun r hr0=>?_⟩
 have nfr:=M.fp_fresh hr0
 refine⟨fun mm σ H2=>∃ (us:List (Addr×ZaA)) (L':List ZK) (s':StL) (w':Option Int) (k q':Int),σ=[some (.ref m),some (.int many),some (.ref r)]∧H2 r=some (.lst (us.map fun u=>V.ref u.1))∧(∀u∈us,u.1≠r∧H2 u.1=some (.tup [.int u.2.1,.int (u.2.2.1:Int),.str u.2.2.2]))∧Zc6 (Zb7 L) (us.map (·.2)) (Zb7 L') k q'∧(us≠[]→(us.length:Int)≤many)∧Zaa cRow cMerge H2 m rd sd L' s' nb (li+k) (lo'+q') (Zff w')∧Win (hdM L') (ZI L') w'∧Z6 (hdM L') s' (ZI L')∧(∀b,Fp m rd sd L' b↔Fp m rd sd L b)∧(∀b o,H b=some o→¬ Fp m rd sd L b→H2 b=some o)∧mm=Za3 (Zb7 L'),⟨_,[],L,s,w,0,0,rfl,Zb,(fun u h=>by cases h),.nil,(fun h=>absurd rfl h),(M.same (Zh hr0 _)).cast (by omega) (by omega),W,ok,fun _=>Iff.rfl,fun b o hb _=>Zh hr0 _ _ _ hb,rfl⟩,?_⟩
 rintro mm σ H2 ⟨us,L1,s1,w1,k,q',rfl,hr2,hus,htk,hmany,M2,W2,ok2,hfp,k2,rfl⟩
 have hul:(((us.map fun u=>V.ref u.1).length:Nat):Int)=(us.length:Int):=by rw[Qa]
 have hlf:=htk.left nd
 rw[Qa]at hlf
 obtain⟨dx2,hm2⟩:=M2.ob
 have done:((us.length:Int)<many→w1=none)→Q (.ref r) H2:=fun hd=>q r us L1 s1 w1 k q' H2 hr0 hr2 (fun u hu=>(hus u hu).2) htk hd hmany M2 W2 ok2 hfp k2
 refine⟨_,rfl,r,_,rfl,.inl (SqL.of hr2),_,rfl,_,_,rfl,rfl,_,rfl,ZaX (fun d1=>?_) (fun d1=>?_)⟩
 ·have d1':(us.length:Int)<many:=by have:=of_decide_eq_true d1;omega
  refine⟨_,rfl,xw5 m cMerge dx2 _ _ ⟨rfl,hm2,T.cl_Merge,T.na_Merge_best,ZdE ..,rfl,_,rfl,?_⟩⟩
  cases w1 with
  | none=>exact Zm1 rfl ⟨_,rfl,done fun _=>rfl⟩
  | some a =>
  refine Zql (fun z=>nomatch z) ?_
  refine⟨_,fun σ' H' h=>h,?_⟩
  refine⟨_,rfl,.inl ⟨rfl,_,SqL.of hr2⟩,_,rfl,m,dx2,_,rfl,hm2,Zkk ..,m,rd,sd,L1,s1,nb,_,_,some a,rfl,M2,W2,ok2,fun x L3 s3 w3 k3 q3 H3 hR M3 W3 ok3 kp3=>?_⟩
  have hr3:H3 r=some (.lst (us.map fun u=>V.ref u.1)):=kp3 _ _ hr2 (fun z=>nfr ((hfp r).mp z))
  rcases Zmh W2 hR with⟨w0,_⟩|⟨y,z,t,stp,eL,rfl,ht⟩
  ·rw[ZfP,ZcP]at W2
   exact nomatch w0.one W2
  have hbl:=Zea _ (by rw[htk.num];exact nd) stp.1 (Qc.mp stp.2.1).1
  have htr:t≠r:=fun e=>by rw[e,hr3]at ht;cases ht
  refine⟨r,_,_,rfl,rfl,hr3,(by rw[Qa,sizeLine_eq];clear htr kp3 done d1' hul k2 hfp hmany hus nfr q hbl;omega),Za3 (Zb7 L3),by rw[eL];omega,us++[(t,(y.1,y.2.2,z))],L3,s3,w3,k+k3,q'+q3,rfl,by rw[Zb,Qf];rfl,fun u hu=>?_,?_,fun _=>by rw[Qe,Qm];omega,?_,W3,ok3,fun b=>(hR.fp).trans (hfp b),fun b o hb nf=>?_,rfl⟩
  ·rcases Qh.mp hu with hu|hu
   ·obtain⟨g2,g3⟩:=hus u hu
    exact⟨g2,by rw[Ze g2];exact kp3 _ _ g3 (M2.fp_tup g3)⟩
   ·rw[Qd.mp hu]
    exact⟨htr,by rw[Ze htr];exact ht⟩
  ·rw[Qf,eL]
   exact .snoc htk stp
  ·refine Zaa.cast (M3.keep fun b o hb hor=>?_) (by omega) (by omega)
   rw[Ze (fun e=>?_)]
   ·exact hb
   ·subst e
    rcases hor with hf|⟨xs,rfl⟩
    ·exact nfr ((hfp b).mp (hR.fp.mp hf))
    ·rw[hr3]at hb;cases hb
  ·rw[Ze (Zd hb hr0)]
   exact kp3 b o (k2 b o hb nf) (fun z=>nf ((hfp b).mp z))
 ·refine Zcl ⟨_,rfl,done fun h=>?_⟩
  have:¬ ((((us.map fun u=>V.ref u.1).length:Nat):Int)<many):=fun z=>d1 (decide_eq_true z)
  omega
structure MS where
 m:Addr
 rd:Addr
 sd:Addr
 L:List ZK
 s:StL
 nb:Int
 li:Int
 lo:Int
 w:Option Int
structure OS where
 o:Addr
 ra:Addr
 ga:Addr
 Lo:List Zek
 nb:Int
noncomputable def Ztd(Y:OS)(b:Addr):Prop:=b=Y.o∨b=Y.ra∨b=Y.ga∨∃e∈Y.Lo,b=e.2.1
noncomputable def MFp(X:MS)(b:Addr):Prop:=Fp X.m X.rd X.sd X.L b
structure MOk (cR cM:Addr) (H:Hp) (X:MS):Prop where
 M:Zaa cR cM H X.m X.rd X.sd X.L X.s X.nb X.li X.lo (Zff X.w)
 W:Win (hdM X.L) (ZI X.L) X.w
 ok:Z6 (hdM X.L) X.s (ZI X.L)
structure Pair (cR cM:Addr) (H:Hp) (X:MS) (Y:OS):Prop where
 mg:MOk cR cM H X
 ow:Own H Y.o Y.ra Y.ga Y.Lo Y.nb X.li X.lo
 ag:Agr Y.Lo X.L
 sep:∀b,MFp X b→¬ Ztd Y b
theorem ZlE{P:List ZM}(nd:(ZaT P).Nodup)(h:Win (hdP P) (ZaT P) none)(ok:∀x∈P,x.2.2≤x.2.1.length):Za3 P=0:=by
 unfold Za3
 have:∀l:List Nat,(∀a∈l,a=0)→l.sum=0:=fun l hl=>by
  induction l with
  | nil=>rfl
  | cons b r ih=>rw[Q0,hl b (by simp),ih fun a ha=>hl a (Qu _ ha)]
 refine this _ fun a ha=>?_
 obtain⟨x,hx,rfl⟩:=Qw.mp ha
 have hh:=h x.1 (Qp (f:=fun x:ZM=>x.1) hx)
 rw[ZgE nd hx]at hh
 cases hg:x.2.1[x.2.2]? with
 | none=>rw[QaI]at hg;show x.2.1.length-x.2.2=0;omega
 | some y=>rw[hg]at hh;cases hh
noncomputable def Zkb(rs:List (Addr×List Str)):List ZM:=(Zx 0 rs.length).zip (rs.map fun x=>(x.2,0))
theorem Zlb{α β γ:Type}(f:α→β)(g:α→γ):∀l:List α,l.map (fun x=>(f x,g x))=(l.map f).zip (l.map g)
 | []=>rfl
 | x::r=>by rw[Ql,Ql,Ql,Qad,Zlb f g r]
theorem Zok{L:List ZK}{rs:List (Addr×List Str)}(h:ZqR L rs):Zb7 L=Zkb rs:=by
 unfold Zb7 Zkb
 rw[Zlb (fun e:ZK=>e.n) (fun e=>(e.ss,e.g)) L,← h.1,← h.2];rfl
theorem Zoe(rs:List (Addr×List Str)):Za3 (Zkb rs)=(rs.map fun x=>x.2.length).sum:=by
 unfold Za3 Zkb
 have e:((Zx 0 rs.length).zip (rs.map fun x=>(x.2,0))).map (fun x:ZM=>x.2.1.length-x.2.2)=((((Zx 0 rs.length).zip (rs.map fun x=>(x.2,0))).map (·.2))).map (fun y:List Str×Nat=>y.1.length-y.2):=by rw[QB];rfl
 rw[e,List.map_snd_zip (by rw[Qa,ZR];exact Qg _),QB]
 rfl
noncomputable def Zhy:Sp:=fun vs H Q _=>∃ (r:Addr) (rs:List (Addr×List Str)),vs=[.ref r]∧Zex H r rs∧∀H':Hp,ZC H H'→Q (.int (((rs.map fun x=>x.2.length).sum:Nat):Int)) H'
theorem ZjC:∀rs:List (Addr×List Str),(rs.map fun x=>(x.2.length:Int)).sum=(((rs.map fun x=>x.2.length).sum:Nat):Int)
 | []=>rfl
 | x::r=>by rw[Ql,Ql,Q0,Q0,ZjC r,Int.natCast_add]
theorem Zji(T:Zaf K mg cRow cMerge):Df P w K mg base 1 "how_many" ["rows"] Zhy:=by
 refine T.t_how_many.df Zi9 (fun vs H Q E h=>?_) (fun cdv f A outer s H vs Q E hr h=>?_)
 ·obtain⟨r,rs,rfl,_⟩:=h
  rfl
 obtain⟨r,rs,rfl,hrs,q⟩:=h
 refine⟨_,#[Zj,#[Zm,#[Zk,(Zsb K),(by rfl),T.b.n_sum,boot_sum,#[Za,#[Zav,ZpS,#[iL,K,‹0›],(fun _ _ _ _=>#[cgL,1,ZpS]),(fun _ _ _ _=>(@Zaw _)),(fun _ _ _ _=>#[Zk,(ZaR K),(ZaY ZpS rfl (by ac_rfl)),T.b.n_len,Qq,#[Za,#[cwL,1,ZpS],#[Zc]]])],#[Zc]]]]],?_⟩
 have hfew:=hrs.few
 refine⟨_,rfl,r,rfl,⟨_,SqL.of hrs.at'⟩,fun D hD=>?_⟩
 refine Zbd (K:=K) (a:=r) (xs:=rs.map fun x=>V.ref x.1) (fun i zs σ H2=>(∃v:Option V,σ=[some (.ref r),v])∧zs=((rs.take i).map fun x=>(x.2.length:Int)).map V.int∧i≤rs.length∧H2 D=some (.lst zs)∧ZC H H2) ?_ (fun _ _ _ _ h=>SqL.of (h.2.2.2.2 _ _ hrs.at')) ?_ ?_
 ·exact⟨⟨none,rfl⟩,rfl,Qv _,Zb,Zh hD _⟩
 ·rintro i y zs σ H2 hy ⟨⟨v,rfl⟩,rfl,hi,hD2,s2⟩
  rw[Qi]at hy
  cases hz:rs[i]? with
  | none=>rw[hz]at hy;cases hy
  | some x =>
  rw[hz]at hy
  cases hy
  have hil:i<rs.length:=(Qc.mp hz).1
  refine⟨_,rfl,x.1,_,rfl,.inl (SqL.of (s2 _ _ (hrs.lst x (Qo hz)).1)),hD2,(by rw[Qa,Qa,Qx];exact ZH (by clear hi q hil;omega)),⟨_,rfl⟩,?_,hil,Zb,fun b u hb=>?_⟩
  ·rw[QI,hz,Qf,Qf,Qa];rfl
  ·rw[Ze (Zd hb hD)];exact s2 b u hb
 rintro zs σ H2 ⟨⟨v,rfl⟩,rfl,_,hD2,s2⟩
 rw[Qa,Qy (Qg _)]at hD2
 refine⟨D,_,rfl,SqL.of hD2,by rw[Qa];omega,fun n hn=>?_,?_⟩
 ·obtain⟨x,hx,rfl⟩:=Qw.mp hn
  have:=(hrs.lst x hx).2.1
  omega
 ·rw[ZjC];exact q H2 s2
theorem ZlU(rd:Addr)(nb li lo:Int)(sd:Addr)(best:V):(mgF rd nb li lo sd best).lookup ("take_few" : Str)=none:=Zdj _ _ _ _ _ _ (by ac_rfl) (by ac_rfl) (by ac_rfl) (by ac_rfl) (by ac_rfl) (by ac_rfl)
theorem ZrW(rs:List (Addr×List Str))(h:∀x∈rs,x.2.length≤100):(rs.map fun x=>x.2.length).sum≤rs.length*100:=by
 induction rs with
 | nil=>exact Qg _
 | cons x r ih =>
  have:=ih fun y hy=>h y (Qu _ hy)
  have:=h x (by simp)
  rw[Ql,Q0,QE]
  omega
theorem Zm2{L':List ZK}{P:List ZM}{ts:List ZaA}{k q:Int}{w':Option Int}{many:Nat}(nd:(ZaT P).Nodup)(h:Zc6 P ts (Zb7 L') k q)(h1:(ts.length:Int)<(many:Int)→w'=none)(h2:ts≠[]→(ts.length:Int)≤(many:Int))(W:Win (hdM L') (ZI L') w')(ok:∀x∈Zb7 L',x.2.2≤x.2.1.length):ts.length=min many (Za3 P):=by
 have hl:=h.left nd
 by_cases hlt:(ts.length:Int)<(many:Int)
 ·have e:=h1 hlt
  subst e
  rw[ZfP,ZcP]at W
  have hz:=ZlE (by rw[h.num];exact nd) W ok
  omega
 ·by_cases hn:ts=[]
  ·subst hn
   simp only[List.length_nil]at hlt ⊢
   omega
  ·have:=h2 hn
   omega
theorem ZiZ:∀ns:List Int,PyData.canLayAll0 (ns.map PyData.int)=true
 | []=>rfl
 | x::r=>by simp[PyData.canLayAll0,PyData.canLay0,ZiZ r]
theorem ZgB:∀ns:List Int,PyData.depthAll (ns.map PyData.int)=0
 | []=>rfl
 | _::r=>by simp[PyData.depthAll,PyData.depth,ZgB r]
theorem Zan(ns:List Int):SeqAt.shaped (.list (ns.map PyData.int))=true:=by simp[SeqAt.shaped,PyData.canLay0,PyData.depth,ZiZ ns,ZgB]
theorem ZbG{K:PySem.W.Frag}{H:Hp}:∀ns:List Int,DVs K H (ns.map V.int) (ns.map PyData.int)
 | []=>.nil
 | s::r=>.cons (.int s) (ZbG r)
theorem Ze1:∀a b:List Nat,Spec.ltCps a b=true↔a<b
 | [],[]=>by simp[Spec.ltCps]
 | [],y::s=>by simp[Spec.ltCps]
 | x::r,[]=>by simp[Spec.ltCps]
 | x::r,y::s=>by
  have ih:=Ze1 r s
  rw[List.cons_lt_cons_iff]
  simp[Spec.ltCps,ih]
noncomputable def LeS(a b:Str):Prop:=¬ b.cps.toList<a.cps.toList
theorem LeS.trans{a b c:Str}(h:LeS a b)(k:LeS b c):LeS a c:=List.not_lt.mpr (List.le_trans (List.not_lt.mp h) (List.not_lt.mp k))
theorem Zh1:∀ (r:List Str) (x:Str),risingS x r=true↔(x::r).Pairwise LeS
 | [],x=>by simp[risingS]
 | y::r,x=>by
  have ih:=Zh1 r y
  rw[List.pairwise_cons]
  unfold risingS
  rw[QaF,Bool.not_eq_true']
  constructor
  ·rintro⟨h1,h2⟩
   have p:=ih.mp h2
   have hxy:LeS x y:=fun z=>by rw[(Ze1 _ _).mpr z]at h1;cases h1
   refine⟨fun b hb=>?_,p⟩
   rcases QK.mp hb with rfl|hb
   ·exact hxy
   ·exact hxy.trans ((List.pairwise_cons.mp p).1 b hb)
  ·rintro⟨h1,h2⟩
   exact⟨Bool.eq_false_iff.mpr fun z=>h1 y (by simp) ((Ze1 _ _).mp z),ih.mpr h2⟩
theorem ZcO(ss:List Str):sortedS ss=true↔ss.Pairwise LeS:=by
 cases ss with
 | nil=>simp[sortedS]
 | cons x r=>exact Zh1 r x
noncomputable def Zjr:Sp:=fun vs H Q _=>∃ (r:Addr) (rs:List (Addr×List Str)),vs=[.ref r]∧Zex H r rs∧(∀x∈rs,sortedS x.2=true) ∧
 ∀ (t:Addr) (us:List (Addr×ZaA)) (P':List ZM) (k q:Int) (H':Hp),Zc6 (Zkb rs) (us.map (·.2)) P' k q→us.length=(rs.map fun x=>x.2.length).sum→H' t=some (.lst (us.map fun u=>V.ref u.1))→(∀u∈us,H' u.1=some (.tup [.int u.2.1,.int (u.2.2.1:Int)]))→H t=none→(∀u∈us,H u.1=none)→ZC H H'→Q (.ref t) H'
theorem Zmb(T:Zaf K mg cRow cMerge)(f_Merge_init:Cf P w K mg base 14 cMerge "Merge" ["self", "rows"] (Zfx cRow cMerge))(f_Merge_take_few:Mf P w K mg base 7 cMerge "take_few" ["self", "many"] (Zqt K cRow cMerge))(f_how_many:Df P w K mg base 1 "how_many" ["rows"] Zhy):Df P w K mg base 16 "merged" ["rows"] Zjr:=by
 refine T.t_merged.df ZlQ (fun vs H Q E h=>?_) (fun cdv f A outer s H vs Q E hr h=>?_)
 ·obtain⟨r,rs,rfl,_⟩:=h
  rfl
 obtain⟨r,rs,rfl,hrs,hsrt,q⟩:=h
 refine⟨_,#[Zj,#[Zm,#[Zav,Zmt,#[iL,K,#[ZfB,f_Merge_take_few,T.cl_Merge,hr,#[Zqr,f_Merge_init,hr,#[Za,‹0›,#[Zc]]],#[Za,#[ZB,f_how_many,hr,#[Za,‹0›,#[Zc]],(by rfl)],#[Zc]]]],(fun _ _ _ _=>#[gT,K,3,#[Zv,#[cgL,1,Zmt],#[Zv,#[cgL,2,Zmt],#[Zv,#[cgL,3,Zmt],(@ZaE _)]]]]),(fun _ _ _ _=>(@Zaw _)),(fun _ _ _ _=>#[ZT,#[Za,#[cwL,1,Zmt],#[Za,#[cwL,2,Zmt],#[Zc]]]])]]],?_⟩
 refine⟨_,rfl,fun m dx hm hdx nmd=>?_⟩
 have s1:ZC H (upd (upd H dx (.own m)) m (.ins cMerge dx [])):=fun b o hb=>by rw[Ze (Zd hb hm),Ze (Zd hb hdx)];exact hb
 have hm1:(upd (upd H dx (.own m)) m (.ins cMerge dx [])) m=some (.ins cMerge dx []):=Zb
 generalize upd (upd H dx (.own m)) m (.ins cMerge dx [])=H1 at s1 hm1 ⊢
 refine(xw4 m dx r rs ⟨rfl,hm1,hrs.same s1,hsrt,fun rd sd L st w0 k0 q0 H2 M2 hnew W2 S2 P2 fp2 k2=>⟨rfl,?_⟩⟩)
 have s2:ZC H H2:=fun b o hb=>k2 b o (s1 b o hb) (Zd hb hm)
 have fpH:∀b,Fp m rd sd L b→H b=none:=fun b hb=>by
  rcases fp2 b hb with z|z
  ·rw[z];exact hm
  ·exact s1.free z
 have ok2:=Zf7 8 (hdM L) st (ZI L) M2.up (QJ (show (ZI L).length≤60 by unfold ZI;rw[Qa];exact M2.few) (by decide)) (by decide) S2
 have eP:=Zok hnew
 obtain⟨dx2,hm2⟩:=M2.ob
 have hsum:=ZrW rs fun x hx=>(hrs.lst x hx).2.1
 have hfew:=hrs.few
 have hl:=Zoe rs
 refine⟨m,dx2,_,rfl,hm2,ZlU ..,_,rfl,r,rs,rfl,hrs.same s2,fun H3 s3=>?_⟩
 have M3:=M2.same s3
 refine⟨m,rd,sd,L,st,_,k0,q0,w0,_,rfl,M3,W2,ok2,by rw[eP,hl];omega,fun rr us L' s' w' k1 q1 H4 hrr hrr4 hus htk hfin hmany M4 W4 ok4 fp4 k4=>?_⟩
 have s4:ZC H H4:=fun b o hb=>k4 b o (s3 b o (s2 b o hb)) fun z=>by rw[fpH b z]at hb;cases hb
 have nd:(ZaT (Zb7 L)).Nodup:=by rw[← ZcP];exact M2.nd
 have hlen:=Zm2 (ts:=us.map (·.2)) (many:=(rs.map fun x=>x.2.length).sum) nd htk (by rw[Qa];exact hfin) (by rw[Qa];exact fun z=>hmany fun y=>z (by rw[y];rfl)) W4 (fun x hx=>by obtain⟨e,he,rfl⟩:=Qw.mp hx;exact(M4.each e he).le)
 rw[Qa,eP,hl,Nat.min_self]at hlen
 rw[eP]at htk
 refine⟨rr,rfl,⟨_,SqL.of hrr4⟩,fun D hD=>?_⟩
 have hDH:H D=none:=s4.free hD
 refine Zbd (K:=K) (a:=rr) (xs:=us.map fun u=>V.ref u.1) (fun i zs σ H5=>(∃v1 v2 v3:Option V,σ=[some (.ref r),v1,v2,v3])∧(∃ws:List (Addr×ZaA),zs=(ws.map fun u=>V.ref u.1)∧ws.map (·.2)=(us.take i).map (·.2)∧∀u∈ws,u.1≠D∧H u.1=none∧H5 u.1=some (.tup [.int u.2.1,.int (u.2.2.1:Int)]))∧i≤us.length∧H5 D=some (.lst zs)∧ZC H4 H5) ?_ (fun _ _ _ _ h=>SqL.of (h.2.2.2.2 _ _ hrr4)) ?_ ?_
 ·exact⟨⟨none,none,none,rfl⟩,⟨[],rfl,rfl,fun u h=>by cases h⟩,Qv _,Zb,Zh hD _⟩
 ·rintro i y zs σ H5 hy ⟨⟨v1,v2,v3,rfl⟩,⟨ws,rfl,hw,hws⟩,hi,hD5,s5⟩
  rw[Qi]at hy
  cases hz:us[i]? with
  | none=>rw[hz]at hy;cases hy
  | some u =>
  rw[hz]at hy
  cases hy
  have hil:i<us.length:=(Qc.mp hz).1
  have hwl:ws.length=i:=by
   have:=congrArg List.length hw
   rw[Qa,Qa,Qx]at this
   omega
  refine⟨u.1,_,rfl,SqT.of (s5 _ _ (hus u (Qo hz))),rfl,_,_,rfl,_,_,rfl,_,_,rfl,rfl,?_⟩
  refine⟨_,rfl,_,rfl,(by show 2≤sizeLine;decide),fun n hn0=>?_⟩
  have sn:=Zh hn0 (.tup [.int u.2.1,.int (u.2.2.1:Int)])
  have nDn:D≠n:=Zd hD5 hn0
  refine⟨sn _ _ hD5,(by rw[Qa,hwl,sizeLine_eq];omega),⟨_,_,_,rfl⟩,⟨ws++[(n,u.2)],by rw[Qf];rfl,?_,fun x hx=>?_⟩,hil,Zb,fun b o hb=>?_⟩
  ·rw[QI,hz,Qf,Qf,hw];rfl
  ·rcases Qh.mp hx with hx|hx
   ·obtain⟨g1,g2,g3⟩:=hws x hx
    exact⟨g1,g2,by rw[Ze g1];exact sn _ _ g3⟩
   ·rw[Qd.mp hx]
    exact⟨nDn.symm,s4.free (s5.free hn0),by rw[Ze nDn.symm];exact Zb⟩
  ·rw[Ze (Zd hb hD)];exact sn _ _ (s5 b o hb)
 rintro zs σ H5 ⟨⟨v1,v2,v3,rfl⟩,⟨ws,rfl,hw,hws⟩,_,hD5,s5⟩
 rw[Qa,Qy (Qg _)]at hw
 exact q D ws _ k1 q1 H5 (by rw[hw];exact htk) (by have:=congrArg List.length hw;rw[Qa,Qa]at this;omega) hD5 (fun u hu=>(hws u hu).2.2) hDH (fun u hu=>(hws u hu).2.1) (s4.trans s5)
theorem ZjT:∀ns:List Int,PyData.eqvAll (ns.map PyData.int) (ns.map PyData.int)=true
 | []=>by simp[PyData.eqvAll]
 | x::r=>by simp[PyData.eqvAll,PyData.eqv,ZjT r]
theorem ZcY(ns:List Int):PyData.eqv (.list (ns.map PyData.int)) (.list (ns.map PyData.int))=true:=by simp[PyData.eqv,ZjT ns]
theorem Znj(ss:List Str)(m:Nat)(h:m≤ss.length):ZeY (ss.map V.str) none (some (m:Int))=(ss.take m).map V.str∧ZeY (ss.map V.str) (some (m:Int)) none=(ss.drop m).map V.str:=by
 have e:∀d:Nat,HT.sIx (ss.map V.str).length d (some (m:Int))=m:=fun d=>by
  unfold HT.sIx
  simp only[List.length_map]
  rw[if_neg (by omega)]
  omega
 have e0:∀d:Nat,HT.sIx (ss.map V.str).length d none=d:=fun d=>rfl
 constructor
 ·unfold ZeY
  rw[e,e0,List.drop_zero,Nat.sub_zero,List.map_take]
 ·unfold ZeY
  rw[e,e0,← List.map_drop,← List.map_take,Qy (by rw[QR,Qa];omega)]
noncomputable def ZjZ:Sp:=fun vs H Q _=>∃ (p:Addr) (c:Int),vs=[.ref p]∧ZaF H p c∧c<2 ^ 30 ∧
 ∀ (r:Addr) (ts:List Str) (c':Int) (H':Hp),H r=none→H' r=some (.lst (ts.map V.str))→ts.length≤60→(∀s∈ts,s.length≤28∧AZ s)→ZaF H' p c'→c≤c'→c'≤c+700→But p H H'→Q (.ref r) H'
theorem Zly(T:Zaf K mg cRow cMerge)(f_l_pick:Df P w K mg base 2 "_law_pick" ["_law_left_here", "_law_many"] ZdT)(f_l_stems:Df P w K mg base 3 "_law_stems" ["_law_left_here"] Zii)(f_l_key:Df P w K mg base 3 "_law_key" ["_law_left_here", "_law_stems_here"] ZmP):Df P w K mg base 4 "_law_things" ["_law_left_here"] ZjZ:=by
 refine T.t_l_things.df Zaz (fun vs H Q E h=>?_) (fun cdv f A outer s H vs Q E hr h=>?_)
 ·obtain⟨p,c,rfl,_⟩:=h
  rfl
 obtain⟨p,c,rfl,hL,c1,q⟩:=h
 refine⟨_,#[Zg,#[Zy,1,Zaz.nd,(Or.inl rfl),#[ZB,f_l_stems,hr,#[Za,‹0›,#[Zc]],(by rfl)]],#[Zg,#[Zy,2,Zaz.nd,(Or.inl rfl),#[Zbg,#[Za,#[ZB,f_l_pick,hr,#[Za,‹0›,#[Za,#[Zi],#[Zc]]],(by rfl)],#[Za,#[Zi],#[Za,#[Zi],#[Za,#[Zi],#[Za,#[Zi],#[Za,#[ZF,Zac,#[Zi],#[ZB,f_l_pick,hr,#[Za,‹0›,#[Za,#[Zi],#[Zc]]],(by rfl)]],#[Za,#[ZF,Zac,#[Zi],#[ZB,f_l_pick,hr,#[Za,‹0›,#[Za,#[Zi],#[Zc]]],(by rfl)]],#[Za,#[ZF,Zac,#[Zi],#[ZB,f_l_pick,hr,#[Za,‹0›,#[Za,#[Zi],#[Zc]]],(by rfl)]],#[Zc]]]]]]]]]]],#[Zg,#[Zy,3,Zaz.nd,(Or.inl rfl),#[Zbg,#[Zc]]],#[Zg,#[Zbt,PassesOwn.never,#[Zbu,T.b.n_range,#[Za,#[Zz,(ixL K),‹2›,#[ZB,f_l_pick,hr,#[Za,‹0›,#[Za,#[Zi],#[Zc]]],(by rfl)]],#[Zc]]],#[ZA,4,Zaz.nd],#[Zg,#[Zy,5,Zaz.nd,(Or.inl rfl),#[ZB,f_l_key,hr,#[Za,‹0›,#[Za,‹1›,#[Zc]]],(by rfl)]],#[Zg,#[ZZ,(@PW.pt _ _ _ #[ZeA,#[Zn,(@neD _ K _ hr (by rfl)),‹3›,#[Zbg,#[Zc]],(Zs _)],(@Zeb _ _ _ _ #[Zn,Zbf,#[ZB,f_l_pick,hr,#[Za,‹0›,#[Za,#[Zi],#[Zc]]],(by rfl)],#[Zi],(Zs _)])]),#[Zj,#[Zy,5,Zaz.nd,(Or.inl rfl),#[Zz,(ixL K),‹3›,#[ZB,f_l_pick,hr,#[Za,‹0›,#[Za,#[Zk,(ZaR K),(by rfl),T.b.n_len,Qq,#[Za,‹3›,#[Zc]]],#[Zc]]],(by rfl)]]]],#[ZD]],#[Zj,#[ZaO,#[ZcA,QG,QO,QP,Zay,‹3›,#[Za,‹5›,#[Zc]]]]]]]],#[Zg,#[Zy,6,Zaz.nd,(Or.inl rfl),#[ZB,f_l_pick,hr,#[Za,‹0›,#[Za,#[Zi],#[Zc]]],(by rfl)]],#[Zg,#[Zy,7,Zaz.nd,(Or.inl rfl),#[ZF,ZeK,#[Zk,(ZaR K),(by rfl),T.b.n_len,Qq,#[Za,‹3›,#[Zc]]],#[Zi]]],#[Zg,#[ZZ,#[Zn,Zbf,‹6›,#[Zi],(Zs _)],#[Zj,#[Zm,#[Zk,(Znm K),(by rfl),T.b.n_sorted,boot_sorted,#[Za,‹3›,#[Zc]]]]],#[ZD]],#[Zg,#[ZZ,#[Zn,Zbf,‹6›,#[Zi],(Zs _)],#[Zj,#[Zm,(@Zl5 _ _ _ _ _ _ _ _ _ _ _ _ (Zs8 K) #[Zk,(Znm K),(by rfl),T.b.n_sorted,boot_sorted,#[Za,‹3›,#[Zc]]] (@Zd9 _) (@Zd9 _) #[ZbD,(@ZhS _ _ _ _ _ _ Ze2 #[Zi])])]],#[ZD]],#[Zg,#[ZZ,#[Zn,Zbf,‹6›,#[Zi],(Zs _)],#[Zj,#[Zm,#[ZF,ZqZ,#[Zk,(Znm K),(by rfl),T.b.n_sorted,boot_sorted,#[Za,#[ZcL,(slL K),‹3›,(@Zd9 _),#[ZbD,‹7›]],#[Zc]]],#[Zk,(Znm K),(by rfl),T.b.n_sorted,boot_sorted,#[Za,#[ZcL,(slL K),‹3›,#[ZbD,‹7›],(@Zd9 _)],#[Zc]]]]]],#[ZD]],#[Zj,#[Zm,‹3›]]]]]]]]]]],?_⟩
 have c0:=hL.ge
 refine⟨_,rfl,p,c,rfl,hL,by omega,fun l ss c5 H5 hl0 hl5 n1 n4 h24 L5 a1 a2 B5=>?_⟩
 have npl:p≠l:=by
  obtain⟨o,ho⟩:=hL.here
  exact Zd ho hl0
 refine⟨_,rfl,p,c5,_,rfl,L5,by omega,by decide,by decide,fun d1 H6 d10 d11 L6 B6=>?_⟩
 refine⟨_,rfl,p,c5+1,_,rfl,L6,by omega,by decide,by decide,fun d2 H7 d20 d21 L7 B7=>⟨_,_,rfl,rfl,?_⟩⟩
 refine⟨_,rfl,p,c5+1+1,_,rfl,L7,by omega,by decide,by decide,fun d3 H8 d30 d31 L8 B8=>⟨_,_,rfl,rfl,?_⟩⟩
 refine⟨_,rfl,p,c5+1+1+1,_,rfl,L8,by omega,by decide,by decide,fun d4 H9 d40 d41 L9 B9=>⟨_,_,rfl,rfl,?_⟩⟩
 refine⟨(by show 8≤sizeLine;decide),fun m hm=>?_⟩
 have npm:p≠m:=by obtain⟨o,ho⟩:=L9.here;exact Zd ho hm
 have B59:But p H5 H9:=((B6.trans B7).trans B8).trans B9
 have hl9:=B59 l _ hl5 npl.symm
 have nlm:l≠m:=Zd hl9 hm
 refine⟨(by show 0≤sizeLine;decide),fun r hr0=>?_⟩
 have L10:ZaF (upd H9 m (.lst (([d1,4,5,6,8,3+d2,7+d3,20+d4]:List Int).map V.int))) p (c5+1+1+1+1):=L9.new hm
 have hm10:(upd H9 m (.lst (([d1,4,5,6,8,3+d2,7+d3,20+d4]:List Int).map V.int))) m=some (.lst (([d1,4,5,6,8,3+d2,7+d3,20+d4]:List Int).map V.int)):=Zb
 have hl10:(upd H9 m (.lst (([d1,4,5,6,8,3+d2,7+d3,20+d4]:List Int).map V.int))) l=some (.lst (ss.map V.str)):=by rw[Ze nlm];exact hl9
 have B010:But p H (upd H9 m (.lst (([d1,4,5,6,8,3+d2,7+d3,20+d4]:List Int).map V.int))):=(B5.trans B59).trans (But.same (Zh hm _))
 change (upd H9 m (.lst (([d1,4,5,6,8,3+d2,7+d3,20+d4]:List Int).map V.int))) r=none at hr0
 have npr:p≠r:=by obtain⟨o,ho⟩:=L10.here;exact Zd ho hr0
 have nlr:l≠r:=Zd hl10 hr0
 have nmr:m≠r:=Zd hm10 hr0
 have hrn:H r=none:=ZfO B010 npr hr0
 refine⟨_,rfl,_,rfl,p,c5+1+1+1+1,_,rfl,L10.new hr0,by omega,by decide,by decide,fun ix H11 ix0 ix1 L11 B11=>?_⟩
 have hm11:H11 m=some (.lst (([d1,4,5,6,8,3+d2,7+d3,20+d4]:List Int).map V.int)):=B11 m _ (by rw[Ze nmr];exact hm10) npm.symm
 obtain⟨many,hmm,hat⟩:=ZkM (ns:=[d1,4,5,6,8,3+d2,7+d3,20+d4]) ix0 ix1
 have hm1:0≤many∧many≤60:=by
  simp only[List.mem_cons,List.not_mem_nil,or_false]at hmm
  omega
 refine(xw4 m _ _ _ ⟨rfl,rfl,SqL.of hm11,hat,_,rfl,by omega,by omega,?_⟩)
 have hr11:H11 r=some (.lst (([]:List Str).map V.str)):=B11 r _ Zb npr.symm
 have hl11:H11 l=some (.lst (ss.map V.str)):=B11 l _ (by rw[Ze nlr];exact hl10) npl.symm
 have B011:But p H H11:=(B010.trans (But.same (Zh hr0 _))).trans B11
 refine Zbb (fun i σ H2=>∃ (ts:List Str) (v1 v2:Option V) (c2:Int),σ=[some (.ref p),some (.ref l),some (.ref m),some (.ref r),v1,v2,none,none]∧H2 r=some (.lst (ts.map V.str))∧H2 l=some (.lst (ss.map V.str))∧ts.length=i∧(∀s∈ts,s.length≤28∧AZ s)∧ZaF H2 p c2∧c5+5≤c2∧c2≤c5+5+8*i∧(∀b o,H b=some o→b≠p→H2 b=some o)) ⟨[],none,none,c5+1+1+1+1+1,rfl,hr11,hl11,rfl,(fun s hs=>by cases hs),L11,by omega,by omega,B011⟩ ?_ ?_
 ·rintro i σ H2 hi ⟨ts,v1,v2,c2,rfl,hr2,hl2,hn,h28,L2,a1',a2',B2⟩
  have hi60:(i:Int)<61:=by omega
  refine⟨_,rfl,_,rfl,p,l,c2,ss,rfl,L2,by omega,hl2,n1,n4,h24,fun key c3 H3 hkey hkaz L3 a3 a4 B3=>?_⟩
  have hr3:=B3 r _ hr2 npr.symm
  have hl3:=B3 l _ hl2 npl.symm
  have fin:∀ (k2:Str) (c4:Int) (H4:Hp),k2.length≤28∧AZ k2→ZaF H4 p c4→c2≤c4→c4≤c2+8→H4 r=some (.lst (ts.map V.str))→H4 l=some (.lst (ss.map V.str))→(∀b o,H b=some o→b≠p→H4 b=some o) →
    ∃ (ts':List Str) (v1 v2:Option V) (c5':Int),[some (V.ref p),some (V.ref l),some (V.ref m),some (V.ref r),some (V.int (0+(i:Int))),some (V.str k2),none,none]=[some (.ref p),some (.ref l),some (.ref m),some (.ref r),v1,v2,none,none] ∧
     (upd H4 r (.lst (ts.map V.str++[.str k2]))) r=some (.lst (ts'.map V.str))∧(upd H4 r (.lst (ts.map V.str++[.str k2]))) l=some (.lst (ss.map V.str))∧ts'.length=i+1∧(∀s∈ts',s.length≤28∧AZ s)∧ZaF (upd H4 r (.lst (ts.map V.str++[.str k2]))) p c5'∧c5+5≤c5'∧c5'≤c5+5+8*((i+1:Nat):Int) ∧
     (∀b o,H b=some o→b≠p→(upd H4 r (.lst (ts.map V.str++[.str k2]))) b=some o):=fun k2 c4 H4 hk L4 b1 b2 hr4 hl4 B4=>by
   refine⟨ts++[k2],_,_,c4,rfl,?_,?_,by rw[Qe,hn];rfl,?_,L4.at npr,by clear B4 hk a4 a3 hkey B2 h28 hi hm1 ix1 ix0 nmr nlr npr nlm npm d41 d40 d31 d30 d21 d20 d11 d10 npl a2 a1 h24 n4 n1 c0 q c1 b2 hi60 a2' hn;omega,by omega,fun b o e n=>?_⟩
   ·rw[Zb,Qf];rfl
   ·rw[Ze nlr];exact hl4
   ·intro x hx
    rcases Qh.mp hx with hx|hx
    ·exact h28 x hx
    ·rw[Qd.mp hx];exact hk
   ·rw[Ze (Zd e hrn)]
    exact B4 b o e n
  have hlt:(ts.map V.str).length<sizeLine:=by rw[Qa,hn];exact ZH (by omega)
  refine⟨_,rfl,(by show 0≤sizeLine;decide),fun e he=>?_⟩
  have hr3':(upd H3 e (.lst [])) r=some (.lst (ts.map V.str)):=by rw[Ze (Zd hr3 he)];exact hr3
  have hl3':(upd H3 e (.lst [])) l=some (.lst (ss.map V.str)):=by rw[Ze (Zd hl3 he)];exact hl3
  refine⟨.list (ts.map PyData.str),.list [],.lst (SqL.of hr3') (ZfJ ts),.lst (SqL.of Zb) .nil,ZdQ ts (fun s h=>(h28 s h).2),(by ac_rfl),_,rfl,?_⟩
  have B3':∀b o,H b=some o→b≠p→(upd H3 e (.lst [])) b=some o:=fun b o z n=>Zh he _ b o (B3 b o (B2 b o z n) n)
  cases ts with
  | nil =>
   have ev:(if true=true then !PyData.eqv (.list (([]:List Str).map PyData.str)) (.list []) else PyData.eqv (.list (([]:List Str).map PyData.str)) (.list []))=false:=by ac_rfl
   rw[ev]
   refine Zcl (Zcl ?_)
   refine⟨_,rfl,.inl ⟨rfl,_,SqL.of hr3'⟩,_,rfl,r,_,_,rfl,rfl,hr3',hlt,?_⟩
   exact fin key c3 _ ⟨hkey,hkaz⟩ (L3.new he) (by omega) (by omega) hr3' hl3' B3'
  | cons t0 tr =>
   have ev:(if true=true then !PyData.eqv (.list ((t0::tr).map PyData.str)) (.list []) else PyData.eqv (.list ((t0::tr).map PyData.str)) (.list []))=true:=by simp[PyData.eqv,PyData.eqvAll]
   rw[ev]
   refine ZgW ⟨_,rfl,p,c3,_,rfl,L3.new he,by omega,by decide,by decide,fun d H5' d0 d1' L5' B5'=>?_⟩
   have hr5:=B5' r _ hr3' npr.symm
   have hl5':=B5' l _ hl3' npl.symm
   refine⟨rfl,_,rfl,ZaX (fun _=>?_) (fun _=>?_)⟩
   ·have hlen:((((t0::tr).map V.str).length:Nat):Int)=((t0::tr).length:Int):=by rw[Qa]
    have hpos:(0:Int)<((t0::tr).length:Int):=by simp
    refine⟨_,rfl,_,rfl,_,rfl,r,_,rfl,.inl (SqL.of hr5),p,c3+1,_,rfl,L5',by clear d1' d0 hlt fin h28 B3' hkey B2 a1' hi hm1 ix1 ix0 nmr nlr npr nlm npm d41 d40 d31 d30 d21 d20 d11 d10 npl h24 n4 n1 q hpos hlen hn a3 a1 c0;omega,by omega,by omega,fun d' H6' d0' d1'' L6' B6'=>?_⟩
    obtain⟨st,hs1,hs2⟩:=Zj7 (ss:=t0::tr) d0' (by omega)
    have hr6:=B6' r _ hr5 npr.symm
    refine(xw4 r _ _ _ ⟨rfl,rfl,SqL.of hr6,hs2,?_⟩)
    refine⟨_,rfl,.inl ⟨rfl,_,SqL.of hr6⟩,_,rfl,r,_,_,rfl,rfl,hr6,hlt,?_⟩
    exact fin st _ _ (h28 st hs1) L6' (by omega) (by omega) hr6 (B6' l _ hl5' npl.symm) fun b o z n=>B6' b o (B5' b o (B3' b o z n) n) n
   ·refine⟨_,rfl,.inl ⟨rfl,_,SqL.of hr5⟩,_,rfl,r,_,_,rfl,rfl,hr5,hlt,?_⟩
    exact fin key _ _ ⟨hkey,hkaz⟩ L5' (by omega) (by omega) hr5 hl5' fun b o z n=>B5' b o (B3' b o z n) n
 ·rintro σ H2 ⟨ts,v1,v2,c2,rfl,hr2,hl2,hn,h28,L2,a1',a2',B2⟩
  have hn60:ts.length≤60:=by omega
  refine⟨_,rfl,p,c2,_,rfl,L2,by omega,by decide,by decide,fun wy H3 w0 w1 L3 B3=>?_⟩
  have hr3:=B3 r _ hr2 npr.symm
  have B03:But p H H3:=fun b o h n=>B3 b o (B2 b o h n) n
  refine⟨_,rfl,r,_,rfl,.inl (SqL.of hr3),_,_,rfl,rfl,⟨by decide,by decide⟩,?_⟩
  refine⟨_,rfl,rfl,_,rfl,ZaX (fun _=>?_) (fun _=>?_)⟩
  ·refine⟨_,rfl,r,ts,rfl,SqL.of hr3,by omega,fun x rs hx perm srt=>?_⟩
   have npx:p≠x:=by obtain⟨o,ho⟩:=L3.here;exact Zd ho hx
   exact q x rs _ _ (ZfO B03 npx hx) Zb (by rw[perm.length_eq];omega) (fun s hs=>h28 s (perm.mem_iff.mp hs)) (L3.new hx) (by clear npx w1 w0 B2 h28 hm1 ix1 ix0 nmr nlr npr nlm npm d41 d40 d31 d30 d21 d20 d11 d10 npl h24 n4 n1 c0 q c1 hn60 a2' hn a2;omega) (by omega) (B03.trans (But.same (Zh hx _)))
  refine⟨_,rfl,rfl,_,rfl,ZaX (fun _=>?_) (fun _=>?_)⟩
  ·refine⟨_,rfl,r,ts,rfl,SqL.of hr3,by omega,fun x rs hx perm srt=>?_⟩
   refine⟨_,rfl,_,rfl,_,rfl,x,_,rfl,SqL.of Zb,by decide,fun y hy=>?_⟩
   have B04:=B03.trans (But.same (Zh hx (.lst (rs.map V.str))))
   have L4:ZaF (upd H3 x (.lst (rs.map V.str))) p (c2+1):=L3.new hx
   have npy:p≠y:=by obtain⟨o,ho⟩:=L4.here;exact Zd ho hy
   exact q y rs.reverse _ _ (ZfO B04 npy hy) (by rw[Zb,Zl1,List.map_reverse]) (by rw[List.length_reverse,perm.length_eq];omega) (fun s hs=>h28 s (perm.mem_iff.mp (Qa0.mp hs))) (L4.new hy) (by clear npy w1 w0 B2 h28 hm1 ix1 ix0 nmr nlr npr nlm npm d41 d40 d31 d30 d21 d20 d11 d10 npl h24 n4 n1 c0 q c1 hn60 a2' hn a2;omega) (by omega) (B04.trans (But.same (Zh hy _)))
  refine⟨_,rfl,rfl,_,rfl,ZaX (fun _=>?_) (fun _=>?_)⟩
  ·have hcut:((((ts.map V.str).length:Nat):Int) / 2)=((ts.length / 2:Nat):Int):=by rw[Qa];omega
   simp only[hcut]
   obtain⟨e1,e2⟩:=Znj ts (ts.length / 2) (by omega)
   refine⟨_,rfl,_,rfl,_,rfl,r,_,rfl,SqL.of hr3,fun y hy=>?_⟩
   rw[e1]
   refine⟨y,ts.take (ts.length / 2),rfl,SqL.of Zb,by rw[Qx];omega,fun x rs hx perm srt=>?_⟩
   have S5:ZC H3 (upd (upd H3 y (.lst ((ts.take (ts.length / 2)).map V.str))) x (.lst (rs.map V.str))):=(Zh hy _).trans (Zh hx _)
   have hx5:(upd (upd H3 y (.lst ((ts.take (ts.length / 2)).map V.str))) x (.lst (rs.map V.str))) x=some (.lst (rs.map V.str)):=Zb
   generalize upd (upd H3 y (.lst ((ts.take (ts.length / 2)).map V.str))) x (.lst (rs.map V.str))=H5x at S5 hx5 ⊢
   refine⟨_,rfl,_,rfl,_,rfl,r,_,rfl,SqL.of (S5 _ _ hr3),fun y2 hy2=>?_⟩
   rw[e2]
   refine⟨y2,ts.drop (ts.length / 2),rfl,SqL.of Zb,by rw[QR];omega,fun x2 rs2 hx2 perm2 srt2=>?_⟩
   have S6:ZC H5x (upd (upd H5x y2 (.lst ((ts.drop (ts.length / 2)).map V.str))) x2 (.lst (rs2.map V.str))):=(Zh hy2 _).trans (Zh hx2 _)
   have hx6:(upd (upd H5x y2 (.lst ((ts.drop (ts.length / 2)).map V.str))) x2 (.lst (rs2.map V.str))) x2=some (.lst (rs2.map V.str)):=Zb
   generalize upd (upd H5x y2 (.lst ((ts.drop (ts.length / 2)).map V.str))) x2 (.lst (rs2.map V.str))=H6x at S6 hx6 ⊢
   have l1:=perm.length_eq
   have l2:=perm2.length_eq
   rw[Qx]at l1
   rw[QR]at l2
   refine⟨x,x2,_,_,rfl,rfl,S6 _ _ hx5,hx6,(by rw[Qa,Qa];exact small (by clear hcut w1 w0 B2 a2' a1' h28 hm1 ix1 ix0 nmr nlr npr nlm npm d41 d40 d31 d30 d21 d20 d11 d10 npl a2 a1 h24 n4 n1 c0 q c1 hn;omega)),fun z hz=>?_⟩
   have L6x:=(L3.same S5).same S6
   have npz:p≠z:=by obtain⟨o,ho⟩:=L6x.here;exact Zd ho hz
   have B06:But p H H6x:=B03.trans (But.same (S5.trans S6))
   refine q z (rs++rs2) _ _ (ZfO B06 npz hz) (by rw[Zb,Qf]) (by rw[Qe];clear npz hcut w1 w0 B2 a2' a1' h28 hm1 ix1 ix0 nmr nlr npr nlm npm d41 d40 d31 d30 d21 d20 d11 d10 npl a2 a1 h24 n4 n1 c0 q c1 hn;omega) (fun s hs=>?_) (L6x.new hz) (by omega) (by clear npz l2 l1 hcut w1 w0 B2 a1' h28 hm1 ix1 ix0 nmr nlr npr nlm npm d41 d40 d31 d30 d21 d20 d11 d10 npl h24 n4 n1 c0 q c1 a1;omega) (B06.trans (But.same (Zh hz _)))
   rcases Qh.mp hs with hs|hs
   ·exact h28 s (Qaq (perm.mem_iff.mp hs))
   ·exact h28 s (Qar (perm2.mem_iff.mp hs))
  ·exact⟨_,rfl,q r ts _ H3 hrn hr3 (by omega) h28 L3 (by clear w1 w0 B2 h28 hm1 ix1 ix0 nmr nlr npr nlm npm d41 d40 d31 d30 d21 d20 d11 d10 npl h24 n4 n1 c0 q c1 hn60 a2' hn a2;omega) (by omega) B03⟩
theorem Rd.out{H:Hp}{ls:List Addr}{ds:List (List Int)}(h:Rd H ls ds){l:Addr}(hl:H l=none):l ∉ ls:=fun hm=>by
 obtain⟨i,hi⟩:=List.mem_iff_getElem?.mp hm
 obtain⟨d,_,hd⟩:=h.at hi
 rw[hl]at hd;cases hd
theorem ZnB{ls:List Addr}{l:Addr}:atI ((ls++[l]).map V.ref) (-1)=some (.ref l):=by
 have e:ixN ((ls++[l]).map V.ref).length (-1)=some ls.length:=by
  unfold ixN
  rw[Qa,Qe,Qm,if_neg (by decide),if_pos (by omega)]
  congr 1
  omega
 unfold atI
 rw[e,Option.bind_some,Qi]
 simp
theorem Rd.split{H:Hp}:∀ {ls:List Addr} {ds:List (List Int)} {d:List Int},Rd H ls (ds++[d])→∃ms l,ls=ms++[l]∧Rd H ms ds∧H l=some (.lst (d.map V.int))
 | [],[],d,h=>h.elim
 | [],_::_,d,h=>h.elim
 | [l],[],d,h=>⟨[],l,rfl,trivial,h.1⟩
 | l::m::ls,[],d,h=>h.2.elim
 | l::ls,e::ds,d,h=>by
  obtain⟨ms,x,e1,e2,e3⟩:=Rd.split (ls:=ls) (ds:=ds) h.2
  exact⟨l::ms,x,by rw[e1];rfl,⟨h.1,e2⟩,e3⟩
noncomputable def ks(ss:List Str)(n:Int):Str×Int:=(ss.getD n.toNat "",n)
noncomputable def Zgx(ss:List Str)(A:List Int)(n:Int):Prop:=n∈A∧∀m∈A,ZP (kk (ks ss m)) (kk (ks ss n))=false
theorem Zkv{e f:Str×Int}(h:kk e=kk f):e=f:=by
 obtain⟨a,b⟩:=e
 obtain⟨c,d⟩:=f
 unfold kk at h
 injection h with h1 h2
 injection h2 with h2 _
 have e1:a=c:=Sum.inr.inj h1
 have e2:b=d:=Sum.inl.inj h2
 rw[e1,e2]
noncomputable def ltK(ss:List Str)(c n:Int):Prop:=cds (ss.getD c.toNat "")<cds (ss.getD n.toNat "")
inductive Res (ss:List Str):List Int→List Int→Nat→List Int→List (List Int)→List (List Int)→Prop where
 | stop0 {c:Nat} {done:List (List Int)}:Res ss [] [] c [] done done
 | stop {c:Nat} {g:Int} {gone:List Int} {done:List (List Int)}:Res ss [] [] c (g::gone) done (done++[g::gone])
 | switch {b:Int} {B:List Int} {c:Nat} {gone:List Int} {done R:List (List Int)}:Res ss (b::B) [] c [] (done++[gone]) R→Res ss [] (b::B) c gone done R
 | stepN {A B:List Int} {c:Nat} {gone:List Int} {done R:List (List Int)} {n:Int}:Zgx ss A n→¬ c<ss.length→Res ss (A.erase n) B c (gone++[n]) done R→Res ss A B c gone done R
 | stepA {A B:List Int} {c:Nat} {gone:List Int} {done R:List (List Int)} {n:Int}:Zgx ss A n→c<ss.length→¬ ltK ss c n→Res ss (A.erase n++[(c:Int)]) B (c+1) (gone++[n]) done R→Res ss A B c gone done R
 | stepB {A B:List Int} {c:Nat} {gone:List Int} {done R:List (List Int)} {n:Int}:Zgx ss A n→c<ss.length→ltK ss c n→Res ss (A.erase n) (B++[(c:Int)]) (c+1) (gone++[n]) done R→Res ss A B c gone done R
noncomputable def kt(ss:List Str)(r:Int)(n:Int):List Key:=[.inl r,.inr (ss.getD n.toNat ""),.inl n]
theorem Zrj{ss:List Str}{r n m:Int}:ZP (kt ss r n) (kt ss r m)=ZP (kk (ks ss n)) (kk (ks ss m)):=by
 unfold kt
 rw[Z8,if_pos rfl]
 rfl
theorem ZsP{ss:List Str}{r n m:Int}:ZP (kt ss r n) (kt ss (r+1) m)=true:=by
 unfold kt
 rw[Z8,if_neg (by intro z;have:=Sum.inl.inj z;omega)]
 exact decide_eq_true (by omega)
noncomputable def Zbx(ss:List Str)(r:Int)(A B:List Int):List (List Key):=A.map (kt ss r)++B.map (kt ss (r+1))
theorem ZqN{ss:List Str}{r:Int}{A B:List Int}{M:List (List Key)}(hp:M.Perm (Zbx ss r A B))(hA:A≠[]){t:List Key}(ht:t∈M)(hm:∀u∈M,ZP u t=false):∃n,t=kt ss r n∧Zgx ss A n:=by
 have h1:=hp.mem_iff.mp ht
 rcases Qh.mp h1 with h1|h1
 ·obtain⟨n,hn,rfl⟩:=Qw.mp h1
  refine⟨n,rfl,hn,fun m hm'=>?_⟩
  rw[← Zrj (r:=r)]
  exact hm _ (hp.mem_iff.mpr (Qs _ (Qp hm')))
 ·obtain⟨m,_,rfl⟩:=Qw.mp h1
  cases A with
  | nil=>exact absurd rfl hA
  | cons a A =>
   have:=hm _ (hp.mem_iff.mpr (Qs _ (Qp (Q1 (a:=a)))))
   rw[ZsP]at this;cases this
theorem ZoA{ss:List Str}{r:Int}{A B:List Int}{M M':List (List Key)}{n:Int}(hp:M.Perm (Zbx ss r A B))(hn:n∈A)(he:M.Perm (kt ss r n::M')):M'.Perm (Zbx ss r (A.erase n) B):=by
 have h1:(kt ss r n::M').Perm (Zbx ss r A B):=he.symm.trans hp
 have h3:(Zbx ss r A B).Perm (kt ss r n::Zbx ss r (A.erase n) B):=by
  unfold Zbx
  exact((List.perm_cons_erase hn).map (kt ss r)).append_right _
 exact(h1.trans h3).cons_inv
noncomputable def ZoM:Sp:=fun vs H Q _=>∃ (p:Addr) (c:Int),vs=[.ref p]∧ZaF H p c∧c<2 ^ 40∧∀ (v c':Int) (H':Hp),1≤v→v≤16→ZaF H' p c'→c≤c'→c'≤c+2→But p H H'→Q (.int v) H'
theorem ZpV(T:Zaf K mg cRow cMerge)(f_l_pick:Df P w K mg base 2 "_law_pick" ["_law_left_here", "_law_many"] ZdT):Df P w K mg base 3 "_law_room" ["_law_left_here"] ZoM:=by
 refine T.t_l_room.df Zl8 (fun vs H Q E h=>?_) (fun cdv f A outer s H vs Q E hr h=>?_)
 ·obtain⟨p,c,rfl,_⟩:=h
  rfl
 obtain⟨p,c,rfl,hL,c1,q⟩:=h
 refine⟨_,#[Zj,#[Zm,#[Zz,(ixL K),#[Zbg,#[Za,#[Zi],#[Za,#[Zi],#[Za,#[Zi],#[Za,#[Zi],#[Za,#[Zi],#[Za,#[Zi],#[Za,#[Zi],#[Za,#[ZF,Zac,#[Zi],#[ZB,f_l_pick,hr,#[Za,‹0›,#[Za,#[Zi],#[Zc]]],(by rfl)]],#[Zc]]]]]]]]]],#[ZB,f_l_pick,hr,#[Za,‹0›,#[Za,#[Zi],#[Zc]]],(by rfl)]]]],?_⟩
 have c0:=hL.ge
 refine⟨_,rfl,p,c,_,rfl,hL,by omega,by decide,by decide,fun d H1 d0 d1 L1 B1=>⟨_,_,rfl,rfl,(by show 8≤sizeLine;decide),fun e he=>?_⟩⟩
 have npe:p≠e:=by obtain⟨o,ho⟩:=L1.here;exact Zd ho he
 refine⟨_,rfl,p,c+1,_,rfl,L1.new he,by omega,by decide,by decide,fun i H2 i0 i1 L2 B2=>?_⟩
 obtain⟨v,hv,hat⟩:=ZkM (ns:=[1,2,3,4,5,2,3,1+d]) i0 i1
 have he2:H2 e=some (.lst (([1,2,3,4,5,2,3,1+d]:List Int).map V.int)):=B2 e _ Zb npe.symm
 have hv1:1≤v∧v≤16:=by
  simp only[List.mem_cons,List.not_mem_nil,or_false]at hv
  omega
 exact(xw4 e _ _ _ ⟨rfl,rfl,SqL.of he2,hat,q v _ _ hv1.1 hv1.2 L2 (by omega) (by omega) ((B1.trans (But.same (Zh he _))).trans B2)⟩)
noncomputable def Zjj:Sp:=fun vs H Q _=>∃ (r:Int) (x y:Str),vs=[.int r,.str x,.str y]∧x.length≤1000∧y.length≤1000∧(¬ cds y<cds x→Q (.int r) H)∧(cds y<cds x→Q (.int (r+1)) H)
theorem ZmA(T:Zaf K mg cRow cMerge)(f_liken:Df P w K mg base 3 "liken" ["one", "other"] ZeS):Df P w K mg base 4 "run_behind" ["run", "key", "comer"] Zjj:=by
 refine T.t_run_behind.df ZgU (fun vs H Q E h=>?_) (fun cdv f A outer s H vs Q E hr h=>?_)
 ·obtain⟨r,x,y,rfl,_⟩:=h
  rfl
 obtain⟨r,x,y,rfl,hx,hy,q1,q2⟩:=h
 refine⟨_,#[Zj,#[Zm,#[Zbq,#[Zn,Znc,#[ZB,f_liken,hr,#[Za,‹2›,#[Za,‹1›,#[Zc]]],(by rfl)],#[Zi],(Zs _)],‹0›,#[ZF,Zac,‹0›,#[Zi]]]]],?_⟩
 refine⟨_,rfl,_,rfl,y,x,rfl,hy,hx,_,_,rfl,rfl,_,rfl,ZaX (fun d=>?_) (fun d=>?_)⟩
 ·have d':(0:Int)≤ZJ (cds y) (cds x):=of_decide_eq_true d
  exact⟨_,rfl,q1 (fun z=>by have:=(ZbR _ _).mp z;omega)⟩
 ·have d':¬ (0:Int)≤ZJ (cds y) (cds x):=fun z=>d (decide_eq_true z)
  exact⟨_,rfl,_,_,rfl,rfl,q2 ((ZbR _ _).mpr (by omega))⟩
noncomputable def first(k:Nat):List Int:=Zx 0 k
noncomputable def ZmM(K:PySem.W.Frag):Sp:=fun vs H Q _=>∃ (a:Addr) (ss:List Str) (room:Nat),vs=[.ref a,.int room]∧SqL K H a (ss.map V.str)∧ss.length≤60∧(∀s∈ss,s.length≤1000)∧room≤100 ∧
 ∀ (r:Addr) (ls:List Addr) (R:List (List Int)) (H':Hp),H r=none→H' r=some (.lst (ls.map V.ref))→r ∉ ls→(∀l∈ls,H l=none)→Rd H' ls R→Res ss (first (min room ss.length)) [] (min room ss.length) [] [] R→R.length≤100→(∀d∈R,d.length≤100)→ZC H H'→Q (.ref r) H'
theorem Zef{k:Nat}{n:Int}(h:n∈first k):0≤n∧n<k:=by
 unfold first Zx at h
 obtain⟨m,hm,rfl⟩:=Qw.mp h
 have:=QU.mp hm
 omega
theorem Zfe{ss:List Str}{n:Int}(h0:0≤n)(h:n<ss.length):atI (ss.map V.str) n=some (.str (ss.getD n.toNat "")):=by
 have hk:n.toNat<ss.length:=by omega
 have ek:n=((n.toNat:Nat):Int):=by omega
 have q:atI (ss.map V.str) ((n.toNat:Nat):Int)=some (.str ss[n.toNat]):=ZX (by rw[Qi,Qb hk]<;>rfl)
 rw[← ek]at q
 rw[q,Qk,Qb hk];rfl
theorem Zf0{ss:List Str}(h:∀s∈ss,s.length≤1000)(n:Nat):(ss.getD n "").length≤1000:=by
 rw[Qk]
 cases hx:ss[n]? with
 | none=>decide
 | some z=>exact h z (Qo hx)
noncomputable def Zcw(gone:List Int)(done:List (List Int)):List (List Int):=if gone=[] then done else done++[gone]
structure At (ss:List Str) (k:Nat) (H0 H:Hp) (ia ru:Addr) (ts:Zcu) (ls:List Addr) (A B:List Int) (c:Nat) (gone:List Int) (done:List (List Int)):Prop where
 ins:H ia=some (.lst (Zag ts))
 att:AtT H ts
 per:(ts.map (·.2)).Perm (Zbx ss (done.length:Int) A B)
 run:H ru=some (.lst (ls.map V.ref))
 rd:Rd H ls (Zcw gone done)
 rul:ru ∉ ls
 nd:ls.Nodup
 fr:∀l∈ls,H0 l=none
 ne:ia≠ru
 nil:ia ∉ ls
 sm:ZC H0 H
 i0:H0 ia=none
 r0:H0 ru=none
 hc:c≤ss.length
 mem:∀n∈A++B,0≤n∧n<c
 cnt:((Zcw gone done).map List.length).sum+A.length+B.length+(ss.length-c)=ss.length
 nem:∀d∈done,d≠[]
 go:B≠[]→A=[]→gone≠[]
 res:∀R,Res ss A B c gone done R→Res ss (first k) [] k [] [] R
theorem Zcg(k:Nat):(first k).length=k:=ZR 0 k
theorem Zeg:∀D:List (List Int),(∀d∈D,d≠[])→D.length≤(D.map List.length).sum∧∀d∈D,d.length≤(D.map List.length).sum
 | [],_=>⟨Qg _,fun d h=>by cases h⟩
 | x::r,h=>by
  obtain⟨a,b⟩:=Zeg r fun d hd=>h d (Qu _ hd)
  have hx:x.length≠0:=fun z=>h x (by simp) (QN z)
  rw[Ql,Q0,QE]
  refine⟨by omega,fun d hd=>?_⟩
  rcases QK.mp hd with rfl|hd
  ·omega
  ·have:=b d hd;omega
structure In (ss:List Str) (k:Nat) (H0 H:Hp) (h1 la go fo:Addr) (ls:List Addr) (A B:List Int) (c:Nat) (gone:List Int) (done:List (List Int)):Prop where
 hA:H h1=some (.lst (A.map V.int))
 hB:H la=some (.lst (B.map V.int))
 hG:H go=some (.lst (gone.map V.int))
 hF:H fo=some (.lst (ls.map V.ref))
 rd:Rd H ls done
 d1:h1≠la
 d2:h1≠go
 d3:la≠go
 e1:h1≠fo
 e2:la≠fo
 e3:go≠fo
 l0:fo ∉ ls
 l1:h1 ∉ ls
 l2:la ∉ ls
 l3:go ∉ ls
 f0:H0 fo=none
 f1:H0 h1=none
 f2:H0 la=none
 f3:H0 go=none
 fl:∀l∈ls,H0 l=none
 sm:ZC H0 H
 hc:c≤ss.length
 mem:∀n∈A++B,0≤n∧n<c
 cnt:(done.map List.length).sum+gone.length+A.length+B.length+(ss.length-c)=ss.length
 nem:∀d∈done,d≠[]
 go':A≠[]∨gone≠[]
 res:∀R,Res ss A B c gone done R→Res ss (first k) [] k [] [] R
structure Out (ss:List Str) (k:Nat) (H0 H:Hp) (h1 fo:Addr) (ls:List Addr) (A:List Int) (c:Nat) (done:List (List Int)):Prop where
 hA:H h1=some (.lst (A.map V.int))
 hF:H fo=some (.lst (ls.map V.ref))
 rd:Rd H ls done
 e1:h1≠fo
 l0:fo ∉ ls
 l1:h1 ∉ ls
 f0:H0 fo=none
 f1:H0 h1=none
 fl:∀l∈ls,H0 l=none
 sm:ZC H0 H
 hc:c≤ss.length
 mem:∀n∈A,0≤n∧n<c
 cnt:(done.map List.length).sum+A.length+(ss.length-c)=ss.length
 nem:∀d∈done,d≠[]
 res:∀R,Res ss A [] c [] done R→Res ss (first k) [] k [] [] R
noncomputable def Ord(E:List (Str×Int)):Prop:=E.Pairwise fun a b=>ZP (kk b) (kk a)=false
theorem Zku{ts' ts:Zcu}{E:List (Str×Int)}(hE:ts.map (·.2)=E.map kk)(pm:ts'.Perm ts)(pw:ts'.Pairwise (fun a b=>ZP b.2 a.2=false)):∃E',E'.Perm E∧ts'.map (·.2)=E'.map kk∧Ord E':=by
 obtain⟨E',p,e⟩:=Zjs kk (pm.map (·.2)) E hE
 refine⟨E',p,e,?_⟩
 have:(ts'.map (·.2)).Pairwise (fun a b=>ZP b a=false):=List.pairwise_map.mpr pw
 rw[e]at this
 exact List.pairwise_map.mp this
theorem Zl4{K:PySem.W.Frag}{a:Addr}{xs:List V}{k:Nat}{D:Addr}{σ:L2.St}{H1:Hp}{g:TG}{te:TE}{Q:VK}(Pv:Nat→List V→L2.St→Hp→Prop)(h0:Pv 0 [] (σ++List.replicate k none) (upd H1 D (.lst [])))
  (hl:∀i zs σ H,Pv i zs σ H→SqL K H a xs)
  (hs:∀i zs σ H x p,xs[i]? = some x→Pv i zs σ H→H p=none→g (.ref p) σ (upd H p (.tup [.int i,x])) fun σ4 H4=>te σ4 H4 fun z H6=>H6 D=some (.lst zs)∧zs.length<sizeLine∧Pv (i+1) (zs++[z]) σ4 (upd H6 D (.lst (zs++[z]))))
  (hd:∀zs σ H,Pv xs.length zs σ H→Q (.ref D) H):Zfo (Ite K a) D k σ H1 g ZiJ te Q:=by
 refine⟨fun i m zs σ H=>m=xs.length-i∧i≤xs.length∧Pv i zs σ H,⟨xs.length,by simp,Qv _,h0⟩,?_⟩
 rintro i m zs σ H ⟨rfl,hi,p⟩
 have q1:=hl i zs σ H p
 by_cases hlt:i<xs.length
 ·refine .inr ⟨⟨xs,q1,hlt⟩,Pv (i+1),fun ys' σ' H' p'=>⟨xs.length-(i+1),by omega,rfl,hlt,p'⟩,fun x H' y=>?_⟩
  obtain⟨r,hr,rfl,e⟩:=y
  have e':=e xs q1 _ (Qb hlt)
  subst e'
  simp only[ZiJ,↓reduceIte]
  exact hs i zs σ H _ r (Qb hlt) p hr
 ·have e:i=xs.length:=by omega
  exact .inl ⟨⟨xs,q1,by omega⟩,hd zs σ H (e ▸ p)⟩
noncomputable def Ris(ss:List Str)(ns:List Int):Prop:=∀ (p:Nat) (x y:Int),ns[p]? = some x→ns[p+1]? = some y→ZP (kk (ks ss x)) (kk (ks ss y))=true
theorem Zjg(ss:List Str)(n:Nat):((first n).map (ks ss)).Nodup:=by
 unfold first Zx
 rw[QB]
 refine QaR _ (fun a b h=>?_) List.nodup_range
 intro z
 have:=congrArg Prod.snd z
 exact h (by simp only[Function.comp_apply,ks]at this;omega)
theorem Zrh{ss:List Str}{n:Nat}{E:List (Str×Int)}(hp:E.Perm ((first n).map (ks ss)))(ho:Ord E):Ris ss (E.map (·.2))∧(∀m∈E.map (·.2),(0:Int)≤m∧m<(n:Int))∧E.length=n:=by
 have he:∀e∈E,e=ks ss e.2∧(0:Int)≤e.2∧e.2<(n:Int):=fun e h=>by
  obtain⟨m,hm,rfl⟩:=Qw.mp (hp.mem_iff.mp h)
  exact⟨rfl,Zef hm⟩
 refine⟨fun p x y hx hy=>?_,fun m hm=>?_,?_⟩
 ·rw[Qi]at hx hy
  cases h1:E[p]? with
  | none=>rw[h1]at hx;cases hx
  | some e =>
   cases h2:E[p+1]? with
   | none=>rw[h2]at hy;cases hy
   | some f =>
    rw[h1]at hx
    rw[h2]at hy
    cases hx
    cases hy
    obtain⟨l1,g1⟩:=Qc.mp h1
    obtain⟨l2,g2⟩:=Qc.mp h2
    have o:=Q9.mp ho p (p+1) l1 l2 (by omega)
    have nd:=Q9.mp (hp.nodup_iff.mpr (Zjg ss n)) p (p+1) l1 l2 (by omega)
    rw[g1,g2]at o nd
    rw[← (he e (Qo h1)).1,← (he f (Qo h2)).1]
    cases hb:ZP (kk e) (kk f) with
    | true=>rfl
    | false=>exact absurd (Zkv (ZbT _ _ hb o)) nd
 ·obtain⟨e,h,rfl⟩:=Qw.mp hm
  exact(he e h).2
 ·rw[hp.length_eq,Qa,Zcg]
noncomputable def Zhe(K:PySem.W.Frag):Sp:=fun vs H Q _=>∃ (a:Addr) (ss:List Str),vs=[.ref a]∧SqL K H a (ss.map V.str)∧ss.length≤60 ∧
 ∀ (r:Addr) (ns:List Int) (H':Hp),H r=none→H' r=some (.lst (ns.map V.int))→ns.length=ss.length→(∀n∈ns,0≤n∧n<ss.length)→Ris ss ns→ZC H H'→Q (.ref r) H'
theorem ZiT(T:Zaf K mg cRow cMerge):Df P w K mg base 1 "_law_in_order" ["_law_things_here"] (Zhe K):=by
 refine T.t_l_in_order.df ZgO (fun vs H Q E h=>?_) (fun cdv f A outer s H vs Q E hr h=>?_)
 ·obtain⟨a,ss,rfl,_⟩:=h
  rfl
 obtain⟨a,ss,rfl,hS,h60,q⟩:=h
 refine⟨_,#[Zj,#[Zm,#[Zav,Zpt,#[iL,K,#[Zk,(Zta K),(by rfl),T.b.n_sorted,boot_sorted,#[Za,#[Zav,ZmJ,#[iE,K,T.b.n_enumerate,#[Za,‹0›,#[Zc]]],(fun _ _ _ _=>#[gT,K,2,#[Zv,#[cgL,1,ZmJ],#[Zv,#[cgL,2,ZmJ],(@ZaE _)]]]),(fun _ _ _ _=>(@Zaw _)),(fun _ _ _ _=>#[ZT,#[Za,#[cwL,2,ZmJ],#[Za,#[cwL,1,ZmJ],#[Zc]]]])],#[Zc]]]],(fun _ _ _ _=>#[gT,K,2,#[Zv,#[cgL,1,Zpt],#[Zv,#[cgL,2,Zpt],(@ZaE _)]]]),(fun _ _ _ _=>(@Zaw _)),(fun _ _ _ _=>#[cwL,2,Zpt])]]],?_⟩
 refine⟨_,rfl,a,ss.map V.str,rfl,hS,fun D hD=>?_⟩
 refine Zl4 (K:=K) (a:=a) (xs:=ss.map V.str) (fun i zs σ H2=>(∃v1 v2:Option V,σ=[some (.ref a),v1,v2])∧(∃ts:Zcu,zs=Zag ts∧AtT H2 ts∧ts.length=i∧ts.map (·.2)=((first i).map (ks ss)).map kk)∧i≤ss.length∧H2 D=some (.lst zs)∧ZC H H2) ?_ (fun _ _ _ _ h=>h.2.2.2.2.seq hS) ?_ ?_
 ·exact⟨⟨none,none,rfl⟩,⟨[],rfl,(fun t h=>by cases h),rfl,rfl⟩,Qv _,Zb,Zh hD _⟩
 ·rintro i zs σ H2 x p hx ⟨⟨v1,v2,rfl⟩,⟨ts,rfl,hat,htl,hE⟩,hi',hD2,s2⟩ hp
  rw[Qi]at hx
  cases hy:ss[i]? with
  | none=>rw[hy]at hx;cases hx
  | some y =>
   rw[hy]at hx
   cases hx
   have hil:i<ss.length:=(Qc.mp hy).1
   have sp:=Zh hp (.tup [.int i,.str y])
   have hp3:(upd H2 p (.tup [.int i,.str y])) p=some (.tup [.int i,.str y]):=Zb
   have hD3:=sp _ _ hD2
   have hat3:=AtT.mono hat sp
   have s3:=s2.trans sp
   generalize upd H2 p (.tup [.int i,.str y])=H3 at hp3 hD3 hat3 s3 ⊢
   refine⟨p,_,rfl,SqT.of hp3,rfl,_,_,rfl,_,_,rfl,rfl,?_⟩
   refine⟨_,rfl,_,rfl,(by show 2≤sizeLine;decide),fun n hn0=>?_⟩
   have sn:=Zh hn0 (.tup [.str y,.int i])
   have hD4:=sn _ _ hD3
   have nDn:D≠n:=Zd hD3 hn0
   refine⟨hD4,(by unfold Zag;rw[Qa,htl];exact ZH (by omega)),⟨_,_,rfl⟩,⟨ts++[(n,kk (ks ss (i:Int)))],by unfold Zag;rw[Qf];rfl,fun t ht=>?_,by rw[Qe,Qm];omega,?_⟩,by omega,Zb,fun b o hb=>?_⟩
   ·rcases Qh.mp ht with ht|ht
    ·exact Zbj hD4 _ _ _ (sn _ _ (hat3 t ht))
    ·rw[Qd.mp ht,Ze nDn.symm]
     have ey:ss.getD i "" = y:=by rw[Qk,hy];rfl
     show (upd H3 n _) n=_
     rw[Zb,← ey]
     rfl
   ·rw[Qf,hE]
    unfold first Zx
    rw[Qaj,Qf,Qf,Qf]
    simp
   ·rw[Ze (Zd hb hD)];exact sn _ _ (s3 b o hb)
 rintro zs σ H2 ⟨⟨v1,v2,rfl⟩,⟨ts,rfl,hat,htl,hE⟩,_,hD2,s2⟩
 rw[Qa]at hE htl
 have hsh:∀t∈ts,ZV t.2=[false,true]:=fun t ht=>by
  have:t.2∈((first ss.length).map (ks ss)).map kk:=by rw[← hE];exact Qp (f:=fun t:Addr×List Key=>t.2) ht
  obtain⟨m,_,e⟩:=Qw.mp this
  rw[← e];rfl
 refine⟨D,ts,[false,true],rfl,SqL.of hD2,hat,by simp,hsh,by omega,fun l ts' hl pm pw=>?_⟩
 obtain⟨E',pE,eE,oE⟩:=Zku hE pm pw
 obtain⟨hris,hmem,hEl⟩:=Zrh pE oE
 have s3:=s2.trans (Zh hl (.lst (Zag ts')))
 have hl3:(upd H2 l (.lst (Zag ts'))) l=some (.lst (Zag ts')):=Zb
 have hat3:AtT (upd H2 l (.lst (Zag ts'))) ts':=fun t ht=>Zh hl _ _ _ (hat t (pm.mem_iff.mp ht))
 generalize upd H2 l (.lst (Zag ts'))=H3 at s3 hl3 hat3 ⊢
 have htl':ts'.length=ss.length:=by rw[pm.length_eq];exact htl
 refine⟨l,rfl,⟨_,SqL.of hl3⟩,fun D3 hD3=>?_⟩
 refine Zbd (K:=K) (a:=l) (xs:=Zag ts') (fun i zs σ H4=>(∃v1 v2:Option V,σ=[some (.ref a),v1,v2])∧zs=((E'.take i).map (·.2)).map V.int∧i≤ts'.length∧H4 D3=some (.lst zs)∧ZC H3 H4) ?_ (fun _ _ _ _ h=>SqL.of (h.2.2.2.2 _ _ hl3)) ?_ ?_
 ·exact⟨⟨none,none,rfl⟩,rfl,Qv _,Zb,Zh hD3 _⟩
 ·rintro i x zs σ H4 hx ⟨⟨v1,v2,rfl⟩,rfl,hi3,hD4,s4⟩
  unfold Zag at hx
  rw[Qi]at hx
  cases ht:ts'[i]? with
  | none=>rw[ht]at hx;cases hx
  | some t =>
   rw[ht]at hx
   cases hx
   have hil:i<ts'.length:=(Qc.mp ht).1
   have hEi:E'[i]? = some E'[i]:=Qb (by omega)
   have e5:t.2=kk E'[i]:=by
    have:=congrArg (fun z=>z[i]?) eE
    simp only[List.getElem?_map,ht,hEi,Option.map_some]at this
    exact Qr this
   have hH:=s4 _ _ (hat3 t (Qo ht))
   rw[e5]at hH
   refine⟨t.1,_,rfl,SqT.of hH,rfl,_,_,rfl,_,_,rfl,rfl,?_⟩
   refine⟨_,rfl,hD4,(by rw[Qa,Qa,Qx];exact ZH (by omega)),⟨_,_,rfl⟩,?_,hil,Zb,fun b o hb=>?_⟩
   ·rw[QI,hEi,Qf,Qf];rfl
   ·rw[Ze (Zd hb hD3)];exact s4 b o hb
 rintro zs σ H4 ⟨⟨v1,v2,rfl⟩,rfl,hi3,hD4,s4⟩
 rw[show (Zag ts').length=ts'.length from Qa _,Qy (by omega)]at hD4
 exact q D3 _ H4 (s3.free hD3) hD4 (by rw[Qa];exact hEl) hmem hris (s3.trans s4)
inductive PT where
 | leaf (k:Int)
 | node (l:List PT)
mutual
inductive TV (H:Hp):V→PT→Prop where
 | leaf (k:Int):TV H (.int k) (.leaf k)
 | node {a:Addr} {xs:List V} {l:List PT}:H a=some (.tup xs)→TVs H xs l→TV H (.ref a) (.node l)
inductive TVs (H:Hp):List V→List PT→Prop where
 | nil:TVs H [] []
 | cons {x:V} {t:PT} {xs:List V} {l:List PT}:TV H x t→TVs H xs l→TVs H (x::xs) (t::l)
end
mutual
theorem TV.mono{H H':Hp}(s:∀a xs,H a=some (.tup xs)→H' a=some (.tup xs)):∀ {x:V} {t:PT},TV H x t→TV H' x t
 | _,_,.leaf k=>.leaf k
 | _,_,.node h hs=>.node (s _ _ h) (hs.mono s)
theorem TVs.mono{H H':Hp}(s:∀a xs,H a=some (.tup xs)→H' a=some (.tup xs)):∀ {xs:List V} {l:List PT},TVs H xs l→TVs H' xs l
 | _,_,.nil=>.nil
 | _,_,.cons h hs=>.cons (h.mono s) (hs.mono s)
end
mutual
noncomputable def toD:PT→PyData
 | .leaf k=>.int k
 | .node l=>.tuple (ZeW l)
noncomputable def ZeW:List PT→List PyData
 | []=>[]
 | t::r=>toD t::ZeW r
end
mutual
theorem TV.dv{K:PySem.W.Frag}{H:Hp}:∀ {x:V} {t:PT},TV H x t→DV K H x (toD t)
 | _,_,.leaf k=>.int k
 | _,_,.node h hs=>.tup (SqT.of h) hs.dv
theorem TVs.dv{K:PySem.W.Frag}{H:Hp}:∀ {xs:List V} {l:List PT},TVs H xs l→DVs K H xs (ZeW l)
 | _,_,.nil=>.nil
 | _,_,.cons h hs=>.cons h.dv hs.dv
end
theorem TVs.len{H:Hp}:∀ {xs:List V} {l:List PT},TVs H xs l→xs.length=l.length
 | _,_,.nil=>rfl
 | _,_,.cons _ hs=>by rw[QE,QE,hs.len]
theorem TVs.app{H:Hp}:∀ {xs ys:List V} {l m:List PT},TVs H xs l→TVs H ys m→TVs H (xs++ys) (l++m)
 | _,_,_,_,.nil,h=>h
 | _,_,_,_,.cons h hs,g=>.cons h (hs.app g)
theorem TVs.take{H:Hp}:∀ {xs:List V} {l:List PT} (n:Nat),TVs H xs l→TVs H (xs.take n) (l.take n)
 | _,_,0,_=>by rw[List.take_zero,List.take_zero];exact .nil
 | _,_,_+1,.nil=>.nil
 | _,_,n+1,.cons h hs=>.cons h (hs.take n)
theorem TVs.drop{H:Hp}:∀ {xs:List V} {l:List PT} (n:Nat),TVs H xs l→TVs H (xs.drop n) (l.drop n)
 | _,_,0,h=>h
 | _,_,_+1,.nil=>.nil
 | _,_,n+1,.cons _ hs=>hs.drop n
theorem TVs.at{H:Hp}:∀ {xs:List V} {l:List PT} {i:Nat} {x:V},TVs H xs l→xs[i]? = some x→∃t,l[i]? = some t∧TV H x t
 | _,_,i,x,.nil,h=>by simp at h
 | _,_,0,x,.cons (t:=t) h _,e=>by simp at e;subst e;exact⟨t,rfl,h⟩
 | _,_,i+1,x,.cons _ hs,e=>by simpa using hs.at (i:=i) (by simpa using e)
mutual
noncomputable def tSz(ns:List Int):PT→Int
 | .leaf k=>ns.getD k.toNat 0
 | .node l=>Zf4 ns l
noncomputable def Zf4(ns:List Int):List PT→Int
 | []=>0
 | t::r=>tSz ns t+Zf4 ns r
end
mutual
noncomputable def tCo(ns:List Int):PT→Int
 | .leaf _=>0
 | .node l=>Zcn ns l+Zf4 ns l
noncomputable def Zcn(ns:List Int):List PT→Int
 | []=>0
 | t::r=>tCo ns t+Zcn ns r
end
mutual
noncomputable def tLf:PT→Nat
 | .leaf _=>1
 | .node l=>Zbp l
noncomputable def Zbp:List PT→Nat
 | []=>0
 | t::r=>tLf t+Zbp r
end
mutual
noncomputable def tDp:PT→Nat
 | .leaf _=>0
 | .node l=>Zb8 l+1
noncomputable def Zb8:List PT→Nat
 | []=>0
 | t::r=>max (tDp t) (Zb8 r)
end
mutual
noncomputable def tNo:PT→Nat
 | .leaf _=>1
 | .node l=>ZcK l+1
noncomputable def ZcK:List PT→Nat
 | []=>0
 | t::r=>tNo t+ZcK r
end
mutual
noncomputable def tOk(n:Nat):PT→Prop
 | .leaf k=>0≤k∧k<n
 | .node l=>Zcv n l
noncomputable def Zcv(n:Nat):List PT→Prop
 | []=>True
 | t::r=>tOk n t∧Zcv n r
end
theorem ZjI(ns:List Int):∀a b:List PT,Zcn ns (a++b)=Zcn ns a+Zcn ns b
 | [],b=>by show Zcn ns b=0+Zcn ns b;omega
 | t::r,b=>by show tCo ns t+Zcn ns (r++b)=tCo ns t+Zcn ns r+Zcn ns b;rw[ZjI ns r b];omega
theorem Zd1:∀a b:List PT,Zbp (a++b)=Zbp a+Zbp b
 | [],b=>by show Zbp b=0+Zbp b;omega
 | t::r,b=>by show tLf t+Zbp (r++b)=tLf t+Zbp r+Zbp b;rw[Zd1 r b];omega
theorem Zd0(n:Nat):∀a b:List PT,Zcv n (a++b)↔Zcv n a∧Zcv n b
 | [],b=>by show Zcv n b↔True∧Zcv n b;simp
 | t::r,b=>by show tOk n t∧Zcv n (r++b)↔(tOk n t∧Zcv n r)∧Zcv n b;rw[Zd0 n r b,and_assoc]
theorem ZfK(n:Nat):∀ (l:List PT) (i:Nat) (t:PT),Zcv n l→l[i]? = some t→tOk n t
 | [],i,t,_,h=>by simp at h
 | a::r,0,t,h,e=>by simp at e;subst e;exact h.1
 | a::r,i+1,t,h,e=>ZfK n r i t h.2 (by simpa using e)
theorem ZfN:∀ (l:List PT) (i:Nat) (t:PT),l[i]? = some t→tDp t≤Zb8 l
 | [],i,t,h=>by simp at h
 | a::r,0,t,e=>by simp at e;subst e;show tDp a≤max (tDp a) (Zb8 r);omega
 | a::r,i+1,t,e=>by have:=ZfN r i t (by simpa using e);show tDp t≤max (tDp a) (Zb8 r);omega
mutual
theorem Zli:∀t:PT,1≤tNo t
 | .leaf _=>Qg _
 | .node l=>by show 1≤ZcK l+1;omega
theorem Znt:∀l:List PT,l.length≤ZcK l
 | []=>Qg _
 | t::r=>by have:=Zli t;have:=Znt r;show r.length+1≤tNo t+ZcK r;omega
end
mutual
theorem ZqD:∀t:PT,tLf t≤tNo t
 | .leaf _=>Qg _
 | .node l=>by have:=ZkP l;show Zbp l≤ZcK l+1;omega
theorem ZkP:∀l:List PT,Zbp l≤ZcK l
 | []=>Qg _
 | t::r=>by have:=ZqD t;have:=ZkP r;show tLf t+Zbp r≤tNo t+ZcK r;omega
end
noncomputable def tGd(t:PT):Prop:=tDp t+1≤tLf t∧tNo t+1≤2*tLf t
noncomputable def Zej:List PT→Prop
 | []=>True
 | t::r=>tGd t∧Zej r
theorem ZdD:∀a b:List PT,Zej (a++b)↔Zej a∧Zej b
 | [],b=>by show Zej b↔True∧Zej b;simp
 | t::r,b=>by show tGd t∧Zej (r++b)↔(tGd t∧Zej r)∧Zej b;rw[ZdD r b,and_assoc]
theorem Zja:∀l:List PT,Zej l→Zb8 l+l.length≤Zbp l∧ZcK l+l.length≤2*Zbp l∨l=[]
 | [],_=>.inr rfl
 | [t],h=>.inl (by have h1:=h.1.1;have h2:=h.1.2;show max (tDp t) 0+1≤tLf t+0∧tNo t+0+1≤2*(tLf t+0);omega)
 | t::u::r,h=>by
  have ih:=(Zja (u::r) h.2).resolve_right (by simp)
  have h1:=h.1.1
  have h2:=h.1.2
  left
  show max (tDp t) (Zb8 (u::r))+((u::r).length+1)≤tLf t+Zbp (u::r)∧tNo t+ZcK (u::r)+((u::r).length+1)≤2*(tLf t+Zbp (u::r))
  omega
theorem Zoi{l:List PT}(h:Zej l)(n:2≤l.length):tGd (.node l):=by
 have:=(Zja l h).resolve_right (by intro e;rw[e]at n;simp at n)
 show Zb8 l+1+1≤Zbp l∧ZcK l+1+1≤2*Zbp l
 omega
theorem Zmd{k:Int}(h0:0≤k)(h1:k≤10000000000):(PyData.int k).intsShort 13=true∧(PyData.int k).showable=true∧(PyData.int k).weight≤40:=by
 have hl:k.natAbs<2 ^ 34:=by omega
 have hlog:k.natAbs.log2<34:=by
  by_cases e:k.natAbs=0
  ·rw[e];decide
  ·exact(Nat.log2_lt e).mpr hl
 refine⟨?_,?_,?_⟩
 ·simp only[PyData.intsShort]
  exact decide_eq_true (PyData.shown_int_le (by omega))
 ·simp only[PyData.showable]
  exact decide_eq_true (by omega)
 ·simp only[PyData.weight]
  split<;>omega
mutual
theorem ZmV{n:Nat}(hn:n≤1000):∀t:PT,tOk n t→(toD t).canLay0=true∧(toD t).depth=tDp t∧(toD t).weight+1≤42*tNo t∧(toD t).intsShort 13=true∧(toD t).showable=true
 | .leaf k,h=>by
  obtain⟨h0,h1⟩:=h
  obtain⟨a,b,c⟩:=Zmd h0 (by omega)
  refine⟨by simp[toD,PyData.canLay0],by simp[toD,PyData.depth,tDp],?_,a,b⟩
  show (PyData.int k).weight+1≤42*1
  omega
 | .node l,h=>by
  obtain⟨a,b,c,d,e⟩:=ZhI hn l h
  refine⟨by simpa [toD,PyData.canLay0] using a,by simp[toD,PyData.depth,tDp,b],?_,by simpa [toD,PyData.intsShort] using d,by simpa [toD,PyData.showable] using e⟩
  show PyData.weightAll (ZeW l)+1≤42*(ZcK l+1)
  omega
theorem ZhI{n:Nat}(hn:n≤1000):∀l:List PT,Zcv n l→PyData.canLayAll0 (ZeW l)=true∧PyData.depthAll (ZeW l)=Zb8 l∧PyData.weightAll (ZeW l)≤42*ZcK l∧PyData.intsShortAll 13 (ZeW l)=true∧PyData.showableAll (ZeW l)=true
 | [],_=>⟨rfl,rfl,Qv _,rfl,rfl⟩
 | t::r,h=>by
  obtain⟨a,b,c,d,e⟩:=ZmV hn t h.1
  obtain⟨a',b',c',d',e'⟩:=ZhI hn r h.2
  have hp:=Zli t
  refine⟨by simp[ZeW,PyData.canLayAll0,a,a'],by simp[ZeW,PyData.depthAll,Zb8,b,b'],?_,by simp[ZeW,PyData.intsShortAll,d,d'],by simp[ZeW,PyData.showableAll,e,e']⟩
  show (toD t).weight+1+PyData.weightAll (ZeW r)≤42*(tNo t+ZcK r)
  clear hp b' b hn;omega
end
mutual
noncomputable def tLv:PT→List Int
 | .leaf k=>[k]
 | .node l=>Zak l
noncomputable def Zak:List PT→List Int
 | []=>[]
 | t::r=>tLv t++Zak r
end
mutual
noncomputable def tPl(w:Nat):PT→Prop
 | .leaf _=>True
 | .node l=>2≤l.length∧l.length≤w∧Zb3 w l
noncomputable def Zb3(w:Nat):List PT→Prop
 | []=>True
 | t::r=>tPl w t∧Zb3 w r
end
theorem Zc9:∀a b:List PT,Zak (a++b)=Zak a++Zak b
 | [],b=>rfl
 | t::r,b=>by show tLv t++Zak (r++b)=(tLv t++Zak r)++Zak b;rw[Zc9 r b,Q6]
theorem Zc1(w:Nat):∀a b:List PT,Zb3 w (a++b)↔Zb3 w a∧Zb3 w b
 | [],b=>by show Zb3 w b↔True∧Zb3 w b;simp
 | t::r,b=>by show tPl w t∧Zb3 w (r++b)↔(tPl w t∧Zb3 w r)∧Zb3 w b;rw[Zc1 w r b,and_assoc]
noncomputable def Znq:Sp:=fun vs H Q _=>(∃i:Int,vs=[.int i]∧Q (.bl true) H)∨(∃ (a:Addr) (xs:List V),vs=[.ref a]∧H a=some (.tup xs)∧Q (.bl false) H)
theorem ZlF(K:PySem.W.Frag):PySem.W.kitOne K (.type "tuple") (.type "int")=some false:=by unfold PySem.W.kitOne PySem.W.kitCls;rfl
theorem ZhZ(K:PySem.W.Frag):PySem.W.kitOne K (.type "int") (.type "tuple")=some false:=by unfold PySem.W.kitOne PySem.W.kitCls;rfl
theorem Zqy(T:Zaf K mg cRow cMerge):Df P w K mg base 1 "is_number" ["thing"] Znq:=by
 refine T.t_is_number.df ZiD (fun vs H Q E h=>?_) (fun cdv f A outer s H vs Q E hr h=>?_)
 ·rcases h with⟨_,rfl,_⟩|⟨_,_,rfl,_⟩<;>rfl
 refine⟨_,#[Zj,#[Zm,(@Zkq _ _ _ _ _ _ _ #[Zk,(Zmi K),(by rfl),T.b.n_isinstance,boot_isinstance,#[Za,‹0›,#[Za,#[Zhq,T.b.n_int,boot_int],#[Zc]]]] (@ZkD _ _ _ _ _ (@ZqE _ _ _ _ #[Zk,(Zmi K),(by rfl),T.b.n_isinstance,boot_isinstance,#[Za,‹0›,#[Za,#[Zhq,T.b.n_bool,boot_bool],#[Zc]]]])))]],?_⟩
 rcases h with⟨i,rfl,q⟩|⟨a,xs,rfl,ha,q⟩
 ·exact⟨_,rfl,_, "int",_,_,rfl,.int i,Zmc K,_,rfl,ZgW ⟨_,rfl,_, "bool",_,_,rfl,.int i,ZnY K,_,rfl,q⟩⟩
 ·exact⟨_,rfl,_, "int",_,_,rfl,.tup ha,ZlF K,_,rfl,Zcl q⟩
theorem ZgA{α:Type}:∀ (l:List α) (i:Nat) (h:i<l.length),(l[i]::l.eraseIdx i).Perm l
 | [],i,h=>by simp at h
 | a::r,0,h=>.refl _
 | a::r,i+1,h=>by
  rw[List.getElem_cons_succ,List.eraseIdx_cons_succ]
  exact(List.Perm.swap a _ _).trans ((ZgA r i (by simpa using h)).cons a)
theorem ZkT{gone:List Int}{done:List (List Int)}(h:∀d∈done,d≠[]):∀d∈Zcw gone done,d≠[]:=fun d hd=>by
 unfold Zcw at hd
 by_cases hg:gone=[]
 ·rw[if_pos hg]at hd;exact h d hd
 ·rw[if_neg hg]at hd
  rcases Qh.mp hd with hd|hd
  ·exact h d hd
  ·rw[Qd.mp hd];exact hg
theorem Zgc(gone:List Int)(done:List (List Int))(n:Int):Zcw (gone++[n]) done=done++[gone++[n]]:=by unfold Zcw;rw[if_neg (by simp)]
theorem ZdW(gone:List Int)(done:List (List Int)):((Zcw gone done).map List.length).sum=(done.map List.length).sum+gone.length:=by
 unfold Zcw
 by_cases hg:gone=[]
 ·rw[if_pos hg,hg];rfl
 ·rw[if_neg hg,Qf,Qan];simp
theorem At.switch{ss:List Str}{k:Nat}{H0 H:Hp}{ia ru:Addr}{ts:Zcu}{ls:List Addr}{b:Int}{B:List Int}{c:Nat}{gone:List Int}{done:List (List Int)}(h:At ss k H0 H ia ru ts ls [] (b::B) c gone done):At ss k H0 H ia ru ts ls (b::B) [] c [] (done++[gone]):=by
 have hg:=h.go (by simp) rfl
 have e:Zcw [] (done++[gone])=Zcw gone done:=by unfold Zcw;rw[if_pos rfl,if_neg hg]
 refine⟨h.ins,h.att,?_,h.run,by rw[e];exact h.rd,h.rul,h.nd,h.fr,h.ne,h.nil,h.sm,h.i0,h.r0,h.hc,fun n hn=>h.mem n (by simpa using hn),?_,fun d hd=>?_,fun hb=>absurd rfl hb,fun R hR=>h.res R (.switch hR)⟩
 ·have:=h.per
  unfold Zbx at this ⊢
  rw[Qag,List.nil_append]at this
  rw[Qag,QL,Qe,Qm]
  exact this
 ·rw[e];have:=h.cnt;simpa using this
 ·rcases Qh.mp hd with hd|hd
  ·exact h.nem d hd
  ·rw[Qd.mp hd];exact hg
theorem ZmB{ss:List Str}{r:Int}{A B:List Int}{ts:Zcu}(hp:(ts.map (·.2)).Perm (Zbx ss r A B)):∀t∈ts,ZV t.2=[true,false,true]:=fun t ht=>by
 have:=hp.mem_iff.mp (Qp (f:=fun t:Addr×List Key=>t.2) ht)
 rcases Qh.mp this with h|h
 ·obtain⟨n,_,e⟩:=Qw.mp h;rw[← e];rfl
 ·obtain⟨n,_,e⟩:=Qw.mp h;rw[← e];rfl
theorem at_put{ss:List Str}{k:Nat}{H H4 H7:Hp}{D ru tn:Addr}{ts ts1:Zcu}{ls l2:List Addr}{A B A2 B2:List Int}{c:Nat}{gone:List Int}{done:List (List Int)}{n r:Int}(hAt:At ss k H H4 D ru ts ls A B c gone done)(ins3:H7 D=some (.lst (Zag ts1)))(att3:AtT H7 ts1)(run3:H7 ru=some (.lst (l2.map V.ref)))(rd3:Rd H7 l2 (done++[gone++[n]]))(sm3:ZC H H7)(rul2:ru ∉ l2)(nil2:D ∉ l2)(nd2:l2.Nodup)(fr2:∀l∈l2,H l=none)(hcN:c<ss.length)(htn:H7 tn=none)(per4:((ts1++[(tn,kt ss r (c:Int))]).map (·.2)).Perm (Zbx ss (done.length:Int) A2 B2))(hle:A2.length+B2.length=A.length+B.length)(hz:∀z∈A2++B2,z∈A++B∨z=(c:Int))(hR:∀R,Res ss A2 B2 (c+1) (gone++[n]) done R→Res ss A B c gone done R):At ss k H (upd (upd H7 tn (.tup [.int r,.str (ss.getD (c:Int).toNat ""),.int (c:Int)])) D (.lst (Zag ts1++[.ref tn]))) D ru (ts1++[(tn,kt ss r (c:Int))]) l2 A2 B2 (c+1) (gone++[n]) done:=by
 have stn:=Zh htn (.tup [.int r,.str (ss.getD (c:Int).toNat ""),.int (c:Int)])
 have nDt:D≠tn:=Zd ins3 htn
 have hcnt:=hAt.cnt
 rw[ZdW]at hcnt
 refine⟨by rw[Zb];unfold Zag;rw[Qf];rfl,fun u hu=>by
  rcases Qh.mp hu with hu|hu
  ·exact Zbj (stn _ _ ins3) _ _ _ (stn _ _ (att3 u hu))
  ·rw[Qd.mp hu,Ze nDt.symm];exact Zb,per4,by rw[Ze hAt.ne.symm];exact stn _ _ run3,by rw[Zgc];exact Rd.mono (fun l hl' u hu=>by rw[Ze (fun z:l=D=>nil2 (z ▸ hl'))];exact stn _ _ hu) rd3,rul2,nd2,fr2,hAt.ne,nil2,fun b o hb=>by rw[Ze (Zd hb hAt.i0)];exact stn _ _ (sm3 b o hb),hAt.i0,hAt.r0,hcN,fun z h=>?_,by clear nDt hz hR;rw[ZdW,Qe,Qm];omega,hAt.nem,fun _ _=>by simp,fun R h=>hAt.res R (hR R h)⟩
 rcases hz z h with h|h
 ·have:=hAt.mem z h;clear hcnt hle nDt hz hR hcN;omega
 ·clear hcnt hle nDt hz hR hcN;omega
theorem ZoT(T:Zaf K mg cRow cMerge)(f_run_behind:Df P w K mg base 4 "run_behind" ["run", "key", "comer"] Zjj):Df P w K mg base 5 "runs_of" ["things", "room"] (ZmM K):=by
 refine T.t_runs_of.df ZaW (fun vs H Q E h=>?_) (fun cdv f A outer s H vs Q E hr h=>?_)
 ·obtain⟨a,ss,room,rfl,_⟩:=h
  rfl
 obtain⟨a,ss,room,rfl,hS,h60,hlen,hroom,q⟩:=h
 refine⟨_,#[Zg,#[Zcy,2,ZaW.nd,Zjd,#[Zbu,T.b.n_range,#[Za,#[Zk,(Zeh rfl),(by rfl),T.b.n_min,boot_min,#[Za,‹1›,#[Za,#[Zk,(ZaR K),(by rfl),T.b.n_len,Qq,#[Za,#[pv,0,(Or.inr (Or.inl rfl))],#[Zc]]],#[Zc]]]],#[Zc]]],(fun _ _ _ _=>#[cgL,9,Zjd]),(fun _ _ _ _=>(@Zaw _)),(fun _ _ _ _=>#[ZT,#[Za,#[Zi],#[Za,#[Zz,(ixL K),#[cvC,0,Zjd],#[cwL,9,Zjd]],#[Za,#[cwL,9,Zjd],#[Zc]]]]])],#[Zg,#[Zy,3,ZaW.nd,(Or.inl rfl),#[Zk,(ZaR K),(by rfl),T.b.n_len,Qq,#[Za,‹2›,#[Zc]]]],#[Zg,#[Zy,4,ZaW.nd,(Or.inl rfl),#[Zbg,#[Zc]]],#[Zg,(@ZdN _ _ _ _ _ _ PassesOwn.never #[Zn,ZfE,#[Zk,(ZaR K),(by rfl),T.b.n_len,Qq,#[Za,‹2›,#[Zc]]],#[Zi],(Zs _)] #[Zg,#[Zy,5,ZaW.nd,(Or.inl rfl),#[Zk,(Zsu K hr),(by rfl),T.b.n_min,boot_min,#[Za,‹2›,#[Zc]]]],#[Zg,#[ZaO,#[ZcA,QG,PySem.F.slot_list_remove,PySem.F.type_list_remove,(Zs9 hr),‹2›,#[Za,‹5›,#[Zc]]]],#[Zg,#[ZaZ,‹5›,#[gT,K,3,#[Zv,#[ZA,6,ZaW.nd],#[Zv,#[ZA,7,ZaW.nd],#[Zv,#[ZA,8,ZaW.nd],(@ZaE _)]]]]],(@ZpG _ _ _ _ _ #[ZZ,#[Zn,Zbf,‹6›,#[Zk,(ZaR K),(by rfl),T.b.n_len,Qq,#[Za,‹4›,#[Zc]]],(Zs _)],#[Zj,#[ZaO,#[ZcA,QG,QO,QP,Zay,‹4›,#[Za,#[Zbg,#[Zc]],#[Zc]]]]],#[ZD]] #[Zg,#[ZaO,#[ZcA,QG,QO,QP,Zay,#[Zz,(ixL K),‹4›,‹6›],#[Za,‹8›,#[Zc]]]],#[Zj,#[ZZ,#[Zn,Zdq,‹3›,#[Zk,(ZaR K),(by rfl),T.b.n_len,Qq,#[Za,#[pv,0,(Or.inr (Or.inl rfl))],#[Zc]]],(Zs _)],#[Zg,#[ZaO,#[ZcA,QG,QO,QP,Zay,‹2›,#[Za,#[ZT,#[Za,#[ZB,f_run_behind,hr,#[Za,‹6›,#[Za,‹7›,#[Za,#[Zz,(ixL K),#[pv,0,(Or.inr (Or.inl rfl))],‹3›],#[Zc]]]],(by rfl)],#[Za,#[Zz,(ixL K),#[pv,0,(Or.inr (Or.inl rfl))],‹3›],#[Za,‹3›,#[Zc]]]]],#[Zc]]]],#[Zj,(@Zm0 _ _ 3 _ _ _ _ _ _ ZaW.nd rfl (Or.inl rfl) #[Zi] Zog (by trivial))]],#[ZD]]]])]]]),#[Zj,#[Zm,‹4›]]]]]],?_⟩
 have hl:(((ss.map V.str).length:Nat):Int)=(ss.length:Int):=by rw[Qa]
 have hmin:(if (((ss.map V.str).length:Nat):Int)<(room:Int) then (((ss.map V.str).length:Nat):Int) else (room:Int))=((min room ss.length:Nat):Int):=by split<;>omega
 refine⟨_,rfl,_,rfl,a,_,rfl,.inl hS,_,_,rfl,?_⟩
 simp only[hmin]
 refine⟨_,rfl,by clear hmin q hlen hl hroom h60;omega,by clear hmin q hlen hl hroom;omega,fun D hD=>?_⟩
 rw[Q5]
 refine Zcm (fun i zs σ H2=>(∃v:Option V,σ=[some (.ref a),some (.int room),none,none,none,none,none,none,none,v])∧(∃ts:Zcu,zs=Zag ts∧AtT H2 ts∧ts.map (·.2)=(first i).map (kt ss 0))∧i≤min room ss.length∧H2 D=some (.lst zs)∧ZC H H2) ?_ ?_ ?_
 ·exact⟨⟨none,rfl⟩,⟨[],rfl,(fun t h=>by cases h),rfl⟩,Qv _,Zb,Zh hD _⟩
 ·rintro i zs σ H2 hi ⟨⟨v,rfl⟩,⟨ts,rfl,hat,hE⟩,hi',hD2,s2⟩
  have hil:i<ss.length:=by clear hi' hmin q hroom hlen h60 hl;omega
  have e0:(0+(i:Int))=((i:Nat):Int):=by omega
  have hkey:atI (ss.map V.str) (0+(i:Int))=some (.str (ss.getD (0+(i:Int)).toNat "")):=Zfe (by omega) (by omega)
  refine⟨_,rfl,_,rfl,xw4 a _ _ _ ⟨rfl,rfl,s2.seq hS,hkey,_,rfl,(by show 3≤sizeLine;decide),fun n hn0=>?_⟩⟩
  have sn:=Zh hn0 (.tup [.int 0,.str (ss.getD (0+(i:Int)).toNat ""),.int (0+(i:Int))])
  have hD3:=sn _ _ hD2
  have nDn:D≠n:=Zd hD2 hn0
  have htl:ts.length=i:=by have:=congrArg List.length hE;rw[Qa,Qa,Zcg]at this;exact this
  refine⟨hD3,(by unfold Zag;rw[Qa,htl];exact ZH (by clear nDn e0 hi' hi hmin q hroom hlen htl hl;omega)),⟨_,rfl⟩,⟨ts++[(n,kt ss 0 (0+(i:Int)))],by unfold Zag;rw[Qf];rfl,fun t ht=>?_,?_⟩,by omega,Zb,fun b o hb=>?_⟩
  ·rcases Qh.mp ht with ht|ht
   ·exact Zbj hD3 _ _ _ (sn _ _ (hat t ht))
   ·rw[Qd.mp ht,Ze nDn.symm];exact Zb
  ·rw[Qf,hE]
   unfold first Zx
   rw[Qaj,Qf,Qf]
   rfl
  ·rw[Ze (Zd hb hD)];exact sn _ _ (s2 b o hb)
 rintro zs σ H2 ⟨⟨v,rfl⟩,⟨ts0,rfl,hat0,hE0⟩,_,hD2,s2⟩
 have htl0:ts0.length=min room ss.length:=by have:=congrArg List.length hE0;rw[Qa,Qa,Zcg]at this;exact this
 have hrl0:(((Zag ts0).length:Nat):Int)=((min room ss.length:Nat):Int):=by unfold Zag;rw[Qa,htl0]
 refine⟨_,rfl,D,_,rfl,.inl (SqL.of hD2),?_⟩
 simp only[hrl0]
 refine⟨(by show 0≤sizeLine;decide),fun ru hru=>?_⟩
 have nDr:D≠ru:=Zd hD2 hru
 have s3:=s2.trans (Zh hru (.lst []))
 have at0:At ss (min room ss.length) H (upd H2 ru (.lst [])) D ru ts0 [] (first (min room ss.length)) [] (min room ss.length) [] []:=by
  refine⟨Zh hru _ _ _ hD2,AtT.mono hat0 (Zh hru _),?_,Zb,by unfold Zcw;rw[if_pos rfl];trivial,(fun h=>by cases h),List.nodup_nil,(fun l h=>by cases h),nDr,(fun h=>by cases h),s3,hD,s2.free hru,by clear nDr hmin q hroom hlen h60 hrl0 htl0 hl;omega,fun n hn=>?_,?_,(fun d h=>by cases h),fun h=>absurd rfl h,fun R h=>h⟩
  ·rw[hE0];unfold Zbx;rw[Qag,QL];exact .refl _
  ·rw[QL]at hn;exact Zef hn
  ·unfold Zcw;rw[if_pos rfl,Zcg];simp;clear nDr hmin q hroom hlen h60 hrl0 htl0 hl;omega
 generalize upd H2 ru (.lst [])=H3 at at0 ⊢
 refine⟨fun m σ H4=>∃ (ts:Zcu) (ls:List Addr) (A B:List Int) (c:Nat) (gone:List Int) (done:List (List Int)) (v5 v6 v7 v8:Option V),σ=[some (.ref a),some (.int room),some (.ref D),some (.int c),some (.ref ru),v5,v6,v7,v8]∧At ss (min room ss.length) H H4 D ru ts ls A B c gone done∧m=A.length+B.length+(ss.length-c),⟨_,ts0,[],first (min room ss.length),[],min room ss.length,[],[],none,none,none,none,rfl,at0,rfl⟩,?_⟩
 rintro m σ H4 ⟨ts,ls,A',B',c,gone',done',v5,v6,v7,v8,rfl,hAt',rfl⟩
 have htsl:ts.length=A'.length+B'.length:=by have:=hAt'.per.length_eq;unfold Zbx at this;rw[Qa,Qe,Qa,Qa]at this;exact this
 refine⟨_,rfl,D,_,rfl,.inl (SqL.of hAt'.ins),_,_,rfl,rfl,_,rfl,ZaX (fun d=>?_) (fun d=>?_)⟩
 ·have d':(0:Int)<(((Zag ts).length:Nat):Int):=of_decide_eq_true d
  have hpos:0<ts.length:=by unfold Zag at d';rw[Qa]at d';omega
  obtain⟨A,B,gone,done,hAt,hAne,hm⟩:∃A B gone done,At ss (min room ss.length) H H4 D ru ts ls A B c gone done∧A≠[]∧A'.length+B'.length=A.length+B.length:=by
   by_cases hA:A'=[]
   ·subst hA
    cases B' with
    | nil=>exact absurd hpos (by rw[htsl];decide)
    | cons b B=>exact⟨_,_,_,_,hAt'.switch,by simp,by simp⟩
   ·exact⟨A',B',gone',done',hAt',hA,rfl⟩
  refine⟨_,fun σ' H' h=>h,?_⟩
  have hcnt:=hAt.cnt
  rw[ZdW]at hcnt
  have hdl:=(Zeg done hAt.nem).1
  have tsne:ts≠[]:=fun z=>by rw[z]at hpos;simp at hpos
  refine⟨_,rfl,D,ts,[true,false,true],rfl,SqL.of hAt.ins,hAt.att,tsne,ZmB hAt.per,fun t ht hmin'=>?_⟩
  obtain⟨n,et,hleast⟩:=ZqN hAt.per hAne (Qp (f:=fun t:Addr×List Key=>t.2) ht) (fun u hu=>by
   obtain⟨t',ht',rfl⟩:=Qw.mp hu
   exact hmin' t' ht')
  have et':t.2=kt ss (done.length:Int) n:=et
  have hnA:=hleast.1
  have hn:=hAt.mem n (Qs _ hnA)
  have hcl:=hAt.hc
  refine⟨_,rfl,.inl ⟨rfl,_,SqL.of hAt.ins⟩,_,rfl,D,ts,t,rfl,rfl,hAt.ins,hAt.att,ht,by clear hcl hn hmin' tsne hAne hpos d' nDr hrl0 htl0 hmin q hroom hlen hdl hl;omega,fun i hi heq=>?_⟩
  have ttup:=hAt.att t ht
  rw[et']at ttup
  have ttup1:(upd H4 D (.lst (Zag (ts.eraseIdx i)))) t.1=some (.tup [.int (done.length:Int),.str (ss.getD n.toNat ""),.int n]):=Zbj hAt.ins _ _ _ ttup
  have ins1:(upd H4 D (.lst (Zag (ts.eraseIdx i)))) D=some (.lst (Zag (ts.eraseIdx i))):=Zb
  have att1:AtT (upd H4 D (.lst (Zag (ts.eraseIdx i)))) (ts.eraseIdx i):=fun u hu=>Zbj hAt.ins _ _ _ (hAt.att u (List.mem_of_mem_eraseIdx hu))
  have run1:(upd H4 D (.lst (Zag (ts.eraseIdx i)))) ru=some (.lst (ls.map V.ref)):=by rw[Ze hAt.ne.symm];exact hAt.run
  have rd1:Rd (upd H4 D (.lst (Zag (ts.eraseIdx i)))) ls (Zcw gone done):=Rd.mono (fun l hl' u hu=>by rw[Ze (fun z:l=D=>hAt.nil (z ▸ hl'))];exact hu) hAt.rd
  have sm1:ZC H (upd H4 D (.lst (Zag (ts.eraseIdx i)))):=fun b o hb=>by rw[Ze (Zd hb hAt.i0)];exact hAt.sm b o hb
  have per1:((ts.eraseIdx i).map (·.2)).Perm (Zbx ss (done.length:Int) (A.erase n) B):=by
   refine ZoA hAt.per hnA ?_
   have:=(ZgA ts i hi).symm.map (fun t:Addr×List Key=>t.2)
   rw[Ql,heq,et']at this
   exact this
  have hel:(A.erase n).length+1=A.length:=by
   have:=Qac hnA
   have:0<A.length:=Q3 hnA
   omega
  have htl1:(ts.eraseIdx i).length≤60:=by
   have:=per1.length_eq
   unfold Zbx at this
   rw[Qa,Qe,Qa,Qa]at this
   clear hmin' tsne hm hAne hpos d' htsl nDr hrl0 htl0 hmin q hroom hlen hcl hn hdl hl;omega
  generalize upd H4 D (.lst (Zag (ts.eraseIdx i)))=H5 at ttup1 ins1 att1 run1 rd1 sm1 ⊢
  generalize ts.eraseIdx i=ts1 at ins1 att1 per1 htl1 ⊢
  refine⟨_,rfl,t.1,_,rfl,SqT.of ttup1,rfl,_,_,rfl,_,_,rfl,_,_,rfl,rfl,?_⟩
  have hlsl:ls.length=(Zcw gone done).length:=hAt.rd.len
  have hls60:ls.length≤60:=by have:=(Zeg _ (ZkT (gone:=gone) hAt.nem)).1;rw[ZdW]at this;clear htl1 hmin' tsne hdl hAne d' nDr hrl0 htl0 hmin q hroom hlen hel hcl hn hm hpos htsl hl;omega
  have hll:(((ls.map V.ref).length:Nat):Int)=(ls.length:Int):=by rw[Qa]
  refine⟨fun σ H6=>∃ (ms:List Addr) (nl:Addr),σ=[some (.ref a),some (.int room),some (.ref D),some (.int c),some (.ref ru),some (.ref t.1),some (.int (done.length:Int)),some (.str (ss.getD n.toNat "")),some (.int n)]∧H6 D=some (.lst (Zag ts1))∧AtT H6 ts1∧H6 ru=some (.lst ((ms++[nl]).map V.ref))∧Rd H6 ms done∧H6 nl=some (.lst (gone.map V.int))∧ZC H H6∧ru ∉ ms++[nl]∧D ∉ ms++[nl]∧(ms++[nl]).Nodup∧(∀l∈ms++[nl],H l=none)∧ms.length=done.length,?_,?_⟩
  ·refine⟨_,rfl,_,rfl,ru,_,rfl,.inl (SqL.of run1),rfl,_,rfl,?_⟩
   by_cases hg:gone=[]
   ·have hlen2:ls.length=done.length:=by rw[hlsl,hg];unfold Zcw;rw[if_pos rfl]
    refine ZgV (by rw[hll,hlen2]) ?_
    refine⟨_,rfl,.inl ⟨rfl,_,SqL.of run1⟩,(by show 0≤sizeLine;decide),fun nl hnl=>⟨ru,_,_,rfl,rfl,Zh hnl _ _ _ run1,(by rw[Qa];exact ZH (by clear hlen2 htl1 hel hcl hn hmin' tsne hdl hcnt hm hAne hpos d' htsl nDr hrl0 htl0 hmin hl q hroom hlen h60 hll hlsl;omega)),?_⟩⟩
    have snl:=Zh hnl (.lst [])
    have nrn:ru≠nl:=Zd run1 hnl
    have nDn:D≠nl:=Zd ins1 hnl
    have hnll:nl ∉ ls:=rd1.out hnl
    have ins2:(upd (upd H5 nl (.lst [])) ru (.lst (ls.map V.ref++[.ref nl]))) D=some (.lst (Zag ts1)):=by rw[Ze hAt.ne];exact snl _ _ ins1
    have att2:AtT (upd (upd H5 nl (.lst [])) ru (.lst (ls.map V.ref++[.ref nl]))) ts1:=fun u hu=>Zbj (snl _ _ run1) _ _ _ (snl _ _ (att1 u hu))
    have run2:(upd (upd H5 nl (.lst [])) ru (.lst (ls.map V.ref++[.ref nl]))) ru=some (.lst ((ls++[nl]).map V.ref)):=by rw[Zb,Qf];rfl
    have rd2:Rd (upd (upd H5 nl (.lst [])) ru (.lst (ls.map V.ref++[.ref nl]))) ls done:=by
     have:Zcw gone done=done:=by unfold Zcw;rw[if_pos hg]
     rw[this]at rd1
     exact Rd.mono (fun l hl' u hu=>by rw[Ze (fun z:l=ru=>hAt.rul (z ▸ hl'))];exact snl _ _ hu) rd1
    have hl2:(upd (upd H5 nl (.lst [])) ru (.lst (ls.map V.ref++[.ref nl]))) nl=some (.lst (gone.map V.int)):=by rw[Ze nrn.symm,hg];exact Zb
    have sm2:ZC H (upd (upd H5 nl (.lst [])) ru (.lst (ls.map V.ref++[.ref nl]))):=fun b o hb=>by rw[Ze (Zd hb hAt.r0)];exact snl _ _ (sm1 b o hb)
    have rul2:ru ∉ ls++[nl]:=fun hm=>by
     rcases Qh.mp hm with hm|hm
     ·exact hAt.rul hm
     ·exact nrn (Qd.mp hm)
    have nil2:D ∉ ls++[nl]:=fun hm=>by
     rcases Qh.mp hm with hm|hm
     ·exact hAt.nil hm
     ·exact nDn (Qd.mp hm)
    have nd2:(ls++[nl]).Nodup:=by
     rw[List.nodup_append]
     exact⟨hAt.nd,by simp,fun x hx y hy e=>hnll (by rw[← Qd.mp hy,← e];exact hx)⟩
    have fr2:∀l∈ls++[nl],H l=none:=fun l hl'=>by
     rcases Qh.mp hl' with hl'|hl'
     ·exact hAt.fr l hl'
     ·rw[Qd.mp hl'];exact sm1.free hnl
    generalize upd (upd H5 nl (.lst [])) ru (.lst (ls.map V.ref++[.ref nl]))=H6 at ins2 att2 run2 rd2 hl2 sm2 ⊢
    exact⟨ls,nl,rfl,ins2,att2,run2,rd2,hl2,sm2,rul2,nil2,nd2,fr2,hlen2⟩
   ·have et2:Zcw gone done=done++[gone]:=by unfold Zcw;rw[if_neg hg]
    have hlen2:ls.length=done.length+1:=by rw[hlsl,et2,Qe];rfl
    refine Zds (fun z=>by have z':=V.int.inj z;rw[hll,hlen2]at z';omega) ?_
    rw[et2]at rd1
    obtain⟨ms,nl,rfl,rd2,hl2⟩:=rd1.split
    have hms:ms.length=done.length:=by rw[Qe,Qm]at hlen2;omega
    exact⟨ms,nl,rfl,ins1,att1,run1,rd2,hl2,sm1,hAt.rul,hAt.nil,hAt.nd,hAt.fr,hms⟩
  rintro σ H6 ⟨ms,nl,rfl,ins2,att2,run2,rd2,hl2,sm2,rul2,nil2,nd2,fr2,hms⟩
  have hnd:=QZ.mp nd2
  have hlms:nl ∉ ms:=fun h=>hnd.2.2 nl h nl (by simp) rfl
  have nrl:ru≠nl:=fun z=>rul2 (by rw[z];simp)
  have nDl:D≠nl:=fun z=>nil2 (by rw[z];simp)
  have hat3:atI ((ms++[nl]).map V.ref) (done.length:Int)=some (.ref nl):=ZX (by rw[Qi,QW (by omega),show done.length-ms.length=0 by omega];rfl)
  refine⟨_,rfl,_,rfl,ru,_,_,_,rfl,rfl,SqL.of run2,hat3,ZqP hl2,_,rfl,nl,_,_,rfl,rfl,hl2,(by rw[Qa];exact ZH (by clear nDl nrl hlms hnd hms fr2 nil2 rul2 hll hls60 hlsl htl1 hmin' tsne hdl hAne d' nDr hrl0 htl0 hmin q hroom hlen hel hcl hn hm hpos htsl hl;omega)),?_⟩
  have ins3:(upd H6 nl (.lst (gone.map V.int++[.int n]))) D=some (.lst (Zag ts1)):=by rw[Ze nDl];exact ins2
  have att3:AtT (upd H6 nl (.lst (gone.map V.int++[.int n]))) ts1:=fun u hu=>Zbj hl2 _ _ _ (att2 u hu)
  have run3:(upd H6 nl (.lst (gone.map V.int++[.int n]))) ru=some (.lst ((ms++[nl]).map V.ref)):=by rw[Ze nrl];exact run2
  have rd3:Rd (upd H6 nl (.lst (gone.map V.int++[.int n]))) (ms++[nl]) (done++[gone++[n]]):=by
   refine Rd.app (Rd.mono (fun l hl' u hu=>?_) rd2) ⟨?_,trivial⟩
   ·rw[Ze (fun z:l=nl=>hlms (z ▸ hl'))];exact hu
   ·rw[Zb,Qf];rfl
  have sm3:ZC H (upd H6 nl (.lst (gone.map V.int++[.int n]))):=fun b o hb=>by rw[Ze (Zd hb (fr2 nl (by simp)))];exact sm2 b o hb
  generalize upd H6 nl (.lst (gone.map V.int++[.int n]))=H7 at ins3 att3 run3 rd3 sm3 ⊢
  refine⟨_,rfl,_,rfl,a,_,rfl,.inl (sm3.seq hS),_,_,rfl,rfl,_,rfl,ZaX (fun d2=>?_) (fun d2=>?_)⟩
  ·have hcN:c<ss.length:=by have:=of_decide_eq_true d2;clear nDl nrl hlms hnd hms fr2 nil2 rul2 hll hls60 hlsl htl1 hcl hn hmin' tsne hdl hm hAne hpos d' htsl nDr hrl0 htl0 hmin q hroom hlen h60 hel hcnt;omega
   have hkc:atI (ss.map V.str) (c:Int)=some (.str (ss.getD (c:Int).toNat "")):=Zfe (by omega) (by clear nDl nrl hlms hnd hms fr2 nil2 rul2 hll hls60 hlsl htl1 hcl hn hmin' tsne hdl hm hAne hpos d' htsl nDr hrl0 htl0 hmin q hroom hlen h60 hel hcnt hl;omega)
   refine⟨_,rfl,.inl ⟨rfl,_,SqL.of ins3⟩,_,rfl,_,rfl,_,rfl,_,rfl,xw4 a _ _ _ ⟨rfl,rfl,sm3.seq hS,hkc,(done.length:Int),ss.getD n.toNat "",ss.getD (c:Int).toNat "",rfl,Zf0 hlen _,Zf0 hlen _,fun hlt=>?_,fun hlt=>?_⟩⟩
   ·refine⟨_,rfl,_,rfl,xw4 a _ _ _ ⟨rfl,rfl,sm3.seq hS,hkc,_,rfl,(by show 3≤sizeLine;decide),fun tn htn=>⟨D,_,_,rfl,rfl,Zh htn _ _ _ ins3,(by unfold Zag;rw[Qa];exact ZH (by omega)),?_⟩⟩⟩
    have per4:((ts1++[(tn,kt ss (done.length:Int) (c:Int))]).map (·.2)).Perm (Zbx ss (done.length:Int) (A.erase n++[(c:Int)]) (B)):=by
     rw[Qf]
     unfold Zbx
     refine(per1.append_right _).trans ?_
     unfold Zbx
     rw[Qf,Q6,Q6]
     exact List.Perm.append_left _ List.perm_append_comm
    refine⟨_,rfl,_,_,rfl,rfl,?_⟩
    have hcc:((c:Int)+1)=((c+1:Nat):Int):=by omega
    simp only[hcc]
    refine⟨_,by simp only[List.length_append,List.length_singleton];clear hcc hlt nDl nrl hlms hnd hms fr2 nil2 rul2 hll hls60 hlsl htl1 hcl hn hmin' tsne hdl hAne hpos d' htsl nDr hrl0 htl0 hmin q hroom hlen h60 hcnt hl;omega,ts1++[(tn,kt ss (done.length:Int) (c:Int))],ms++[nl],A.erase n++[(c:Int)],B,c+1,gone++[n],done,_,_,_,_,rfl,at_put hAt ins3 att3 run3 rd3 sm3 rul2 nil2 nd2 fr2 hcN htn per4 (by simp only[List.length_append,List.length_singleton];clear hcnt hm;omega) (fun z hz=>by
     simp only[List.mem_append,List.mem_singleton]at hz ⊢
     rcases hz with hz|hz
     ·rcases hz with hz|hz
      ·exact .inl (.inl (QA hz))
      ·exact .inr hz
     ·exact .inl (.inr hz)) (fun R hR=>.stepA hleast hcN hlt hR),rfl⟩
   ·refine⟨_,rfl,_,rfl,xw4 a _ _ _ ⟨rfl,rfl,sm3.seq hS,hkc,_,rfl,(by show 3≤sizeLine;decide),fun tn htn=>⟨D,_,_,rfl,rfl,Zh htn _ _ _ ins3,(by unfold Zag;rw[Qa];exact ZH (by omega)),?_⟩⟩⟩
    have per4:((ts1++[(tn,kt ss ((done.length:Int)+1) (c:Int))]).map (·.2)).Perm (Zbx ss (done.length:Int) (A.erase n) (B++[(c:Int)])):=by
     rw[Qf]
     unfold Zbx
     refine(per1.append_right _).trans ?_
     unfold Zbx
     rw[Qf,Q6]
     exact .refl _
    refine⟨_,rfl,_,_,rfl,rfl,?_⟩
    have hcc:((c:Int)+1)=((c+1:Nat):Int):=by omega
    simp only[hcc]
    refine⟨_,by simp only[List.length_append,List.length_singleton];clear hcc hlt nDl nrl hlms hnd hms fr2 nil2 rul2 hll hls60 hlsl htl1 hcl hn hmin' tsne hdl hAne hpos d' htsl nDr hrl0 htl0 hmin q hroom hlen h60 hcnt hl;omega,ts1++[(tn,kt ss ((done.length:Int)+1) (c:Int))],ms++[nl],A.erase n,B++[(c:Int)],c+1,gone++[n],done,_,_,_,_,rfl,at_put hAt ins3 att3 run3 rd3 sm3 rul2 nil2 nd2 fr2 hcN htn per4 (by simp only[List.length_append,List.length_singleton];clear hcnt hm;omega) (fun z hz=>by
     simp only[List.mem_append,List.mem_singleton]at hz ⊢
     rcases hz with hz|hz
     ·exact .inl (.inl (QA hz))
     ·rcases hz with hz|hz
      ·exact .inl (.inr hz)
      ·exact .inr hz) (fun R hR=>.stepB hleast hcN hlt hR),rfl⟩
  ·have hcN:¬ c<ss.length:=fun z=>d2 (decide_eq_true (by clear d2 nDl nrl hlms hnd hms fr2 nil2 rul2 hll hls60 hlsl htl1 hcl hn hmin' tsne hdl hm hAne hpos d' htsl nDr hrl0 htl0 hmin q hroom hlen h60 hel hcnt;omega))
   refine⟨_,by omega,ts1,ms++[nl],A.erase n,B,c,gone++[n],done,_,_,_,_,rfl,⟨ins3,att3,per1,run3,by rw[Zgc];exact rd3,rul2,nd2,fr2,hAt.ne,nil2,sm3,hAt.i0,hAt.r0,by clear d2 nDl nrl hlms hnd hms fr2 nil2 rul2 hll hls60 hlsl htl1 hn hmin' tsne hdl hm hAne hpos d' htsl nDr hrl0 htl0 hmin q hroom hlen h60 hcN hel hcnt hl;omega,fun z hz=>hAt.mem z (by
    rcases Qh.mp hz with hz|hz
    ·exact Qs _ (QA hz)
    ·exact Qn _ hz),by rw[ZdW,Qe,Qm];omega,hAt.nem,fun _ _=>by simp,fun R hR=>hAt.res R (.stepN hleast hcN hR)⟩,rfl⟩
 ·have d':¬ (0:Int)<(((Zag ts).length:Nat):Int):=fun z=>d (decide_eq_true z)
  have h0:ts.length=0:=by unfold Zag at d';rw[Qa]at d';clear d nDr hrl0 htl0 hmin hl q hroom hlen h60 htsl;omega
  have hA0:A'=[]:=QN (by omega)
  have hB0:B'=[]:=QN (by omega)
  subst hA0 hB0
  have hcnt:=hAt'.cnt
  obtain⟨b1,b2⟩:=Zeg _ (ZkT (gone:=gone') hAt'.nem)
  refine⟨_,rfl,q ru ls (Zcw gone' done') H4 hAt'.r0 hAt'.run hAt'.rul hAt'.fr hAt'.rd (hAt'.res _ ?_) (by clear b2 d' d nDr hrl0 htl0 hmin q hroom hlen htsl h0 hl;omega) (fun d hd=>by have:=b2 d hd;clear b2 b1 d' nDr hrl0 htl0 hmin q hroom hlen htsl h0 hl;omega) hAt'.sm⟩
  unfold Zcw
  cases gone' with
  | nil=>rw[if_pos rfl];exact .stop0
  | cons g gr=>rw[if_neg (by simp)];exact .stop
noncomputable def ZbE(ss:List Str)(i:Nat):Bool:=decide (0<ZJ (cds (ss.getD (i-1) "")) (cds (ss.getD i "")))
theorem Zlp{ss:List Str}{k:Nat}(hk:k<ss.length):ss.getD k "" = ss[k]:=by rw[Qk,Qb hk];rfl
noncomputable def ZbK(b:Nat→Bool)(m:Nat):List Nat:=((List.range m).map (·+1)).filter b
theorem ZfG(b:Nat→Bool)(m:Nat):ZbK b (m+1)=ZbK b m++(if b (m+1)=true then [m+1] else []):=by
 unfold ZbK
 rw[Qaj,Qf,List.filter_append,Ql,Qag]
 congr 1
 by_cases h:b (m+1)=true
 ·rw[if_pos h];simp[h]
 ·rw[if_neg h];simp[h]
theorem ZhR(b:Nat→Bool)(m:Nat):∀x∈ZbK b m,1≤x∧x≤m:=by
 intro x hx
 unfold ZbK at hx
 obtain⟨h1,_⟩:=List.mem_filter.mp hx
 obtain⟨k,hk,rfl⟩:=Qw.mp h1
 have:=QU.mp hk
 omega
theorem ZkI(b:Nat→Bool)(m:Nat):(ZbK b m).length≤m:=by
 unfold ZbK
 have:=List.length_filter_le b ((List.range m).map (·+1))
 rw[Qa,Qap]at this
 exact this
noncomputable def pr:Nat→List Nat→List (List Int)
 | _,[]=>[]
 | a,x::r=>Zx a (x-a)::pr x r
theorem Zn4:∀ (a:Nat) (xs:List Nat),(pr a xs).length=xs.length
 | _,[]=>rfl
 | a,x::r=>by unfold pr;rw[QE,QE,Zn4 x r]
theorem ZnK:∀ (a:Nat) (xs:List Nat) (x y:Nat),pr a (xs++[x]++[y])=pr a (xs++[x])++[Zx x (y-x)]
 | a,[],x,y=>rfl
 | a,z::r,x,y=>by
  show Zx a (z-a)::pr z (r++[x]++[y])=(Zx a (z-a)::pr z (r++[x]))++[Zx x (y-x)]
  rw[ZnK z r x y]
  rfl
theorem ZhW(a n:Nat):Zx a (n+1)=Zx a n++[((a+n:Nat):Int)]:=by
 unfold Zx
 rw[Qaj,Qf,Ql,Qag]
 congr 2
theorem ZkY:∀ (a:Nat) (xs:List Nat) (y:Nat),a≤y→(∀x∈xs,x≤y)→∃ds d,pr a (xs++[y])=ds++[d]∧pr a (xs++[y+1])=ds++[d++[(y:Int)]]
 | a,[],y,h,_=>by
  refine⟨[],Zx a (y-a),rfl,?_⟩
  show [Zx a (y+1-a)]=[Zx a (y-a)++[(y:Int)]]
  rw[show y+1-a=(y-a)+1 by omega,ZhW,show a+(y-a)=y by omega]
 | a,z::r,y,_,h=>by
  obtain⟨ds,d,e1,e2⟩:=ZkY z r y (h z (by simp)) fun x hx=>h x (Qu _ hx)
  exact⟨Zx a (z-a)::ds,d,by show Zx a (z-a)::pr z (r++[y])=_;rw[e1];rfl,by show Zx a (z-a)::pr z (r++[y+1])=_;rw[e2];rfl⟩
theorem Zjb(n:Nat):∀ (a:Nat) (xs:List Nat),(∀x∈xs,x≤n)→∀d∈pr a xs,d.length≤n
 | _,[],_,d,h=>by cases h
 | a,x::r,h,d,hd=>by
  rcases QK.mp hd with rfl|hd
  ·rw[ZR];have:=h x (by simp);omega
  ·exact Zjb n x r (fun y hy=>h y (Qu _ hy)) d hd
noncomputable def Zbi(b:Nat→Bool):Nat→List (List Int)
 | 0=>[]
 | m+1=>pr 0 (ZbK b m++[m+1])
theorem Zkw(b:Nat→Bool)(n:Nat):(Zbi b n).length≤n:=by
 cases n with
 | zero=>exact Qg _
 | succ m=>unfold Zbi;rw[Zn4,Qe];have:=ZkI b m;simp;exact this
theorem Ziw(b:Nat→Bool)(n:Nat):∀d∈Zbi b n,d.length≤n:=by
 cases n with
 | zero=>intro d h;cases h
 | succ m =>
  unfold Zbi
  refine Zjb _ _ _ fun x hx=>?_
  rcases Qh.mp hx with hx|hx
  ·have:=ZhR b m x hx;omega
  ·rw[Qd.mp hx];exact Qg _
theorem Zez(b:Nat→Bool)(i:Nat)(h:i=0∨b i=true):Zbi b (i+1)=Zbi b i++[[(i:Int)]]:=by
 cases i with
 | zero=>rfl
 | succ m =>
  have hb:b (m+1)=true:=h.elim (fun z=>by omega) id
  show pr 0 (ZbK b (m+1)++[m+1+1])=pr 0 (ZbK b m++[m+1])++_
  rw[ZfG,if_pos hb,ZnK,show m+1+1-(m+1)=0+1 by omega,ZhW]
  rfl
theorem Zhm(b:Nat→Bool)(i:Nat)(h0:i≠0)(h:b i=false):∃ds d,Zbi b i=ds++[d]∧Zbi b (i+1)=ds++[d++[(i:Int)]]:=by
 cases i with
 | zero=>exact absurd rfl h0
 | succ m =>
  show ∃ds d,pr 0 (ZbK b m++[m+1])=_∧pr 0 (ZbK b (m+1)++[m+1+1])=_
  rw[ZfG,if_neg (by rw[h];exact QC),QL]
  exact ZkY 0 (ZbK b m) (m+1) (by omega) fun x hx=>by have:=ZhR b m x hx;omega
noncomputable def ZsI(K:PySem.W.Frag):Sp:=fun vs H Q _=>∃ (a:Addr) (ss:List Str),vs=[.ref a]∧SqL K H a (ss.map V.str)∧ss.length≤100∧(∀s∈ss,s.length≤1000) ∧
 ∀ (r:Addr) (ls:List Addr) (H':Hp),H r=none→H' r=some (.lst (ls.map V.ref))→r ∉ ls→(∀l∈ls,H l=none)→Rd H' ls (Zbi (ZbE ss) ss.length)→ZC H H'→Q (.ref r) H'
theorem Zie(T:Zaf K mg cRow cMerge)(f_liken:Df P w K mg base 3 "liken" ["one", "other"] ZeS):Df P w K mg base 4 "stretches" ["things"] (ZsI K):=by
 refine T.t_stretches.df Zcd (fun vs H Q E h=>?_) (fun cdv f A outer s H vs Q E hr h=>?_)
 ·obtain⟨a,ss,rfl,_⟩:=h
  rfl
 obtain⟨a,ss,rfl,hS,hn,hlen,q⟩:=h
 refine⟨_,#[Zg,#[Zy,1,Zcd.nd,(Or.inl rfl),#[Zbg,#[Zc]]],#[Zg,#[Zbt,PassesOwn.never,#[iE,K,T.b.n_enumerate,#[Za,‹0›,#[Zc]]],#[gT,K,2,#[Zv,#[ZA,2,Zcd.nd],#[Zv,#[ZA,3,Zcd.nd],(@ZaE _)]]],#[Zj,#[ZZ,(@PW.pt _ _ _ #[ZeA,#[Zn,ZfE,‹2›,#[Zi],(Zs _)],(@Zeb _ _ _ _ #[Zn,ZsH,#[ZB,f_liken,hr,#[Za,#[Zz,(ixL K),‹0›,#[ZF,Zby,‹2›,#[Zi]]],#[Za,‹3›,#[Zc]]],(by rfl)],#[Zi],(Zs _)])]),#[Zj,#[ZaO,#[ZcA,QG,QO,QP,Zay,#[Zz,(ixL K),‹1›,(@ZhS _ _ _ _ _ _ Ze2 #[Zi])],#[Za,‹2›,#[Zc]]]]],#[Zj,#[ZaO,#[ZcA,QG,QO,QP,Zay,‹1›,#[Za,#[Zbg,#[Za,‹2›,#[Zc]]],#[Zc]]]]]]]],#[Zj,#[Zm,‹1›]]]],?_⟩
 refine⟨(by show 0≤sizeLine;decide),fun r hr0=>?_⟩
 have s1:ZC H (upd H r (.lst [])):=Zh hr0 _
 refine⟨_,rfl,a,ss.map V.str,rfl,s1.seq hS,?_⟩
 refine Zgm (K:=K) (a:=a) (xs:=ss.map V.str) (fun i σ H2=>∃ (v1 v2:Option V) (ls:List Addr),σ=[some (.ref a),some (.ref r),v1,v2]∧H2 r=some (.lst (ls.map V.ref))∧r ∉ ls∧ls.Nodup∧(∀l∈ls,H l=none)∧Rd H2 ls (Zbi (ZbE ss) i)∧ZC H H2∧i≤ss.length)
  ⟨none,none,[],rfl,Zb,(fun h=>by cases h),List.nodup_nil,(fun l h=>by cases h),trivial,s1,Qv _⟩ (fun _ _ _ hq=>by obtain⟨_,_,_,_,_,_,_,_,_,s2,_⟩:=hq;exact s2.seq hS) ?_ ?_
 ·rintro i x σ H2 p hx ⟨v1,v2,ls,rfl,hr2,hrl,hnd,hfr,rd2,s2,hi⟩ hp
  rw[Qi]at hx
  cases hy:ss[i]? with
  | none=>rw[hy]at hx;cases hx
  | some y =>
   rw[hy]at hx
   cases hx
   have hil:i<ss.length:=(Qc.mp hy).1
   have s3:ZC H (upd H2 p (.tup [.int i,.str y])):=s2.trans (Zh hp _)
   have hr3:(upd H2 p (.tup [.int i,.str y])) r=some (.lst (ls.map V.ref)):=Zh hp _ _ _ hr2
   have rd3:Rd (upd H2 p (.tup [.int i,.str y])) ls (Zbi (ZbE ss) i):=Rd.mono (fun l _ u hu=>Zh hp _ _ _ hu) rd2
   have hp3:(upd H2 p (.tup [.int i,.str y])) p=some (.tup [.int i,.str y]):=Zb
   generalize upd H2 p (.tup [.int i,.str y])=H3 at s3 hr3 rd3 hp3 ⊢
   have hll:ls.length≤i:=by rw[rd3.len];exact Zkw _ _
   have hlt:(ls.map V.ref).length<sizeLine:=by rw[Qa];exact ZH (by omega)
   have new:(i=0∨ZbE ss i=true)→∀n,H3 n=none→∃ (v1 v2:Option V) (ls':List Addr),[some (V.ref a),some (V.ref r),some (V.int i),some (V.str y)]=[some (.ref a),some (.ref r),v1,v2]∧(upd (upd H3 n (.lst [.int i])) r (.lst (ls.map V.ref++[.ref n]))) r=some (.lst (ls'.map V.ref))∧r ∉ ls'∧ls'.Nodup∧(∀l∈ls',H l=none)∧Rd (upd (upd H3 n (.lst [.int i])) r (.lst (ls.map V.ref++[.ref n]))) ls' (Zbi (ZbE ss) (i+1))∧ZC H (upd (upd H3 n (.lst [.int i])) r (.lst (ls.map V.ref++[.ref n])))∧i+1≤ss.length:=fun hb n hn0=>by
    have nrn:r≠n:=Zd hr3 hn0
    have hnl:n ∉ ls:=rd3.out hn0
    refine⟨_,_,ls++[n],rfl,by rw[Zb,Qf];rfl,fun h=>?_,?_,fun l h=>?_,?_,fun b o h=>?_,hil⟩
    ·rcases Qh.mp h with h|h
     ·exact hrl h
     ·exact nrn (Qd.mp h)
    ·rw[List.nodup_append]
     exact⟨hnd,by simp,fun x hx y hy e=>hnl (by rw[← Qd.mp hy,← e];exact hx)⟩
    ·rcases Qh.mp h with h|h
     ·exact hfr l h
     ·rw[Qd.mp h];exact s3.free hn0
    ·rw[Zez _ _ hb]
     refine Rd.app (Rd.mono (fun l hl u hu=>?_) rd3) ⟨?_,trivial⟩
     ·rw[Ze (fun e:l=r=>hrl (e ▸ hl)),Ze (fun e:l=n=>hnl (e ▸ hl))];exact hu
     ·rw[Ze nrn.symm,Zb];rfl
    ·rw[Ze (Zd h hr0),Ze (Zd h (s3.free hn0))];exact s3 b o h
   refine⟨p,_,rfl,SqT.of hp3,rfl,_,_,rfl,_,_,rfl,rfl,?_⟩
   refine⟨_,rfl,_,_,rfl,rfl,_,rfl,ZaX (fun d1=>?_) (fun d1=>Zcl ?_)⟩
   ·have d1':(0:Int)<(i:Int):=of_decide_eq_true d1
    have hprev:i-1<ss.length:=by omega
    have ei:((i:Int)-1)=((i-1:Nat):Int):=by omega
    have hb:ZbE ss i=decide (0<ZJ (cds ss[i-1]) (cds y)):=by
     unfold ZbE
     rw[Zlp hprev,Zlp hil,(Qc.mp hy).2]
    refine⟨_,rfl,_,rfl,_,_,rfl,rfl,xw4 a _ _ _ ⟨rfl,rfl,s3.seq hS,(by rw[ei];exact Ziu hprev),_,rfl,ss[i-1],y,rfl,hlen _ (QT hprev),hlen _ (Qo hy),_,_,rfl,rfl,_,rfl,ZaX (fun d2=>?_) (fun d2=>?_)⟩⟩
    ·have d2':ZJ (cds ss[i-1]) (cds y)≤0:=of_decide_eq_true d2
     have hbf:ZbE ss i=false:=by rw[hb];exact decide_eq_false (by omega)
     obtain⟨ds,d,e1,e2⟩:=Zhm (ZbE ss) i (by omega) hbf
     rw[e1]at rd3
     obtain⟨ms,l,rfl,rd4,hl⟩:=rd3.split
     have hdl:d.length≤i:=Ziw (ZbE ss) i d (by rw[e1];simp)
     have nd2:=QZ.mp hnd
     have hlms:l ∉ ms:=fun h=>nd2.2.2 l h l (by simp) rfl
     have nrl:r≠l:=fun e=>hrl (by rw[e];simp)
     refine⟨_,rfl,_,rfl,xw4 r _ _ _ ⟨rfl,rfl,SqL.of hr3,ZnB,(show L2.tyV K "list" (.ref l) H3 from .inl ⟨rfl,_,SqL.of hl⟩),_,rfl,l,_,_,rfl,rfl,hl,(by rw[Qa];exact ZH (by omega)),?_⟩⟩
     refine⟨_,_,ms++[l],rfl,by rw[Ze nrl];exact hr3,hrl,hnd,hfr,?_,fun b o h=>?_,hil⟩
     ·rw[e2]
      refine Rd.app (Rd.mono (fun l' hl' u hu=>?_) rd4) ⟨?_,trivial⟩
      ·rw[Ze (fun e:l'=l=>hlms (e ▸ hl'))];exact hu
      ·rw[Zb,Qf];rfl
     ·rw[Ze (Zd h (hfr l (by simp)))];exact s3 b o h
    ·have d2':¬ ZJ (cds ss[i-1]) (cds y)≤0:=fun z=>d2 (decide_eq_true z)
     have hbt:ZbE ss i=true:=by rw[hb];exact decide_eq_true (by omega)
     refine⟨_,rfl,.inl ⟨rfl,_,SqL.of hr3⟩,_,rfl,(by show 1≤sizeLine;decide),fun n hn0=>⟨r,_,_,rfl,rfl,Zh hn0 _ _ _ hr3,hlt,new (.inr hbt) n hn0⟩⟩
   ·have d1':¬ (0:Int)<(i:Int):=fun z=>d1 (decide_eq_true z)
    refine⟨_,rfl,.inl ⟨rfl,_,SqL.of hr3⟩,_,rfl,(by show 1≤sizeLine;decide),fun n hn0=>⟨r,_,_,rfl,rfl,Zh hn0 _ _ _ hr3,hlt,new (.inl (by omega)) n hn0⟩⟩
 ·rintro σ H2 ⟨v1,v2,ls,rfl,hr2,hrl,hnd,hfr,rd2,s2,hi⟩
  rw[Qa]at rd2
  exact⟨_,rfl,q r ls H2 hr0 hr2 hrl hfr rd2 s2⟩
theorem ZnR{ss:List Str}{c:Nat}{gone:List Int}{done:List (List Int)}(h:gone≠[]):Res ss [] [] c gone done (done++[gone]):=by
 cases gone with
 | nil=>exact absurd rfl h
 | cons g r=>exact .stop
theorem Zeu(ss:List Str)(n:Int):Zgx ss [n] n:=⟨by simp,fun m hm=>by rw[Qd.mp hm];exact Za5 _⟩
theorem ZnM(ss:List Str)(c:Nat)(h:1≤c):ZbE ss c=true↔ltK ss (c:Int) ((c:Int)-1):=by
 unfold ZbE ltK
 rw[show ((c:Int)-1).toNat=c-1 by omega,show ((c:Int)).toNat=c by omega,ZbR,decide_eq_true_iff]
 have:=ZaD (cds (ss.getD (c-1) "")) (cds (ss.getD c ""))
 omega
theorem Zfr(ss:List Str):∀ (k c:Nat) (gone:List Int) (done:List (List Int)),c+k=ss.length→1≤c→done++[gone++[(c:Int)-1]]=Zbi (ZbE ss) c→Res ss [(c:Int)-1] [] c gone done (Zbi (ZbE ss) ss.length)
 | 0,c,gone,done,hk,h1,e=>by
  refine .stepN (Zeu ss _) (by omega) ?_
  rw[List.erase_cons_head,show ss.length=c by omega,← e]
  exact ZnR (by simp)
 | k+1,c,gone,done,hk,h1,e=>by
  have ec:(((c+1:Nat):Int)-1)=(c:Int):=by omega
  by_cases hb:ZbE ss c=true
  ·refine .stepB (Zeu ss _) (by omega) ((ZnM ss c h1).mp hb) ?_
   rw[List.erase_cons_head]
   refine .switch ?_
   have:=Zfr ss k (c+1) [] (done++[gone++[(c:Int)-1]]) (by omega) (by omega) (by rw[e,ec,Zez _ _ (.inr hb)];rfl)
   rw[ec]at this
   exact this
  ·refine .stepA (Zeu ss _) (by omega) (fun z=>hb ((ZnM ss c h1).mpr z)) ?_
   rw[List.erase_cons_head]
   obtain⟨ds,d,e1,e2⟩:=Zhm (ZbE ss) c (by omega) (by simpa using hb)
   rw[e1]at e
   obtain⟨rfl,e3⟩:=List.append_inj' e rfl
   injection e3 with e3 _
   have:=Zfr ss k (c+1) (gone++[(c:Int)-1]) done (by omega) (by omega) (by rw[ec,e2,e3])
   rw[ec]at this
   exact this
theorem ZgQ(ss:List Str):Res ss (first (min 1 ss.length)) [] (min 1 ss.length) [] [] (Zbi (ZbE ss) ss.length):=by
 by_cases h:ss.length=0
 ·rw[h];exact .stop0
 ·rw[show min 1 ss.length=1 by omega]
  have:=Zfr ss (ss.length-1) 1 [] [] (by omega) (by omega) (by rw[Zez _ 0 (.inl rfl)];rfl)
  exact this
theorem Zhw{A:List Int}{n:Int}(h:n∈A):(A.erase n).length+1=A.length:=by
 have:=Qac h
 have:=Q3 h
 omega
theorem ZpE{ss:List Str}{room:Nat}(hr:1≤room){A B:List Int}{c:Nat}{gone:List Int}{done R:List (List Int)}(h:Res ss A B c gone done R):(c<ss.length→A.length+B.length=room)→(∀m:Int,0≤m→m<c→(∃d∈done,m∈d)∨m∈gone∨m∈A∨m∈B)→∀m:Int,0≤m→m<ss.length→∃d∈R,m∈d:=by
 induction h with
 | stop0 =>
  intro f g m h0 hm
  rename_i c _
  by_cases hc:c<ss.length
  ·have:=f hc;simp at this;omega
  ·rcases g m h0 (by omega) with h|h|h|h
   ·exact h
   ·cases h
   ·cases h
   ·cases h
 | stop =>
  intro f g m h0 hm
  rename_i c _ _ _
  by_cases hc:c<ss.length
  ·have:=f hc;simp at this;omega
  ·rcases g m h0 (by omega) with⟨d,h,h'⟩|h|h|h
   ·exact⟨d,Qs _ h,h'⟩
   ·exact⟨_,Qn _ (Qd.mpr rfl),h⟩
   ·cases h
   ·cases h
 | switch _ ih =>
  intro f g
  refine ih (by simpa using f) fun m h0 hm=>?_
  rcases g m h0 hm with⟨d,h,h'⟩|h|h|h
  ·exact .inl ⟨d,Qs _ h,h'⟩
  ·exact .inl ⟨_,Qn _ (Qd.mpr rfl),h⟩
  ·cases h
  ·exact .inr (.inr (.inl h))
 | @stepN A B c gone done R n l hc _ ih =>
  intro f g
  refine ih (fun z=>absurd z hc) fun m h0 hm=>?_
  rcases g m h0 hm with h|h|h|h
  ·exact .inl h
  ·exact .inr (.inl (Qs _ h))
  ·by_cases e:m=n
   ·exact .inr (.inl (Qn _ (by rw[e];simp)))
   ·exact .inr (.inr (.inl ((QaB e).mpr h)))
  ·exact .inr (.inr (.inr h))
 | @stepA A B c gone done R n l hc _ _ ih =>
  intro f g
  have:=Zhw l.1
  have f':=f hc
  refine ih (fun _=>by rw[Qe,Qm];omega) fun m h0 hm=>?_
  by_cases e:m=(c:Int)
  ·exact .inr (.inr (.inl (Qn _ (by rw[e];simp))))
  rcases g m h0 (by omega) with h|h|h|h
  ·exact .inl h
  ·exact .inr (.inl (Qs _ h))
  ·by_cases e:m=n
   ·exact .inr (.inl (Qn _ (by rw[e];simp)))
   ·exact .inr (.inr (.inl (Qs _ ((QaB e).mpr h))))
  ·exact .inr (.inr (.inr h))
 | @stepB A B c gone done R n l hc _ _ ih =>
  intro f g
  have:=Zhw l.1
  have f':=f hc
  refine ih (fun _=>by rw[Qe,Qm];omega) fun m h0 hm=>?_
  by_cases e:m=(c:Int)
  ·exact .inr (.inr (.inr (Qn _ (by rw[e];simp))))
  rcases g m h0 (by omega) with h|h|h|h
  ·exact .inl h
  ·exact .inr (.inl (Qs _ h))
  ·by_cases e:m=n
   ·exact .inr (.inl (Qn _ (by rw[e];simp)))
   ·exact .inr (.inr (.inl ((QaB e).mpr h)))
  ·exact .inr (.inr (.inr (Qs _ h)))
theorem Zmv{k:Nat}{m:Int}(h0:0≤m)(h:m<k):m∈first k:=by
 unfold first Zx
 exact Qw.mpr ⟨m.toNat,QU.mpr (by omega),by omega⟩
theorem Znw{ss:List Str}{room:Nat}(hr:1≤room){R:List (List Int)}(h:Res ss (first (min room ss.length)) [] (min room ss.length) [] [] R):∀m:Int,0≤m→m<ss.length→∃d∈R,m∈d :=
 ZpE hr h (fun z=>by rw[Zcg];simp;omega) fun m h0 hm=>.inr (.inr (.inl (Zmv h0 hm)))
theorem ZnD{ss:List Str}{a n x:Int}(h:ltK ss a n)(g:¬ ltK ss x n):ltK ss a x:=by
 unfold ltK at *
 rw[ZbR]at *
 have h1:=ZaD (cds (ss.getD x.toNat "")) (cds (ss.getD n.toNat ""))
 have h2:=ZaD (cds (ss.getD a.toNat "")) (cds (ss.getD x.toNat ""))
 have h4:=ZaD (cds (ss.getD a.toNat "")) (cds (ss.getD n.toNat ""))
 have h3:=ZbV (cds (ss.getD n.toNat "")) (cds (ss.getD x.toNat "")) (cds (ss.getD a.toNat "")) (by omega)
 omega
theorem ZmW{ss:List Str}{A:List Int}{n x:Int}(h:Zgx ss A n)(hx:x∈A):¬ ltK ss x n:=fun z=>by
 have:=h.2 x hx
 unfold kk at this
 rw[Z8]at this
 by_cases e:(Sum.inr (ks ss x).1:Key)=Sum.inr (ks ss n).1
 ·have e':ss.getD x.toNat "" = ss.getD n.toNat "":=Sum.inr.inj e
  unfold ltK at z
  rw[e',ZbR,Zc4]at z
  omega
 ·rw[if_neg e]at this
  exact of_decide_eq_false this z
theorem ZkB{ss:List Str}{a b:Int}(h:ltK ss a b):ss.getD a.toNat ""≠ss.getD b.toNat "":=fun e=>by
 unfold ltK at h
 rw[e,ZbR,Zc4]at h
 omega
noncomputable def ZjS(ss:List Str)(d e:List Int):Prop:=∀b∈d,∀a∈e,a<b→ss.getD a.toNat ""≠ss.getD b.toNat ""
theorem Zop{ss:List Str}{A B:List Int}{c:Nat}{gone:List Int}{done R:List (List Int)}(h:Res ss A B c gone done R):(∀n∈A++B,n<(c:Int))→(∀n∈gone,n<(c:Int))→(∀d∈done,∀n∈d,n<(c:Int))→(∀a∈B,∀x∈A,ltK ss a x)→ZjS ss gone B→(∀d∈done,ZjS ss d (gone++A++B))→done.Pairwise (ZjS ss)→R.Pairwise (ZjS ss):=by
 induction h with
 | stop0=>intro _ _ _ _ _ _ h;exact h
 | stop =>
  intro _ _ _ _ _ j2 j1
  refine QaD.mpr ⟨j1,Qah _ _,fun d hd e he=>?_⟩
  rw[Qd.mp he]
  have:=j2 d hd
  simpa using this
 | switch _ ih =>
  intro m1 m2 m3 j4 j3 j2 j1
  refine ih (by simpa using m1) (fun n h=>by cases h) (fun d hd=>?_) (fun a h=>by cases h) (fun b h=>by cases h) (fun d hd=>?_) (QaD.mpr ⟨j1,Qah _ _,fun d hd e he=>?_⟩)
  ·rcases Qh.mp hd with hd|hd
   ·exact m3 d hd
   ·rw[Qd.mp hd];exact m2
  ·rcases Qh.mp hd with hd|hd
   ·intro b hb a ha
    exact j2 d hd b hb a (by simp at ha ⊢;exact .inr ha)
   ·rw[Qd.mp hd]
    intro b hb a ha
    exact j3 b hb a (by simpa using ha)
  ·rw[Qd.mp he]
   intro b hb a ha
   exact j2 d hd b hb a (by simp;exact .inl ha)
 | @stepN A B c gone done R n l hc _ ih =>
  intro m1 m2 m3 j4 j3 j2 j1
  refine ih (fun x hx=>m1 x ?_) (fun x hx=>?_) m3 (fun a ha x hx=>j4 a ha x (QA hx)) (fun b hb a ha hlt=>?_) (fun d hd b hb a ha=>j2 d hd b hb a ?_) j1
  ·rcases Qh.mp hx with h|h
   ·exact Qs _ (QA h)
   ·exact Qn _ h
  ·rcases Qh.mp hx with h|h
   ·exact m2 x h
   ·rw[Qd.mp h];exact m1 n (Qs _ l.1)
  ·rcases Qh.mp hb with h|h
   ·exact j3 b h a ha hlt
   ·rw[Qd.mp h];exact ZkB (j4 a ha n l.1)
  ·simp only[List.mem_append,List.mem_singleton]at ha ⊢
   rcases ha with((h|h)|h)|h
   ·exact .inl (.inl h)
   ·exact .inl (.inr (h ▸ l.1))
   ·exact .inl (.inr (QA h))
   ·exact .inr h
 | @stepA A B c gone done R n l hc hk _ ih =>
  intro m1 m2 m3 j4 j3 j2 j1
  have mA:∀x∈A,x<(c:Int):=fun x h=>m1 x (Qs _ h)
  have mB:∀x∈B,x<(c:Int):=fun x h=>m1 x (Qn _ h)
  refine ih (fun x hx=>?_) (fun x hx=>?_) (fun d hd x hx=>by have:=m3 d hd x hx;omega) (fun a ha x hx=>?_) (fun b hb a ha hlt=>?_) (fun d hd b hb a ha hlt=>?_) j1
  ·simp only[List.mem_append,List.mem_singleton]at hx
   rcases hx with(h|h)|h
   ·have:=mA x (QA h);omega
   ·omega
   ·have:=mB x h;omega
  ·rcases Qh.mp hx with h|h
   ·have:=m2 x h;omega
   ·rw[Qd.mp h];have:=mA n l.1;omega
  ·rcases Qh.mp hx with h|h
   ·exact j4 a ha x (QA h)
   ·rw[Qd.mp h];exact ZnD (j4 a ha n l.1) hk
  ·rcases Qh.mp hb with h|h
   ·exact j3 b h a ha hlt
   ·rw[Qd.mp h];exact ZkB (j4 a ha n l.1)
  ·have hbc:=m3 d hd b hb
   have hac:a≠(c:Int):=fun z=>by omega
   refine j2 d hd b hb a ?_ hlt
   simp only[List.mem_append,List.mem_singleton]at ha ⊢
   rcases ha with((h|h)|h|h)|h
   ·exact .inl (.inl h)
   ·exact .inl (.inr (h ▸ l.1))
   ·exact .inl (.inr (QA h))
   ·exact absurd h hac
   ·exact .inr h
 | @stepB A B c gone done R n l hc hk _ ih =>
  intro m1 m2 m3 j4 j3 j2 j1
  have mA:∀x∈A,x<(c:Int):=fun x h=>m1 x (Qs _ h)
  have mB:∀x∈B,x<(c:Int):=fun x h=>m1 x (Qn _ h)
  refine ih (fun x hx=>?_) (fun x hx=>?_) (fun d hd x hx=>by have:=m3 d hd x hx;omega) (fun a ha x hx=>?_) (fun b hb a ha hlt=>?_) (fun d hd b hb a ha hlt=>?_) j1
  ·simp only[List.mem_append,List.mem_singleton]at hx
   rcases hx with h|h|h
   ·have:=mA x (QA h);omega
   ·have:=mB x h;omega
   ·omega
  ·rcases Qh.mp hx with h|h
   ·have:=m2 x h;omega
   ·rw[Qd.mp h];have:=mA n l.1;omega
  ·rcases Qh.mp ha with h|h
   ·exact j4 a h x (QA hx)
   ·rw[Qd.mp h];exact ZnD hk (ZmW l (QA hx))
  ·have hbc:b<(c:Int):=by
    rcases Qh.mp hb with h|h
    ·exact m2 b h
    ·rw[Qd.mp h];exact mA n l.1
   rcases Qh.mp ha with ha|ha
   ·rcases Qh.mp hb with h|h
    ·exact j3 b h a ha hlt
    ·rw[Qd.mp h];exact ZkB (j4 a ha n l.1)
   ·have:=Qd.mp ha;omega
  ·have hbc:=m3 d hd b hb
   have hac:a≠(c:Int):=fun z=>by omega
   refine j2 d hd b hb a ?_ hlt
   simp only[List.mem_append,List.mem_singleton]at ha ⊢
   rcases ha with((h|h)|h)|h|h
   ·exact .inl (.inl h)
   ·exact .inl (.inr (h ▸ l.1))
   ·exact .inl (.inr (QA h))
   ·exact .inr h
   ·exact absurd h hac
theorem Zlz{ss:List Str}{k:Nat}{R:List (List Int)}(h:Res ss (first k) [] k [] [] R):R.Pairwise (ZjS ss) :=
 Zop h (by rw[QL];exact fun n hn=>(Zef hn).2) (fun n h=>by cases h) (fun d h=>by cases h) (fun a h=>by cases h) (fun b h=>by cases h) (fun d h=>by cases h) List.Pairwise.nil
noncomputable def Zlm(K:PySem.W.Frag):Sp:=fun vs H Q _=>∃ (a t:Addr) (ss:List Str) (ns:List Int),vs=[.ref a,.ref t]∧SqL K H a (ss.map V.str)∧H t=some (.lst (ns.map V.int))∧ns.length≤100∧(∀n∈ns,0≤n∧n<ss.length) ∧
 (ns≠[]∧Ris ss ns→∀H',ZC H H'→Q (.bl true) H')∧(¬ (ns≠[]∧Ris ss ns)→∀H',ZC H H'→Q (.bl false) H')
theorem Zl7(T:Zaf K mg cRow cMerge)(f_is_number:Df P w K mg base 1 "is_number" ["thing"] Znq):Df P w K mg base 2 "is_run" ["things", "thing"] (Zlm K):=by
 refine T.t_is_run.df Ze5 (fun vs H Q E h=>?_) (fun cdv f A outer s H vs Q E hr h=>?_)
 ·obtain⟨a,t,ss,ns,rfl,_⟩:=h
  rfl
 obtain⟨a,t,ss,ns,rfl,hS,ht,h100,hmem,q1,q2⟩:=h
 refine⟨_,#[Zg,#[ZZ,(@PW.pt _ _ _ #[Zf2,(@ZgL _ _ _ _ #[Zet,#[Zk,(Zmi K),(by rfl),T.b.n_isinstance,boot_isinstance,#[Za,‹1›,#[Za,#[Zhq,T.b.n_list,boot_list],#[Zc]]]]]),(@Zfl _ _ _ _ #[Zn,Zbf,#[Zk,(ZaR K),(by rfl),T.b.n_len,Qq,#[Za,‹1›,#[Zc]]],#[Zi],(Zs _)])]),#[Zj,#[Zm,#[Zdo]]],#[ZD]],#[Zg,#[Zbt,PassesOwn.never,#[iL,K,‹1›],#[ZA,2,Ze5.nd],#[Zj,#[ZZ,(@PW.pt _ _ _ #[Zf2,(@ZgL _ _ _ _ #[Zet,#[ZB,f_is_number,hr,#[Za,‹2›,#[Zc]],(by rfl)]]),#[Zf2,#[Zn,Zdq,‹2›,#[Zi],(Zs _)],(@Zfl _ _ _ _ #[Zn,Znc,‹2›,#[Zk,(ZaR K),(by rfl),T.b.n_len,Qq,#[Za,‹0›,#[Zc]]],(Zs _)])]]),#[Zj,#[Zm,#[Zdo]]],#[ZD]]]],#[Zg,#[Zbt,PassesOwn.never,#[Zc8,T.b.n_range,#[Za,#[Zi],#[Za,#[Zk,(ZaR K),(by rfl),T.b.n_len,Qq,#[Za,‹1›,#[Zc]]],#[Zc]]]],#[ZA,3,Ze5.nd],#[Zj,#[ZZ,#[Zn,(geK K hr),#[ZT,#[Za,#[Zz,(ixL K),‹0›,#[Zz,(ixL K),‹1›,#[ZF,Zby,‹3›,#[Zi]]]],#[Za,#[Zz,(ixL K),‹1›,#[ZF,Zby,‹3›,#[Zi]]],#[Zc]]]],#[ZT,#[Za,#[Zz,(ixL K),‹0›,#[Zz,(ixL K),‹1›,‹3›]],#[Za,#[Zz,(ixL K),‹1›,‹3›],#[Zc]]]],(Zs _)],#[Zj,#[Zm,#[Zdo]]],#[ZD]]]],#[Zj,#[Zm,#[Zdo]]]]]],?_⟩
 have hl:(((ns.map V.int).length:Nat):Int)=(ns.length:Int):=by rw[Qa]
 refine⟨_,rfl,_, "list",_,_,rfl,.lst ht,Zhk K,_,rfl,Zcl ⟨_,rfl,t,_,rfl,.inl (SqL.of ht),rfl,_,rfl,?_⟩⟩
 refine ZaX (fun d=>?_) (fun d=>?_)
 ·have d':=V.int.inj (of_decide_eq_true d)
  have h0:ns=[]:=QN (by omega)
  exact q2 (fun z=>z.1 h0) H (ZC.refl H)
 have hne:ns≠[]:=fun z=>d (by rw[z];rfl)
 refine⟨_,rfl,t,rfl,⟨_,SqL.of ht⟩,?_⟩
 refine Zgt (K:=K) (a:=t) (xs:=ns.map V.int) (fun i σ H2=>∃v2:Option V,σ=[some (.ref a),some (.ref t),v2,none]∧H2=H) ⟨_,rfl,rfl⟩ (fun _ _ _ _ hq=>by obtain⟨_,_,e⟩:=hq;exact by rw[e];exact SqL.of ht) ?_ ?_
 ·rintro i x σ H2 hx ⟨v2,rfl,rfl⟩
  rw[Qi]at hx
  cases hz:ns[i]? with
  | none=>rw[hz]at hx;cases hx
  | some n =>
   rw[hz]at hx
   cases hx
   have hn:=hmem n (Qo hz)
   refine⟨_,rfl,.inl ⟨n,rfl,_,rfl,Zcl ⟨_,rfl,_,_,rfl,rfl,_,rfl,Zds (by omega) ⟨_,rfl,_,rfl,a,_,rfl,.inl hS,_,_,rfl,rfl,_,rfl,Zds (by rw[Qa];omega) ⟨_,rfl,rfl⟩⟩⟩⟩⟩
 rintro σ H2 ⟨v2,rfl,rfl⟩
 have hpos:0<ns.length:=QaK.mpr hne
 refine⟨_,rfl,t,_,rfl,.inl (SqL.of ht),_,_,rfl,⟨by omega,by omega,by rw[hl];omega,by rw[hl];omega⟩,?_⟩
 refine Zbb (fun i σ H3=>∃v2 v3:Option V,σ=[some (.ref a),some (.ref t),v2,v3]∧ZC H2 H3∧∀ (p:Nat) (x y:Int),p<i→ns[p]? = some x→ns[p+1]? = some y→ZP (kk (ks ss x)) (kk (ks ss y))=true) ⟨_,_,rfl,ZC.refl _,fun p x y h=>absurd h (by omega)⟩ ?_ ?_
 ·rintro i σ H3 hi ⟨v2,v3,rfl,s3,hris⟩
  rw[hl]at hi
  have hi1:i+1<ns.length:=by omega
  obtain⟨x,hx⟩:∃x,ns[i]? = some x:=⟨_,Qb (by omega)⟩
  obtain⟨y,hy⟩:∃y,ns[i+1]? = some y:=⟨_,Qb hi1⟩
  have hx':atI (ns.map V.int) (1+(i:Int)-1)=some (.int x):=by rw[show (1+(i:Int)-1)=((i:Nat):Int) by omega];exact ZX (by rw[Qi,hx];rfl)
  have hy':atI (ns.map V.int) (1+(i:Int))=some (.int y):=by rw[show (1+(i:Int))=((i+1:Nat):Int) by omega];exact ZX (by rw[Qi,hy];rfl)
  have mx:=hmem x (Qo hx)
  have my:=hmem y (Qo hy)
  have kx:=Zfe (ss:=ss) mx.1 mx.2
  have ky:=Zfe (ss:=ss) my.1 my.2
  have ht3:=s3 _ _ ht
  have hS3:=s3.seq hS
  refine⟨_,rfl,_,rfl,_,rfl,_,_,rfl,rfl,xw4 t _ _ _ ⟨rfl,rfl,SqL.of ht3,hx',xw4 a _ _ _ ⟨rfl,rfl,hS3,kx,_,rfl,_,rfl,_,_,rfl,rfl,xw4 t _ _ _ ⟨rfl,rfl,SqL.of ht3,hx',(by show 2≤sizeLine;decide),fun n1 h1=>?_⟩⟩⟩⟩
  have s4:=Zh h1 (.tup [.str (ss.getD x.toNat ""),.int x])
  have ht4:=s4 _ _ ht3
  have hS4:=s4.seq hS3
  have e4:(upd H3 n1 (.tup [.str (ss.getD x.toNat ""),.int x])) n1=some (.tup [.str (ss.getD x.toNat ""),.int x]):=Zb
  have s24:=s3.trans s4
  generalize upd H3 n1 (.tup [.str (ss.getD x.toNat ""),.int x])=H4 at ht4 hS4 e4 s24 ⊢
  refine⟨_,rfl,_,rfl,_,rfl,xw4 t _ _ _ ⟨rfl,rfl,SqL.of ht4,hy',xw4 a _ _ _ ⟨rfl,rfl,hS4,ky,_,rfl,_,rfl,xw4 t _ _ _ ⟨rfl,rfl,SqL.of ht4,hy',(by show 2≤sizeLine;decide),fun n2 h2=>?_⟩⟩⟩⟩
  have s5:=Zh h2 (.tup [.str (ss.getD y.toNat ""),.int y])
  have e5:(upd H4 n2 (.tup [.str (ss.getD y.toNat ""),.int y])) n2=some (.tup [.str (ss.getD y.toNat ""),.int y]):=Zb
  refine⟨n1,n2,kk (ks ss x),kk (ks ss y),rfl,rfl,SqT.of (s5 _ _ e4),SqT.of e5,rfl,_,rfl,?_⟩
  have s25:=s24.trans s5
  cases hb:ZP (kk (ks ss x)) (kk (ks ss y)) with
  | true =>
   refine Zcl ⟨_,_,rfl,s25,fun p x' y' hp hx2 hy2=>?_⟩
   by_cases e:p=i
   ·subst e
    rw[hx]at hx2
    rw[hy]at hy2
    cases hx2
    cases hy2
    exact hb
   ·exact hris p x' y' (by omega) hx2 hy2
  | false =>
   refine ZgW (q2 (fun z=>?_) _ s25)
   have:=z.2 i x y hx hy
   rw[hb]at this
   cases this
 ·rintro σ H3 ⟨v2,v3,rfl,s3,hris⟩
  refine q1 ⟨hne,fun p x y hx hy=>hris p x y ?_ hx hy⟩ _ s3
  have:=(Qc.mp hy).1
  omega
mutual
theorem ZkZ(w:Nat):∀t:PT,tPl w t→1≤(tLv t).length
 | .leaf k,_=>Qg 1
 | .node l,h=>by
  have h1:2≤l.length:=h.1
  have:=ZdB w l h.2.2
  show 1≤(Zak l).length
  omega
theorem ZdB(w:Nat):∀l:List PT,Zb3 w l→l.length≤(Zak l).length
 | [],_=>Qg 0
 | t::r,h=>by
  have h1:=ZkZ w t h.1
  have h2:=ZdB w r h.2
  show r.length+1≤(tLv t++Zak r).length
  rw[Qe]
  omega
end
noncomputable def ZcE(b e:Nat):List Int:=(List.range (e-b)).map fun i=>((b+i:Nat):Int)
theorem Zco(b e:Nat):(ZcE b e).length=e-b:=by unfold ZcE;simp
theorem ZeH{b e i:Nat}(h:i<e-b):(ZcE b e)[i]? = some ((b+i:Nat):Int):=by
 unfold ZcE
 rw[Qi,Qak h]
 rfl
theorem ZhP{b e k:Nat}(h:b+k≤e):(ZcE b e).take k=ZcE b (b+k):=by
 refine Qai fun i=>?_
 rw[List.getElem?_take]
 by_cases hi:i<k
 ·rw[if_pos hi,ZeH (by omega),ZeH (by omega)]
 ·rw[if_neg hi,QH (by rw[Zco];clear h;omega)]
theorem Zhl{b e k:Nat}(h:b+k≤e):(ZcE b e).drop k=ZcE (b+k) e:=by
 refine Qai fun i=>?_
 rw[List.getElem?_drop]
 by_cases hi:k+i<e-b
 ·rw[ZeH hi,ZeH (by omega),Nat.add_assoc]
 ·rw[QH (by rw[Zco];omega),QH (by rw[Zco];clear h;omega)]
theorem Zm9{b m e:Nat}(h1:b≤m)(h2:m≤e):ZcE b m++ZcE m e=ZcE b e:=by
 have a:=ZhP (b:=b) (e:=e) (k:=m-b) (by omega)
 have c:=Zhl (b:=b) (e:=e) (k:=m-b) (by omega)
 rw[show b+(m-b)=m by omega]at a c
 rw[← a,← c,Qae]
noncomputable def Nf(w b e:Nat)(ts:List PT):Prop:=Zak ts=ZcE b e∧Zb3 w ts
theorem Nf.cut{w b e:Nat}{t:PT}{r:List PT}(h:Nf w b e (t::r))(hr:1≤r.length):∃mid,b<mid∧mid<e∧Nf w b mid [t]∧Nf w mid e r:=by
 obtain⟨h1,h2,h3⟩:=h
 have p1:=ZkZ w t h2
 have p2:=ZdB w r h3
 have hl:(tLv t).length+(Zak r).length=e-b:=by
  have:=congrArg List.length h1
  rw[Zco]at this
  rw[← this]
  show _=(tLv t++Zak r).length
  rw[Qe]
 have e1:tLv t++Zak r=ZcE b e:=h1
 refine⟨b+(tLv t).length,by omega,by omega,⟨?_,h2,trivial⟩,⟨?_,h3⟩⟩
 ·rw[← ZhP (b:=b) (e:=e) (by clear p2 hr;omega),← e1,List.take_left]
  show tLv t++[]=_
  rw[QL]
 ·rw[← Zhl (b:=b) (e:=e) (by clear p2 hr;omega),← e1,List.drop_left]
theorem Nf.app{w b m e:Nat}{a c:List PT}(h1:Nf w b m a)(h2:Nf w m e c)(hb:b≤m)(he:m≤e):Nf w b e (a++c):=by
 refine⟨?_,(Zc1 w a c).mpr ⟨h1.2,h2.2⟩⟩
 rw[Zc9,h1.1,h2.1,Zm9 hb he]
theorem Nf.len{w b e:Nat}{ts:List PT}(h:Nf w b e ts):ts.length≤e-b:=by
 have:=ZdB w ts h.2
 rw[h.1,Zco]at this
 exact this
mutual
theorem ZrZ(ns:List Int):∀t:PT,tSz ns t=((tLv t).map fun k=>ns.getD k.toNat 0).sum
 | .leaf k=>by show _=([ns.getD k.toNat 0]:List Int).sum;simp[tSz]
 | .node l=>Zim ns l
theorem Zim(ns:List Int):∀l:List PT,Zf4 ns l=((Zak l).map fun k=>ns.getD k.toNat 0).sum
 | []=>rfl
 | t::r=>by show tSz ns t+Zf4 ns r=((tLv t++Zak r).map _).sum;rw[Qf,Qan,ZrZ ns t,Zim ns r]
end
noncomputable def seg(ns:List Int)(b e:Nat):Int:=((ns.drop b).take (e-b)).sum
theorem Zrd{ns:List Int}{b e:Nat}(h:e≤ns.length):((ZcE b e).map fun k=>ns.getD k.toNat 0).sum=seg ns b e:=by
 unfold seg
 congr 1
 refine Qai fun i=>?_
 rw[Qi,List.getElem?_take,List.getElem?_drop]
 by_cases hi:i<e-b
 ·rw[if_pos hi,ZeH hi,Qb (by omega),Option.map_some,Q5,Qk,Qb (by omega)]
  rfl
 ·rw[if_neg hi,QH (by rw[Zco];omega)]
  rfl
theorem Nf.size{ns:List Int}{w b e:Nat}{ts:List PT}(h:Nf w b e ts)(he:e≤ns.length):Zf4 ns ts=seg ns b e:=by
 rw[Zim,h.1,Zrd he]
mutual
theorem ZrD{ns:List Int}(hn:∀v∈ns,0≤v):∀t:PT,0≤tSz ns t
 | .leaf k=>by
  show 0≤ns.getD k.toNat 0
  rw[Qk]
  cases h:ns[k.toNat]? with
  | none=>exact QaC 0
  | some v=>exact hn v (Qo h)
 | .node l=>Zh6 hn l
theorem Zh6{ns:List Int}(hn:∀v∈ns,0≤v):∀l:List PT,0≤Zf4 ns l
 | []=>QaC 0
 | t::r=>by
  have h1:=ZrD hn t
  have h2:=Zh6 hn r
  show 0≤tSz ns t+Zf4 ns r
  omega
end
mutual
theorem ZrT{ns:List Int}(hn:∀v∈ns,0≤v):∀t:PT,0≤tCo ns t
 | .leaf k=>QaC 0
 | .node l=>by
  have h1:=Zir hn l
  have h2:=Zh6 hn l
  show 0≤Zcn ns l+Zf4 ns l
  omega
theorem Zir{ns:List Int}(hn:∀v∈ns,0≤v):∀l:List PT,0≤Zcn ns l
 | []=>QaC 0
 | t::r=>by
  have h1:=ZrT hn t
  have h2:=Zir hn r
  show 0≤tCo ns t+Zcn ns r
  omega
end
structure Gr (ns:List Int) (w b e m:Nat) (p:Int) (ts:List PT):Prop where
 l1:1≤ts.length
 lm:ts.length≤m
 nf:Nf w b e ts
 co:Zcn ns ts=p
 le:∀us,1≤us.length→us.length≤m→Nf w b e us→p≤Zcn ns us
structure Gc (ns:List Int) (w b e m:Nat) (p:Int) (ts:List PT):Prop where
 l1:2≤ts.length
 lm:ts.length≤m
 nf:Nf w b e ts
 co:Zcn ns ts=p
 le:∀us,2≤us.length→us.length≤m→Nf w b e us→p≤Zcn ns us
theorem Zpj{ns:List Int}(hn:∀v∈ns,0≤v)(w b m:Nat)(h:1≤m):Gr ns w b (b+1) m 0 [.leaf (b:Int)]:=by
 refine⟨Qg 1,h,⟨?_,trivial,trivial⟩,rfl,fun us _ _ _=>Zir hn us⟩
 show [(b:Int)]=ZcE b (b+1)
 unfold ZcE
 rw[show b+1-b=1 by omega]
 rfl
theorem Zq8{ns:List Int}{w b e m mid:Nat}{p1 p2:Int}{t1 t2:List PT}(hm:2≤m)(hb:b<mid)(he:mid<e)(g1:Gr ns w b mid 1 p1 t1)(g2:Gr ns w mid e (m-1) p2 t2)
  (hle:∀k q1 q2 u1 u2,b<k→k<e→Gr ns w b k 1 q1 u1→Gr ns w k e (m-1) q2 u2→p1+p2≤q1+q2) (hex:∀k,b<k→k<e→∃q1 q2 u1 u2,Gr ns w b k 1 q1 u1∧Gr ns w k e (m-1) q2 u2):Gc ns w b e m (p1+p2) (t1++t2):=by
 have a1:=g1.l1
 have a2:=g1.lm
 have a3:=g2.l1
 have a4:=g2.lm
 refine⟨by rw[Qe];omega,by rw[Qe];omega,g1.nf.app g2.nf (by omega) (by omega),by rw[ZjI,g1.co,g2.co],fun us h2 hl hu=>?_⟩
 cases us with
 | nil=>simp at h2
 | cons t r =>
  simp only[List.length_cons]at h2 hl
  obtain⟨k,k1,k2,n1,n2⟩:=hu.cut (by omega)
  obtain⟨q1,q2,u1,u2,f1,f2⟩:=hex k k1 k2
  have c1:=f1.le [t] (by simp) (by simp) n1
  have c2:=f2.le r (by omega) (by omega) n2
  have c3:=hle k q1 q2 u1 u2 k1 k2 f1 f2
  have e1:Zcn ns [t]=tCo ns t:=by show tCo ns t+0=_;omega
  show _≤tCo ns t+Zcn ns r
  clear k2 k1 hl h2 a4 a3 a2 a1 hex hle he hb hm;omega
theorem ZpK{ns:List Int}{w b e:Nat}{p:Int}{ts:List PT}(h:Gc ns w b e w p ts)(hbe:b+1<e)(he:e≤ns.length):Gr ns w b e 1 (p+seg ns b e) [.node ts]:=by
 have a1:=h.l1
 have a2:=h.lm
 refine⟨Qg 1,Qg 1,⟨?_,⟨a1,a2,h.nf.2⟩,trivial⟩,?_,fun us h1 h2 hu=>?_⟩
 ·show Zak ts++[]=_
  rw[QL,h.nf.1]
 ·show Zcn ns ts+Zf4 ns ts+0=_
  rw[h.co,h.nf.size he]
  omega
 ·cases us with
  | nil=>simp at h1
  | cons t r =>
   have:r=[]:=by simpa using h2
   subst this
   cases t with
   | leaf k =>
    have:=congrArg List.length hu.1
    rw[Zco]at this
    have:1=e-b:=this
    omega
   | node l =>
    have hp:2≤l.length∧l.length≤w∧Zb3 w l:=hu.2.1
    have hv:Zak l=ZcE b e:=by
     have h9:Zak l++[]=ZcE b e:=hu.1
     rw[QL]at h9
     exact h9
    have hl:Nf w b e l:=⟨hv,hp.2.2⟩
    have:=h.le l hp.1 hp.2.1 hl
    show _≤Zcn ns l+Zf4 ns l+0
    rw[hl.size he]
    omega
theorem Zo3{ns:List Int}{w b e m:Nat}{p q:Int}{ts us:List PT}(hm:1≤m)(h:Gr ns w b e 1 p ts)(g:Gc ns w b e m q us):(q<p→Gr ns w b e m q us)∧(¬ q<p→Gr ns w b e m p ts):=by
 have a1:=h.l1
 have a2:=h.lm
 have a3:=g.l1
 have both:∀vs,1≤vs.length→vs.length≤m→Nf w b e vs→(vs.length=1∧p≤Zcn ns vs)∨q≤Zcn ns vs:=fun vs v1 v2 hv=>by
  by_cases h1:vs.length=1
  ·exact .inl ⟨h1,h.le vs (by omega) (by omega) hv⟩
  ·exact .inr (g.le vs (by omega) v2 hv)
 refine⟨fun hl=>⟨by omega,g.lm,g.nf,g.co,fun vs v1 v2 hv=>?_⟩,fun hl=>⟨h.l1,by omega,h.nf,h.co,fun vs v1 v2 hv=>?_⟩⟩
 ·rcases both vs v1 v2 hv with⟨_,z⟩|z<;>omega
 ·rcases both vs v1 v2 hv with⟨_,z⟩|z<;>omega
theorem ZqH{ns:List Int}{w b m:Nat}{p:Int}{ts:List PT}(h:Gr ns w b (b+1) 1 p ts)(hm:1≤m):Gr ns w b (b+1) m p ts:=by
 have a1:=h.l1
 have a2:=h.lm
 refine⟨h.l1,by omega,h.nf,h.co,fun us u1 u2 hu=>h.le us u1 ?_ hu⟩
 have:=hu.len
 omega
theorem ZeG{ns:List Int}{w b e:Nat}{p q:Int}{ts us:List PT}{m:Nat}(h:Gr ns w b e m p ts)(g:Gr ns w b e m q us):p=q:=by
 have a:=h.le us g.l1 g.lm g.nf
 have c:=g.le ts h.l1 h.lm h.nf
 rw[g.co]at a
 rw[h.co]at c
 omega
theorem Zoj(ts:Zcu):(Zag ts).length=ts.length:=by unfold Zag;rw[Qa]
theorem Zo8{x y:Int}{r s:List Key}(h:ZP (.inl x::r) (.inl y::s)=false):y≤x:=by
 rw[Z8]at h
 by_cases e:(Sum.inl x:Key)=.inl y
 ·injection e with e;omega
 ·rw[if_neg e]at h
  have:¬ x<y:=of_decide_eq_false h
  omega
noncomputable def Kb(b e m:Nat):List Key:=[.inl (b:Int),.inl (e:Int),.inl (m:Int)]
theorem ZrU{b e m b' e' m':Nat}(h:Kb b e m=Kb b' e' m'):b=b'∧e=e'∧m=m':=by
 unfold Kb at h
 injection h with h1 h2
 injection h2 with h2 h3
 injection h3 with h3 _
 injection h1 with h1
 injection h2 with h2
 injection h3 with h3
 omega
noncomputable def Zg2(H:Hp)(v:V)(p:Int)(ts:List PT):Prop:=∃ (a t:Addr) (xs:List V),v=.ref a∧H a=some (.tup [.int p,.ref t])∧H t=some (.tup xs)∧TVs H xs ts
theorem Zg2.mono{H H':Hp}{v:V}{p:Int}{ts:List PT}(h:Zg2 H v p ts)(s:∀a xs,H a=some (.tup xs)→H' a=some (.tup xs)):Zg2 H' v p ts:=by
 obtain⟨a,t,xs,e,h1,h2,h3⟩:=h
 exact⟨a,t,xs,e,s _ _ h1,s _ _ h2,h3.mono s⟩
noncomputable def Has(ns:List Int)(w:Nat)(H:Hp)(kvs:List (List Key×V))(b e:Nat):Prop:=∀m,1≤m→m<w→∃v p ts,Zb2 kvs (Kb b e m)=some v∧Zg2 H v p ts∧Gr ns w b e m p ts
theorem Has.mono{ns:List Int}{w:Nat}{H H':Hp}{kvs:List (List Key×V)}{b e:Nat}(h:Has ns w H kvs b e)(s:∀a xs,H a=some (.tup xs)→H' a=some (.tup xs)):Has ns w H' kvs b e:=fun m h1 h2=>by
 obtain⟨v,p,ts,a,c,g⟩:=h m h1 h2
 exact⟨v,p,ts,a,c.mono s,g⟩
noncomputable def Zob(ns:List Int)(wy:Nat):Sp:=fun vs H Q _=>∃ (d:Addr) (kvs:List (List Key×V)) (b e m:Nat),vs=[.ref d,.int b,.int e,.int m]∧H d=some (.dT kvs)∧b+1<e∧e≤60∧2≤m∧m≤wy∧(∀k,b<k→k<e→Has ns wy H kvs b k∧Has ns wy H kvs k e) ∧
 ∀ (r:Addr) (p:Int) (ts:List PT) (H':Hp),Zg2 H' (.ref r) p ts→Gc ns wy b e m p ts→ZC H H'→Q (.ref r) H'
noncomputable def PS(ns:List Int)(wy b e m k:Nat)(s:Int):Prop:=∃q1 q2 u1 u2,Gr ns wy b k 1 q1 u1∧Gr ns wy k e (m-1) q2 u2∧s=q1+q2
theorem ZrJ(T:Zaf K mg cRow cMerge)(ns:List Int)(wy:Nat):Df P w K mg base 1 "least_cut" ["groves", "begin", "end", "most"] (Zob ns wy):=by
 refine T.t_least_cut.df Zdi (fun vs H Q E h=>?_) (fun cdv f A outer s H vs Q E hr h=>?_)
 ·obtain⟨d,kvs,b,e,m,rfl,_⟩:=h
  rfl
 obtain⟨d,kvs,b,e,m,rfl,hd,hbe,he12,hm2,hmw,hall,q⟩:=h
 refine⟨_,#[Zg,#[ZaZ,#[Zk,(Zsu K hr),(by rfl),T.b.n_min,boot_min,#[Za,#[Zav,Zeq,#[Zc8,T.b.n_range,#[Za,#[ZF,Zac,#[pv,1,(Or.inr (Or.inl rfl))],#[Zi]],#[Za,#[pv,2,(Or.inr (Or.inl rfl))],#[Zc]]]],(fun _ _ _ _=>#[cgL,6,Zeq]),(fun _ _ _ _=>(@Zaw _)),(fun _ _ _ _=>#[ZT,#[Za,#[ZF,Zac,#[Zz,(ixT K),#[Zz,(ixD hr),#[cvC,0,Zeq],#[ZT,#[Za,#[cvC,1,Zeq],#[Za,#[cwL,6,Zeq],#[Za,#[Zi],#[Zc]]]]]],#[Zi]],#[Zz,(ixT K),#[Zz,(ixD hr),#[cvC,0,Zeq],#[ZT,#[Za,#[cwL,6,Zeq],#[Za,#[cvC,2,Zeq],#[Za,#[ZF,Zby,#[cvC,3,Zeq],#[Zi]],#[Zc]]]]]],#[Zi]]],#[Za,#[cwL,6,Zeq],#[Zc]]]])],#[Zc]]],#[gT,K,2,#[Zv,#[ZA,4,Zdi.nd],#[Zv,#[ZA,5,Zdi.nd],(@ZaE _)]]]],#[Zj,#[Zm,#[ZT,#[Za,‹4›,#[Za,#[ZF,Zpg,#[Zz,(ixT K),#[Zz,(ixD hr),#[pv,0,(Or.inr (Or.inl rfl))],#[ZT,#[Za,#[pv,1,(Or.inr (Or.inl rfl))],#[Za,‹5›,#[Za,#[Zi],#[Zc]]]]]],#[Zi]],#[Zz,(ixT K),#[Zz,(ixD hr),#[pv,0,(Or.inr (Or.inl rfl))],#[ZT,#[Za,‹5›,#[Za,#[pv,2,(Or.inr (Or.inl rfl))],#[Za,#[ZF,Zby,#[pv,3,(Or.inr (Or.inl rfl))],#[Zi]],#[Zc]]]]]],#[Zi]]],#[Zc]]]]]]],?_⟩
 refine⟨_,rfl,_,_,rfl,rfl,_,rfl,_,_,rfl,⟨by omega,by omega,by omega,by omega⟩,fun D hD=>?_⟩
 rw[show ((e:Int)-((b:Int)+1)).toNat=e-(b+1) by omega]
 refine Zcm (fun i zs σ H2=>(∃v:Option V,σ=[some (.ref d),some (.int b),some (.int e),some (.int m),none,none,v])∧(∃tl:Zcu,zs=Zag tl∧AtT H2 tl∧tl.length=i∧∀ (j:Nat) (t:Addr×List Key),tl[j]? = some t→∃s,t.2=[.inl s,.inl ((b+1+j:Nat):Int)]∧PS ns wy b e m (b+1+j) s)∧i≤e-(b+1)∧H2 D=some (.lst zs)∧ZC H H2) ?_ ?_ ?_
 ·exact⟨⟨none,rfl⟩,⟨[],rfl,(fun t h=>by cases h),rfl,fun j t h=>by cases h⟩,Qv _,Zb,Zh hD _⟩
 ·rintro i zs σ H2 hi ⟨⟨v,rfl⟩,⟨tl,rfl,hat,htl,hk⟩,hi',hD2,s2⟩
  rw[show ((b:Int)+1+(i:Int))=((b+1+i:Nat):Int) by omega]
  obtain⟨A1,A2⟩:=hall (b+1+i) (by omega) (by clear hi' hk q hall hmw hm2 he12 htl hbe;omega)
  obtain⟨v1,p1,t1,l1,⟨a1,y1,x1,rfl,ha1,hy1,tv1⟩,g1⟩:=A1 1 (by omega) (by omega)
  obtain⟨v2,p2,t2,l2,⟨a2,y2,x2,rfl,ha2,hy2,tv2⟩,g2⟩:=A2 (m-1) (by omega) (by omega)
  refine⟨_,rfl,_,rfl,_,rfl,(by show 3≤sizeLine;decide),fun k1 hk1=>?_⟩
  have s3:=s2.trans (Zh hk1 (.tup ((Kb b (b+1+i) 1).map kV)))
  have hD3:=Zh hk1 (.tup ((Kb b (b+1+i) 1).map kV)) _ _ hD2
  have hat3:=AtT.mono hat (Zh hk1 (.tup ((Kb b (b+1+i) 1).map kV)))
  have f3:(upd H2 k1 (.tup ((Kb b (b+1+i) 1).map kV))) k1=some (.tup ((Kb b (b+1+i) 1).map kV)):=Zb
  change ZiE _ _ (upd H2 k1 (.tup ((Kb b (b+1+i) 1).map kV))) _
  generalize upd H2 k1 (.tup ((Kb b (b+1+i) 1).map kV))=H3 at s3 hD3 hat3 f3 ⊢
  refine⟨d,kvs,k1,Kb b (b+1+i) 1,_,rfl,rfl,s3 _ _ hd,f3,l1,a1,_,_,_,rfl,rfl,SqT.of (s3 _ _ ha1),rfl,?_⟩
  refine⟨_,rfl,_,rfl,_,rfl,_,rfl,_,_,rfl,rfl,(by show 3≤sizeLine;decide),fun k2 hk2=>?_⟩
  have s4:=s3.trans (Zh hk2 (.tup ((Kb (b+1+i) e (m-1)).map kV)))
  have hD4:=Zh hk2 (.tup ((Kb (b+1+i) e (m-1)).map kV)) _ _ hD3
  have hat4:=AtT.mono hat3 (Zh hk2 (.tup ((Kb (b+1+i) e (m-1)).map kV)))
  have f4:(upd H3 k2 (.tup ((Kb (b+1+i) e (m-1)).map kV))) k2=some (.tup ((Kb (b+1+i) e (m-1)).map kV)):=Zb
  change ZiE _ _ (upd H3 k2 (.tup [V.int ((b+1+i:Nat):Int),V.int (e:Int),V.int ((m:Int)-1)])) _
  rw[show ((m:Int)-1)=((m-1:Nat):Int) by omega]
  change ZiE _ _ (upd H3 k2 (.tup ((Kb (b+1+i) e (m-1)).map kV))) _
  generalize upd H3 k2 (.tup ((Kb (b+1+i) e (m-1)).map kV))=H4 at s4 hD4 hat4 f4 ⊢
  refine⟨d,kvs,k2,Kb (b+1+i) e (m-1),_,rfl,rfl,s4 _ _ hd,f4,l2,a2,_,_,_,rfl,rfl,SqT.of (s4 _ _ ha2),rfl,_,_,rfl,rfl,_,rfl,(by show 2≤sizeLine;decide),fun n hn=>?_⟩
  have sn:=Zh hn (.tup [.int (p1+p2),.int ((b+1+i:Nat):Int)])
  have hD5:=sn _ _ hD4
  have nDn:D≠n:=Zd hD4 hn
  refine⟨hD5,(by rw[Zoj,htl];exact ZH (by clear nDn hi' hk q hall hmw hm2 htl hbe;omega)),⟨_,rfl⟩,⟨tl++[(n,[.inl (p1+p2),.inl ((b+1+i:Nat):Int)])],by unfold Zag;rw[Qf];rfl,fun t ht=>?_,by rw[Qe,Qm];omega,fun j t hj=>?_⟩,by omega,Zb,fun b' o hb=>?_⟩
  ·rcases Qh.mp ht with ht|ht
   ·exact Zbj hD5 _ _ _ (sn _ _ (hat4 t ht))
   ·rw[Qd.mp ht,Ze nDn.symm];exact Zb
  ·by_cases hjl:j<tl.length
   ·rw[QX hjl]at hj
    exact hk j t hj
   ·have hj2:=(Qc.mp hj).1
    rw[Qe,Qm]at hj2
    have ej:j=i:=by omega
    subst ej
    rw[QW (by omega),htl,Nat.sub_self]at hj
    cases hj
    exact⟨p1+p2,rfl,p1,p2,t1,t2,g1,g2,rfl⟩
  ·rw[Ze (Zd hb hD)];exact sn _ _ (s4 b' o hb)
 rintro zs σ H2 ⟨⟨v,rfl⟩,⟨tl,rfl,hat,htl,hk⟩,_,hD2,s2⟩
 have hsh:∀t∈tl,ZV t.2=[true,true]:=fun t ht=>by
  obtain⟨j,hj⟩:=List.mem_iff_getElem?.mp ht
  obtain⟨s,e1,_⟩:=hk j t hj
  rw[e1];rfl
 refine⟨D,tl,[true,true],rfl,SqL.of hD2,hat,(fun z=>by rw[z]at htl;simp at htl;omega),hsh,fun t ht hmin=>?_⟩
 obtain⟨j,hj⟩:=List.mem_iff_getElem?.mp ht
 have hjl:=(Qc.mp hj).1
 obtain⟨sm,et,q1,q2,u1,u2,g1,g2,es⟩:=hk j t hj
 have htt:=hat t ht
 rw[et]at htt
 refine⟨t.1,_,rfl,SqT.of htt,rfl,_,_,rfl,_,_,rfl,rfl,?_⟩
 have hmid1:b<b+1+j:=by omega
 have hmid2:b+1+j<e:=by omega
 obtain⟨A1,A2⟩:=hall (b+1+j) hmid1 hmid2
 obtain⟨v1,p1,t1,l1,⟨a1,y1,x1,rfl,ha1,hy1,tv1⟩,g1'⟩:=A1 1 (by omega) (by omega)
 obtain⟨v2,p2,t2,l2,⟨a2,y2,x2,rfl,ha2,hy2,tv2⟩,g2'⟩:=A2 (m-1) (by omega) (by omega)
 have e1:=ZeG g1 g1'
 have e2:=ZeG g2 g2'
 have hcut:Gc ns wy b e m (p1+p2) (t1++t2):=by
  refine Zq8 hm2 hmid1 hmid2 g1' g2' (fun k r1 r2 w1 w2 k1 k2 f1 f2=>?_) (fun k k1 k2=>?_)
  ·have hkl:k-(b+1)<tl.length:=by omega
   obtain⟨s',e3,r1',r2',w1',w2',f1',f2',es'⟩:=hk (k-(b+1)) _ (Qb hkl)
   have hm':=hmin _ (QT hkl)
   rw[e3,et]at hm'
   have:=Zo8 hm'
   rw[show b+1+(k-(b+1))=k by omega]at f1' f2'
   have e4:=ZeG f1 f1'
   have e5:=ZeG f2 f2'
   omega
  ·obtain⟨B1,B2⟩:=hall k k1 k2
   obtain⟨_,r1,w1,_,_,f1⟩:=B1 1 (by omega) (by omega)
   obtain⟨_,r2,w2,_,_,f2⟩:=B2 (m-1) (by omega) (by omega)
   exact⟨r1,r2,w1,w2,f1,f2⟩
 refine⟨_,rfl,_,rfl,_,rfl,_,rfl,(by show 3≤sizeLine;decide),fun k1 hk1=>?_⟩
 have s3:=s2.trans (Zh hk1 (.tup ((Kb b (b+1+j) 1).map kV)))
 have f3:(upd H2 k1 (.tup ((Kb b (b+1+j) 1).map kV))) k1=some (.tup ((Kb b (b+1+j) 1).map kV)):=Zb
 change ZiE _ _ (upd H2 k1 (.tup ((Kb b (b+1+j) 1).map kV))) _
 generalize upd H2 k1 (.tup ((Kb b (b+1+j) 1).map kV))=H3 at s3 f3 ⊢
 refine⟨d,kvs,k1,Kb b (b+1+j) 1,_,rfl,rfl,s3 _ _ hd,f3,l1,a1,_,_,_,rfl,rfl,SqT.of (s3 _ _ ha1),rfl,?_⟩
 refine⟨_,rfl,_,rfl,_,rfl,_,rfl,_,_,rfl,rfl,(by show 3≤sizeLine;decide),fun k2 hk2=>?_⟩
 have s4:=s3.trans (Zh hk2 (.tup ((Kb (b+1+j) e (m-1)).map kV)))
 have f4:(upd H3 k2 (.tup ((Kb (b+1+j) e (m-1)).map kV))) k2=some (.tup ((Kb (b+1+j) e (m-1)).map kV)):=Zb
 change ZiE _ _ (upd H3 k2 (.tup [V.int ((b+1+j:Nat):Int),V.int (e:Int),V.int ((m:Int)-1)])) _
 rw[show ((m:Int)-1)=((m-1:Nat):Int) by omega]
 change ZiE _ _ (upd H3 k2 (.tup ((Kb (b+1+j) e (m-1)).map kV))) _
 generalize upd H3 k2 (.tup ((Kb (b+1+j) e (m-1)).map kV))=H4 at s4 f4 ⊢
 have tv1':TVs H4 x1 t1:=tv1.mono fun a xs e=>s4 _ _ e
 have tv2':TVs H4 x2 t2:=tv2.mono fun a xs e=>s4 _ _ e
 have n1:=tv1.len
 have n2:=tv2.len
 have c1:=g1'.l1
 have c2:=g2'.l1
 have c3:=g1'.lm
 have c4:=g2'.nf.len
 refine⟨d,kvs,k2,Kb (b+1+j) e (m-1),_,rfl,rfl,s4 _ _ hd,f4,l2,a2,_,_,_,rfl,rfl,SqT.of (s4 _ _ ha2),rfl,y1,y2,x1,x2,rfl,rfl,SqT.of (s4 _ _ hy1),SqT.of (s4 _ _ hy2),(fun z=>by rw[z]at n1;simp at n1;omega),Qav (ZH (by clear c2 e2 e1 hmid1 es hjl hmin hsh hk htl q hall hmw hm2 c1 hmid2 hbe;omega)),(fun z=>by rw[z]at n2;simp at n2;omega),fun _ tt htt'=>?_⟩
 have s5:=s4.trans (Zh htt' (.tup (x1++x2)))
 have f5:(upd H4 tt (.tup (x1++x2))) tt=some (.tup (x1++x2)):=Zb
 have tv5:TVs (upd H4 tt (.tup (x1++x2))) (x1++x2) (t1++t2):=(tv1'.app tv2').mono fun a xs e=>Zh htt' _ _ _ e
 generalize upd H4 tt (.tup (x1++x2))=H5 at s5 f5 tv5 ⊢
 refine⟨(by show 2≤sizeLine;decide),fun r hr0=>?_⟩
 have esum:sm=p1+p2:=by omega
 rw[esum]
 have s6:=Zh hr0 (.tup [.int (p1+p2),.ref tt])
 exact q r (p1+p2) (t1++t2) _ ⟨r,tt,x1++x2,rfl,Zb,s6 _ _ f5,tv5.mono fun a xs e=>s6 _ _ e⟩ hcut (s5.trans s6)
noncomputable def Zlu(K:PySem.W.Frag)(ns:List Int)(wy:Nat):Sp:=fun vs H Q _=>∃ (d a:Addr) (kvs:List (List Key×V)) (b e:Nat),vs=[.ref d,.ref a,.int wy,.int b,.int e]∧H d=some (.dT kvs)∧SqL K H a (ns.map V.int)∧b<e∧e≤ns.length∧ns.length≤60∧(∀v∈ns,0≤v∧v≤1000000000)∧2≤wy∧(∀k,b<k→k<e→Has ns wy H kvs b k∧Has ns wy H kvs k e) ∧
 ∀ (r:Addr) (p:Int) (ts:List PT) (H':Hp),Zg2 H' (.ref r) p ts→Gr ns wy b e 1 p ts→ZC H H'→Q (.ref r) H'
theorem ZnU(T:Zaf K mg cRow cMerge)(ns:List Int)(wy:Nat)(f_least_cut:Df P w K mg base 1 "least_cut" ["groves", "begin", "end", "most"] (Zob ns wy)):Df P w K mg base 2 "least_tree" ["groves", "sizes", "ways", "begin", "end"] (Zlu K ns wy):=by
 refine T.t_least_tree.df ZcF (fun vs H Q E h=>?_) (fun cdv f A outer s H vs Q E hr h=>?_)
 ·obtain⟨d,a,kvs,b,e,rfl,_⟩:=h
  rfl
 obtain⟨d,a,kvs,b,e,rfl,hd,hS,hbe,hen,hn12,hns,w2,hall,q⟩:=h
 refine⟨_,#[Zg,#[ZZ,#[Zn,Zbf,#[ZF,Zby,‹4›,‹3›],#[Zi],(Zs _)],#[Zj,#[Zm,#[ZT,#[Za,#[Zi],#[Za,#[ZT,#[Za,‹3›,#[Zc]]],#[Zc]]]]]],#[ZD]],#[Zg,#[ZaZ,#[ZB,f_least_cut,hr,#[Za,‹0›,#[Za,‹3›,#[Za,‹4›,#[Za,‹2›,#[Zc]]]]],(by rfl)],#[gT,K,2,#[Zv,#[ZA,5,ZcF.nd],#[Zv,#[ZA,6,ZcF.nd],(@ZaE _)]]]],#[Zj,#[Zm,#[ZT,#[Za,#[ZF,Zac,‹5›,#[Zk,(Zsb K),(by rfl),T.b.n_sum,boot_sum,#[Za,#[ZcL,(slL K),‹1›,#[ZbD,‹3›],#[ZbD,‹4›]],#[Zc]]]],#[Za,#[ZT,#[Za,‹6›,#[Zc]]],#[Zc]]]]]]]],?_⟩
 have hnn:∀v∈ns,0≤v:=fun v hv=>(hns v hv).1
 refine⟨_,rfl,_,rfl,_,_,rfl,rfl,rfl,_,rfl,ZaX (fun d0=>?_) (fun d0=>?_)⟩
 ·have d':=V.int.inj (of_decide_eq_true d0)
  have ee:e=b+1:=by omega
  subst ee
  refine⟨_,rfl,(by show 1≤sizeLine;decide),fun t1 ht1=>⟨(by show 2≤sizeLine;decide),fun r hr0=>?_⟩⟩
  have s2:=Zh hr0 (.tup [.int 0,.ref t1])
  exact q r 0 [.leaf (b:Int)] _ ⟨r,t1,_,rfl,Zb,s2 _ _ Zb,.cons (.leaf _) .nil⟩ (Zpj hnn wy b 1 (Qg 1)) ((Zh ht1 _).trans s2)
 ·have hne:¬ e=b+1:=fun z=>d0 (decide_eq_true (show V.int ((e:Int)-(b:Int))=V.int 1 from by rw[show ((e:Int)-(b:Int))=1 by omega]))
  refine⟨_,rfl,_,rfl,_,rfl,_,rfl,d,kvs,b,e,wy,rfl,hd,by omega,by omega,w2,Qg _,hall,fun r p ts H1 hC hG s1=>?_⟩
  obtain⟨r',t,xs,er,h1,h2,h3⟩:=hC
  cases er
  refine⟨r,_,rfl,SqT.of h1,rfl,_,_,rfl,_,_,rfl,rfl,?_⟩
  refine⟨_,rfl,_,rfl,_,rfl,_,rfl,_,rfl,_,rfl,a,_,rfl,s1.seq hS,fun sl hsl=>?_⟩
  rw[ZjQ (ns.map V.int) b e (by rw[Qa];omega) (by rw[Qa];exact hen),← List.map_drop,← List.map_take]
  have s2:=Zh hsl (.lst (((ns.drop b).take (e-b)).map V.int))
  have f2:(upd H1 sl (.lst (((ns.drop b).take (e-b)).map V.int))) sl=some (.lst (((ns.drop b).take (e-b)).map V.int)):=Zb
  generalize upd H1 sl (.lst (((ns.drop b).take (e-b)).map V.int))=H2 at s2 f2 ⊢
  refine⟨sl,(ns.drop b).take (e-b),rfl,SqL.of f2,by rw[Qx,QR];omega,fun v hv=>?_,_,_,rfl,rfl,_,rfl,(by show 1≤sizeLine;decide),fun t2 ht2=>⟨(by show 2≤sizeLine;decide),fun r2 hr2=>?_⟩⟩
  ·have:=hns v (Qar (Qaq hv))
   omega
  have s3:=Zh ht2 (.tup [.ref t])
  have s4:=Zh hr2 (.tup [.int (p+((ns.drop b).take (e-b)).sum),.ref t2])
  have s14:=(s2.trans s3).trans s4
  exact q r2 (p+seg ns b e) [.node ts] _ ⟨r2,t2,_,rfl,Zb,s4 _ _ Zb,.cons (.node (s14 _ _ h2) (h3.mono fun a xs e=>s14 _ _ e)) .nil⟩ (ZpK hG (by omega) hen) (s1.trans s14)
noncomputable def Zk6(ns:List Int)(wy:Nat):Sp:=fun vs H Q _=>∃ (d al:Addr) (kvs:List (List Key×V)) (b e m:Nat) (p:Int) (ts:List PT),vs=[.ref d,.ref al,.int b,.int e,.int m]∧H d=some (.dT kvs)∧b<e∧e≤60∧1≤m∧m<wy∧Zg2 H (.ref al) p ts∧Gr ns wy b e 1 p ts∧(∀k,b<k→k<e→Has ns wy H kvs b k∧Has ns wy H kvs k e) ∧
 ∀ (r:Addr) (p:Int) (ts:List PT) (H':Hp),Zg2 H' (.ref r) p ts→Gr ns wy b e m p ts→ZC H H'→Q (.ref r) H'
theorem ZnG(T:Zaf K mg cRow cMerge)(ns:List Int)(wy:Nat)(f_least_cut:Df P w K mg base 1 "least_cut" ["groves", "begin", "end", "most"] (Zob ns wy)):Df P w K mg base 2 "least_grove" ["groves", "alone", "begin", "end", "most"] (Zk6 ns wy):=by
 refine T.t_least_grove.df ZdV (fun vs H Q E h=>?_) (fun cdv f A outer s H vs Q E hr h=>?_)
 ·obtain⟨d,al,kvs,b,e,m,p,ts,rfl,_⟩:=h
  rfl
 obtain⟨d,al,kvs,b,e,m,p,ts,rfl,hd,hbe,he12,m1,mw,hC,hG,hall,q⟩:=h
 refine⟨_,#[Zg,#[ZZ,(@PW.pt _ _ _ #[Zf2,#[Zn,Zbf,#[ZF,Zby,‹3›,‹2›],#[Zi],(Zs _)],(@Zfl _ _ _ _ #[Zn,Zbf,‹4›,#[Zi],(Zs _)])]),#[Zj,#[Zm,‹1›]],#[ZD]],#[Zg,#[Zy,5,ZdV.nd,(Or.inl rfl),#[ZB,f_least_cut,hr,#[Za,‹0›,#[Za,‹2›,#[Za,‹3›,#[Za,‹4›,#[Zc]]]]],(by rfl)]],#[Zj,#[Zm,#[Zbq,#[Zn,Zdq,#[Zz,(ixT K),‹5›,#[Zi]],#[Zz,(ixT K),‹1›,#[Zi]],(Zs _)],‹5›,‹1›]]]]],?_⟩
 refine⟨_,rfl,_,rfl,_,_,rfl,rfl,rfl,_,rfl,ZaX (fun d0=>ZgW ⟨_,rfl,?_⟩) (fun d0=>⟨_,rfl,rfl,_,rfl,ZaX (fun d1=>⟨_,rfl,?_⟩) (fun d1=>?_)⟩)⟩
 ·have d':=V.int.inj (of_decide_eq_true d0)
  have ee:e=b+1:=by omega
  subst ee
  exact q al p ts H hC (ZqH hG m1) (ZC.refl H)
 ·have d':=V.int.inj (of_decide_eq_true d1)
  have em:m=1:=by omega
  subst em
  exact q al p ts H hC hG (ZC.refl H)
 ·have hne:¬ e=b+1:=fun z=>d0 (decide_eq_true (show V.int ((e:Int)-(b:Int))=V.int 1 from by rw[show ((e:Int)-(b:Int))=1 by omega]))
  have hm1:¬ m=1:=fun z=>d1 (decide_eq_true (by rw[z];rfl))
  refine⟨_,rfl,_,rfl,_,rfl,_,rfl,d,kvs,b,e,m,rfl,hd,by clear d1 d0 q hall mw he12 hm1 m1;omega,he12,by omega,by omega,hall,fun r p2 ts2 H1 hC2 hG2 s1=>?_⟩
  obtain⟨g1,g2⟩:=Zo3 m1 hG hG2
  obtain⟨r',t,xs,er,h1,h2,h3⟩:=id hC2
  cases er
  obtain⟨al',t',xs',ea,k1,k2,k3⟩:=id hC
  cases ea
  refine⟨_,rfl,xw4 r _ _ _ ⟨rfl,rfl,SqT.of h1,rfl,_,rfl,al,_,_,_,rfl,rfl,SqT.of (s1 _ _ k1),rfl,_,_,rfl,rfl,_,rfl,ZaX (fun d2=>⟨_,rfl,?_⟩) (fun d2=>⟨_,rfl,?_⟩)⟩⟩
  ·exact q r p2 ts2 H1 hC2 (g1 (of_decide_eq_true d2)) s1
  ·exact q al p ts H1 (hC.mono fun a xs e=>s1 _ _ e) (g2 fun z=>d2 (decide_eq_true z)) s1
theorem Zk9{H:Hp}{d:Addr}{kvs:List (List Key×V)}(h:H d=some (.dT kvs))(o:HO):∀a xs,H a=some (.tup xs)→(upd H d o) a=some (.tup xs):=fun a xs e=>by
 rw[Ze (Zk7 e h (fun z=>nomatch z))];exact e
structure St (ns:List Int) (wy:Nat) (H0 H:Hp) (d:Addr) (kvs:List (List Key×V)) (i j:Nat):Prop where
 hd:H d=some (.dT kvs)
 has:∀b e,b<e→e≤ns.length→(e-b≤i∨(e-b=i+1∧b<j))→Has ns wy H kvs b e
 only:∀b e m,Zb2 kvs (Kb b e m)≠none→e-b≤i∨(e-b=i+1∧b<j)
 len:kvs.length≤360*i+6*j
 sm:ZC H0 H
 d0:H0 d=none
noncomputable def ZjX(K:PySem.W.Frag)(ns:List Int)(wy:Nat):Sp:=fun vs H Q _=>∃ (a:Addr),vs=[.ref a,.int wy]∧SqL K H a (ns.map V.int)∧1≤ns.length∧ns.length≤60∧(∀v∈ns,0≤v∧v≤1000000000)∧2≤wy∧wy≤6 ∧
 ∀ (d:Addr) (kvs:List (List Key×V)) (H':Hp),H' d=some (.dT kvs)→(∀b e,b<e→e≤ns.length→Has ns wy H' kvs b e)→ZC H H'→Q (.ref d) H'
theorem ZlB(T:Zaf K mg cRow cMerge)(ns:List Int)(wy:Nat)(f_least_tree:Df P w K mg base 2 "least_tree" ["groves", "sizes", "ways", "begin", "end"] (Zlu K ns wy))(f_least_grove:Df P w K mg base 2 "least_grove" ["groves", "alone", "begin", "end", "most"] (Zk6 ns wy)):Df P w K mg base 3 "least_groves" ["sizes", "ways"] (ZjX K ns wy):=by
 refine T.t_least_groves.df Zai (fun vs H Q E h=>?_) (fun cdv f A outer s H vs Q E hr h=>?_)
 ·obtain⟨a,rfl,_⟩:=h
  rfl
 obtain⟨a,rfl,hS,n1,n12,hns,w2,w6,q⟩:=h
 refine⟨_,#[Zg,#[Zy,2,Zai.nd,(Or.inl rfl),(@Zia _ _)],#[Zg,#[Zbt,PassesOwn.never,#[Zc8,T.b.n_range,#[Za,#[Zi],#[Za,#[ZF,Zac,#[Zk,(ZaR K),(by rfl),T.b.n_len,Qq,#[Za,‹0›,#[Zc]]],#[Zi]],#[Zc]]]],#[ZA,3,Zai.nd],#[Zj,#[Zbt,PassesOwn.never,#[Zbu,T.b.n_range,#[Za,#[ZF,Zac,#[ZF,Zby,#[Zk,(ZaR K),(by rfl),T.b.n_len,Qq,#[Za,‹0›,#[Zc]]],‹3›],#[Zi]],#[Zc]]],#[ZA,4,Zai.nd],#[Zg,#[Zy,5,Zai.nd,(Or.inl rfl),#[ZF,Zac,‹4›,‹3›]],#[Zg,#[Zy,6,Zai.nd,(Or.inl rfl),#[ZB,f_least_tree,hr,#[Za,‹2›,#[Za,‹0›,#[Za,‹1›,#[Za,‹4›,#[Za,‹5›,#[Zc]]]]]],(by rfl)]],#[Zj,#[Zbt,PassesOwn.never,#[Zc8,T.b.n_range,#[Za,#[Zi],#[Za,‹1›,#[Zc]]]],#[ZA,7,Zai.nd],#[Zj,#[ZaZ,#[ZB,f_least_grove,hr,#[Za,‹2›,#[Za,‹6›,#[Za,‹4›,#[Za,‹5›,#[Za,‹7›,#[Zc]]]]]],(by rfl)],#[ZdC,‹2›,#[ZT,#[Za,‹4›,#[Za,‹5›,#[Za,‹7›,#[Zc]]]]],(ZsY hr)]]]]]]]]]],#[Zj,#[Zm,‹2›]]]],?_⟩
 have hl:(((ns.map V.int).length:Nat):Int)=(ns.length:Int):=by rw[Qa]
 refine fun d hd0=>?_
 have st0:St ns wy H (upd H d (.dT [])) d [] 0 0:=⟨Zb,fun b e h1 h2 h3=>by omega,fun b e m h=>absurd rfl h,Qv _,Zh hd0 _,hd0⟩
 generalize upd H d (.dT [])=H1 at st0 ⊢
 refine⟨_,rfl,a,_,rfl,.inl (st0.sm.seq hS),_,_,rfl,rfl,_,_,rfl,⟨by omega,by omega,by clear q w6 w2 hns hl n12 n1;omega,by omega⟩,?_⟩
 rw[show ((((ns.map V.int).length:Nat):Int)+1-1).toNat=ns.length by omega]
 refine Zbb (fun i σ H2=>∃ (kvs:List (List Key×V)) (v3 v4 v5 v6 v7:Option V),σ=[some (.ref a),some (.int wy),some (.ref d),v3,v4,v5,v6,v7]∧St ns wy H H2 d kvs i 0) ⟨[],xw5 _ _ _ _ _ ⟨rfl,st0⟩⟩ ?_ ?_
 ·rintro i σ H2 hi ⟨kvs,v3,v4,v5,v6,v7,rfl,st2⟩
  rw[show ((1:Int)+(i:Int))=((1+i:Nat):Int) by omega]
  refine⟨_,rfl,a,_,rfl,.inl (st2.sm.seq hS),_,rfl,_,_,rfl,rfl,_,_,rfl,rfl,_,rfl,by omega,by omega,?_⟩
  rw[show ((((ns.map V.int).length:Nat):Int)-((1+i:Nat):Int)+1).toNat=ns.length-i by clear q w6 w2 hns n12 n1 hi;omega]
  refine Zbb (fun j σ H3=>∃ (kvs:List (List Key×V)) (v4 v5 v6 v7:Option V),σ=[some (.ref a),some (.int wy),some (.ref d),some (.int ((1+i:Nat):Int)),v4,v5,v6,v7]∧St ns wy H H3 d kvs i j) ⟨kvs,xw4 _ _ _ _ ⟨rfl,st2⟩⟩ ?_ ?_
  ·rintro j σ H3 hj ⟨kvs,v4,v5,v6,v7,rfl,st3⟩
   rw[show ((0:Int)+(j:Int))=(j:Int) by omega]
   refine⟨_,rfl,_,rfl,_,_,rfl,rfl,?_⟩
   simp only[show ((j:Int)+((1+i:Nat):Int))=((j+1+i:Nat):Int) by omega]
   have fam:∀k,j<k→k<j+1+i→Has ns wy H3 kvs j k∧Has ns wy H3 kvs k (j+1+i):=fun k h1 h2=>⟨st3.has j k h1 (by clear h1 q w6 w2 hns n12 n1 hi hl;omega) (.inl (by omega)),st3.has k (j+1+i) h2 (by clear h2 h1 q w6 w2 hns n12 n1 hi hl;omega) (.inl (by clear hj hi hl q w6 w2 hns n12 n1 h2;omega))⟩
   refine⟨_,rfl,_,rfl,_,rfl,_,rfl,_,rfl,d,a,kvs,j,j+1+i,rfl,st3.hd,st3.sm.seq hS,by clear fam hj q w6 w2 hns hi hl n12 n1;omega,by clear fam q w6 w2 hns n12 n1 hi hl;omega,n12,hns,w2,fam,fun al p ts H4 hC hG s4=>?_⟩
   refine⟨_,rfl,_,_,rfl,⟨by omega,by omega,by omega,by omega⟩,?_⟩
   rw[show ((wy:Int)-1).toNat=wy-1 by clear fam hj hi hl q hns n12 n1 w6 w2;omega]
   refine Zbb (fun l σ H5=>∃ (kvs:List (List Key×V)) (v7:Option V),σ=[some (.ref a),some (.int wy),some (.ref d),some (.int ((1+i:Nat):Int)),some (.int (j:Int)),some (.int ((j+1+i:Nat):Int)),some (.ref al),v7]∧H5 d=some (.dT kvs)∧(∀b e,b<e→e≤ns.length→(e-b≤i∨(e-b=i+1∧b<j))→Has ns wy H5 kvs b e)∧(∀m,1≤m→m≤l→∃v p ts,Zb2 kvs (Kb j (j+1+i) m)=some v∧Zg2 H5 v p ts∧Gr ns wy j (j+1+i) m p ts)∧(∀b e m,Zb2 kvs (Kb b e m)≠none→(e-b≤i∨(e-b=i+1∧b<j))∨(b=j∧e=j+1+i∧m≤l))∧kvs.length≤360*i+6*j+l∧ZC H H5∧Zg2 H5 (.ref al) p ts)
    ⟨kvs,_,rfl,s4 _ _ st3.hd,fun b e h1 h2 h3=>(st3.has b e h1 h2 h3).mono fun a xs e=>s4 _ _ e,fun m h1 h2=>by omega,fun b e m h=>.inl (st3.only b e m h),by have:=st3.len;omega,st3.sm.trans s4,hC⟩ ?_ ?_
   ·rintro l σ H5 hll ⟨kvs5,v7',rfl,hd5,has5,cur5,only5,len5,s5,hC5⟩
    rw[show ((1:Int)+(l:Int))=((1+l:Nat):Int) by omega]
    have fam5:∀k,j<k→k<j+1+i→Has ns wy H5 kvs5 j k∧Has ns wy H5 kvs5 k (j+1+i):=fun k h1 h2=>⟨has5 j k h1 (by clear h1 len5 only5 cur5 has5 hll fam q hns n12 n1 hi hl w6 w2;omega) (.inl (by omega)),has5 k (j+1+i) h2 (by clear h2 h1 len5 only5 cur5 has5 hll fam q hns n12 n1 hi hl w6 w2;omega) (.inl (by clear len5 only5 cur5 has5 hll fam hj hi hl q w6 w2 hns n12 n1 h2;omega))⟩
    refine⟨_,rfl,_,rfl,_,rfl,_,rfl,_,rfl,d,al,kvs5,j,j+1+i,1+l,p,ts,rfl,hd5,by clear fam5 len5 only5 cur5 has5 hll fam hj q w6 w2 hns hi hl n12 n1;omega,by clear fam5 len5 only5 cur5 has5 hll fam q hns hi hl w6 w2 n1;omega,by omega,by clear fam5 len5 only5 cur5 has5 fam hj hi hl q hns n12 n1 w6 w2;omega,hC5,hG,fam5,fun r p6 ts6 H6 hC6 hG6 s6=>?_⟩
    have hd6:=s6 _ _ hd5
    refine⟨_,rfl,_,rfl,_,rfl,_,rfl,(by show 3≤sizeLine;decide),fun k1 hk1=>?_⟩
    have s7:=Zh hk1 (.tup ((Kb j (j+1+i) (1+l)).map kV))
    have f7:(upd H6 k1 (.tup ((Kb j (j+1+i) (1+l)).map kV))) k1=some (.tup ((Kb j (j+1+i) (1+l)).map kV)):=Zb
    change ZkE _ _ _ (upd H6 k1 (.tup ((Kb j (j+1+i) (1+l)).map kV))) _
    generalize upd H6 k1 (.tup ((Kb j (j+1+i) (1+l)).map kV))=H7 at s7 f7 ⊢
    have hd7:=s7 _ _ hd6
    have hnone:Zb2 kvs5 (Kb j (j+1+i) (1+l))=none:=by
     cases hx:Zb2 kvs5 (Kb j (j+1+i) (1+l)) with
     | none=>rfl
     | some v =>
      rcases only5 j (j+1+i) (1+l) (by rw[hx];simp) with h|h<;>omega
    have s57:=s6.trans s7
    have keepT:∀a xs,H5 a=some (.tup xs)→(upd H7 d (.dT (kvs5++[(Kb j (j+1+i) (1+l),.ref r)]))) a=some (.tup xs):=fun a xs e=>Zk9 hd7 _ _ _ (s57 _ _ e)
    have keepT6:∀a xs,H6 a=some (.tup xs)→(upd H7 d (.dT (kvs5++[(Kb j (j+1+i) (1+l),.ref r)]))) a=some (.tup xs):=fun a xs e=>Zk9 hd7 _ _ _ (s7 _ _ e)
    have old:∀k v,Zb2 kvs5 k=some v→Zb2 (kvs5++[(Kb j (j+1+i) (1+l),V.ref r)]) k=some v:=fun k v h=>by rw[Zfp,h];rfl
    refine⟨d,kvs5,k1,Kb j (j+1+i) (1+l),rfl,rfl,hd7,f7,hnone,(by rw[sizeLine_eq];clear old keepT6 keepT fam5 only5 cur5 has5 fam q hns hi hl w2 n1;omega),?_⟩
    refine⟨_,_,rfl,Zb,fun b e h1 h2 h3 m m1 m2=>?_,fun m m1 m2=>?_,fun b e m h=>?_,by rw[Qe,Qm];omega,fun b o hb=>?_,hC5.mono keepT⟩
    ·obtain⟨v,p',ts',x1,x2,x3⟩:=has5 b e h1 h2 h3 m m1 m2
     exact⟨v,p',ts',old _ _ x1,x2.mono keepT,x3⟩
    ·by_cases hm:m≤l
     ·obtain⟨v,p',ts',x1,x2,x3⟩:=cur5 m m1 hm
      exact⟨v,p',ts',old _ _ x1,x2.mono keepT,x3⟩
     ·have em:m=1+l:=by omega
      subst em
      exact⟨.ref r,p6,ts6,by rw[Zfp,hnone,if_pos rfl];rfl,hC6.mono keepT6,hG6⟩
    ·rw[Zfp]at h
     by_cases hk:Kb j (j+1+i) (1+l)=Kb b e m
     ·obtain⟨x1,x2,x3⟩:=ZrU hk
      exact .inr ⟨x1.symm,x2.symm,by omega⟩
     ·rw[if_neg hk]at h
      rcases only5 b e m (fun z=>h (by rw[z];rfl)) with h|h
      ·exact .inl h
      ·exact .inr ⟨h.1,h.2.1,by omega⟩
    ·rw[Ze (Zd hb st2.d0)];exact s57 _ _ (s5 b o hb)
   ·rintro σ H5 ⟨kvs5,v7',rfl,hd5,has5,cur5,only5,len5,s5,hC5⟩
    refine⟨kvs5,xw4 _ _ _ _ ⟨rfl,hd5,fun b e h1 h2 h3=>?_,fun b e m h=>?_,by omega,s5,st2.d0⟩⟩
    ·by_cases hb:e-b≤i∨(e-b=i+1∧b<j)
     ·exact has5 b e h1 h2 hb
     ·have eb:b=j:=by omega
      have ee:e=j+1+i:=by omega
      subst eb ee
      exact fun m m1 m2=>cur5 m m1 (by clear m1 h2 len5 only5 cur5 has5 fam hj hi hl q hns n12 n1 hb h3 h1 w6 w2;omega)
    ·rcases only5 b e m h with h|h
     ·rcases h with h|h
      ·exact .inl h
      ·exact .inr ⟨h.1,by omega⟩
     ·exact .inr ⟨by omega,by omega⟩
  ·rintro σ H3 ⟨kvs,v4,v5,v6,v7,rfl,st3⟩
   refine⟨kvs,xw5 _ _ _ _ _ ⟨rfl,st3.hd,fun b e h1 h2 h3=>st3.has b e h1 h2 (by clear q w6 w2 hns n12 n1 h1 hi hl;omega),fun b e m h=>?_,by have:=st3.len;clear q w6 w2 hns hi hl n1;omega,st3.sm,st3.d0⟩⟩
   have:=st3.only b e m h
   clear h q w6 w2 hns hi hl n12 n1;omega
 ·rintro σ H2 ⟨kvs,v3,v4,v5,v6,v7,rfl,st2⟩
  exact⟨_,rfl,q d kvs H2 st2.hd (fun b e h1 h2=>st2.has b e h1 h2 (.inl (by clear q w6 w2 hns n12 n1 h1 hl;omega))) st2.sm⟩
noncomputable def Znu(K:PySem.W.Frag):Sp:=fun vs H Q _=>∃ (a:Addr) (ns:List Int) (wy:Nat),vs=[.ref a,.int wy]∧SqL K H a (ns.map V.int)∧1≤ns.length∧ns.length≤60∧(∀v∈ns,0≤v∧v≤1000000000)∧2≤wy∧wy≤6 ∧
 ∀ (r:Addr) (x:V) (p:Int) (t:PT) (H':Hp),H r=none→H' r=some (.tup [.int p,x])→TV H' x t→Gr ns wy 0 ns.length 1 p [t]→ZC H H'→Q (.ref r) H'
theorem ZoX(T:Zaf K mg cRow cMerge)(f_least_groves':∀ns wy,Df P w K mg base 3 "least_groves" ["sizes", "ways"] (ZjX K ns wy)):Df P w K mg base 4 "near_plan" ["sizes", "ways"] (Znu K):=by
 refine T.t_near_plan.df Zdg (fun vs H Q E h=>?_) (fun cdv f A outer s H vs Q E hr h=>?_)
 ·obtain⟨a,ns,wy,rfl,_⟩:=h
  rfl
 obtain⟨a,ns,wy,rfl,hS,n1,n12,hns,w2,w6,q⟩:=h
 have f_least_groves:=f_least_groves' ns wy
 refine⟨_,#[Zg,#[ZaZ,#[Zz,(ixD hr),#[ZB,f_least_groves,hr,#[Za,‹0›,#[Za,‹1›,#[Zc]]],(by rfl)],#[ZT,#[Za,#[Zi],#[Za,#[Zk,(ZaR K),(by rfl),T.b.n_len,Qq,#[Za,‹0›,#[Zc]]],#[Za,#[Zi],#[Zc]]]]]],#[gT,K,2,#[Zv,#[ZA,2,Zdg.nd],#[Zv,#[ZA,3,Zdg.nd],(@ZaE _)]]]],#[Zj,#[Zm,#[ZT,#[Za,‹2›,#[Za,#[Zz,(ixT K),‹3›,#[Zi]],#[Zc]]]]]]],?_⟩
 have hl:(((ns.map V.int).length:Nat):Int)=(ns.length:Int):=by rw[Qa]
 refine⟨_,rfl,_,rfl,a,rfl,hS,n1,n12,hns,w2,w6,fun d kvs H1 hd hall s1=>?_⟩
 refine⟨_,rfl,a,_,rfl,.inl (s1.seq hS),(by show 3≤sizeLine;decide),fun k1 hk1=>?_⟩
 obtain⟨v,p,ts,hlk,⟨c,t,xs,rfl,hc,ht,tv⟩,hG⟩:=hall 0 ns.length (by omega) (Qg _) 1 (by omega) (by omega)
 have s2:=Zh hk1 (.tup ((Kb 0 ns.length 1).map kV))
 have f2:(upd H1 k1 (.tup ((Kb 0 ns.length 1).map kV))) k1=some (.tup ((Kb 0 ns.length 1).map kV)):=Zb
 rw[hl]
 change ZiE _ _ (upd H1 k1 (.tup ((Kb 0 ns.length 1).map kV))) _
 generalize upd H1 k1 (.tup ((Kb 0 ns.length 1).map kV))=H2 at s2 f2 ⊢
 refine⟨d,kvs,k1,Kb 0 ns.length 1,_,rfl,rfl,s2 _ _ hd,f2,hlk,c,_,rfl,SqT.of (s2 _ _ hc),rfl,_,_,rfl,_,_,rfl,rfl,?_⟩
 have g1:=hG.l1
 have g2:=hG.lm
 have s12:=s1.trans s2
 cases tv with
 | nil=>simp at g1
 | @cons x u xs us hx hxs =>
  have:us=[]:=QN (by simp at g2;rw[g2];rfl)
  subst this
  refine⟨_,rfl,_,rfl,xw4 t _ _ _ ⟨rfl,rfl,SqT.of (s2 _ _ ht),(ZX (j:=0) rfl),(by show 2≤sizeLine;decide),fun r hr0=>?_⟩⟩
  have s3:=Zh hr0 (.tup [.int p,x])
  exact q r x p u _ (s12.free hr0) Zb (hx.mono fun a xs e=>s3 _ _ (s2 _ _ e)) hG (s12.trans s3)
theorem Zcj{H H':Hp}(s:ZC H H'):∀a xs,H a=some (.tup xs)→H' a=some (.tup xs):=fun a xs h=>s a _ h
noncomputable def ZgM(P:List ZM):List Str:=P.flatMap fun x=>x.2.1.drop x.2.2
theorem ZkS{ss:List Str}{g:Nat}{z:Str}(h:ss[g]? = some z):ss.drop g=z::ss.drop (g+1):=by
 obtain⟨hlt,e⟩:=Qc.mp h
 rw[List.drop_eq_getElem_cons hlt,e]
theorem ZjG:∀ (P:List ZM),(ZaT P).Nodup→∀ {x:ZM} {z:Str},x∈P→x.2.1[x.2.2]? = some z→(z::ZgM (ZbI P x.1)).Perm (ZgM P)
 | [],_,_,_,h,_=>by cases h
 | y::P,nd,x,z,h,hz=>by
  unfold ZaT at nd
  rw[Ql,QY]at nd
  unfold ZgM ZbI
  rw[Ql,QaU,QaU]
  rcases QK.mp h with rfl|h
  ·have e:P.map (Zar x.1)=P:=by
    conv=>rhs;rw[← List.map_id P]
    refine QM fun u hu=>?_
    unfold Zar
    rw[if_neg (fun z:u.1=x.1=>nd.1 (z ▸ Qp (f:=fun x:ZM=>x.1) hu))]
    rfl
   rw[e,ZkS hz]
   unfold Zar
   rw[if_pos rfl]
   exact Qau _
  ·have ih:=ZjG P nd.2 h hz
   unfold ZgM ZbI at ih
   have e:Zar x.1 y=y:=if_neg (fun z:y.1=x.1=>nd.1 (z ▸ Qp (f:=fun x:ZM=>x.1) h))
   rw[e]
   exact List.perm_middle.symm.trans (ih.append_left _)
theorem Zj2{a b:Str}(h:ZJ (cds a) (cds b)≤0):LeS a b:=fun z=>by
 have z':cds b<cds a:=z
 have:=(ZbR _ _).mp z'
 have:=ZaD (cds a) (cds b)
 omega
theorem LeS.refl(a:Str):LeS a a:=Zj2 (by rw[Zc4];exact QaC _)
theorem LeS.anti{a b:Str}(h:LeS a b)(k:LeS b a):a=b:=by
 have h1:¬ ZJ (cds b) (cds a)<0:=fun z=>h ((ZbR _ _).mpr z)
 have h2:¬ ZJ (cds a) (cds b)<0:=fun z=>k ((ZbR _ _).mpr z)
 have:=ZaD (cds a) (cds b)
 have e:cds a=cds b:=Zc3 _ _ (by omega)
 obtain⟨⟨a⟩⟩:=a
 obtain⟨⟨b⟩⟩:=b
 have e':a=b:=e
 rw[e']
noncomputable def ZiX(P:List ZM):Prop:=∀x∈P,sortedS x.2.1=true
theorem ZiX.bump{P:List ZM}(h:ZiX P)(n:Int):ZiX (ZbI P n):=fun x hx=>by
 obtain⟨y,hy,rfl⟩:=Qw.mp hx
 unfold Zar
 split
 ·exact h y hy
 ·exact h y hy
theorem Zle{P:List ZM}(h:Za3 P=0):ZgM P=[]:=by
 have e:(ZgM P).length=Za3 P:=by
  unfold ZgM Za3
  rw[List.length_flatMap]
  congr 1
  refine QM fun x _=>?_
  rw[QR]
 exact QN (e.trans h)
theorem Zpf{a b:List Str}(ha:sortedS a=true)(hb:sortedS b=true)(p:a.Perm b):a=b:=QaL (fun x y _ _ h1 h2=>h1.anti h2) ((ZcO _).mp ha) ((ZcO _).mp hb) p
noncomputable def ZhB(P:List ZM)(x:ZM)(z:Str):Prop:=x∈P∧x.2.1[x.2.2]? = some z∧Win (hdP P) (ZaT P) (some x.1)
inductive TkW (P:List ZM):List ZaA→List ZM→Prop
 | nil:TkW P [] P
 | snoc {ts:List ZaA} {P1:List ZM} {x:ZM} {z:Str}:TkW P ts P1→ZhB P1 x z→TkW P (ts++[(x.1,x.2.2,z)]) (ZbI P1 x.1)
theorem Zc6.tk{P P':List ZM}{ts:List ZaA}{k q:Int}(h:Zc6 P ts P' k q):TkW P ts P':=by
 induction h with
 | nil=>exact .nil
 | snoc h s ih=>exact .snoc ih ⟨s.1,s.2.1,s.2.2.1⟩
theorem ZhB.one{P:List ZM}(nd:(ZaT P).Nodup){x y:ZM}{z u:Str}(h:ZhB P x z)(g:ZhB P y u):x=y∧z=u:=by
 obtain⟨h1,h2,h3⟩:=h
 obtain⟨g1,g2,g3⟩:=g
 have e1:=Qr (h3.one g3)
 have e2:=Zdm nd h1 g1 e1
 subst e2
 exact⟨rfl,Qr (h2.symm.trans g2)⟩
theorem TkW.num{P P':List ZM}{ts:List ZaA}(h:TkW P ts P'):ZaT P'=ZaT P:=by
 induction h with
 | nil=>rfl
 | snoc _ _ ih=>rw[ZhT,ih]
theorem TkW.one{P:List ZM}(nd:(ZaT P).Nodup){ts:List ZaA}{P1:List ZM}(h:TkW P ts P1):∀ {us:List ZaA} {P2:List ZM},TkW P us P2→ts.length=us.length→ts=us∧P1=P2:=by
 induction h with
 | nil =>
  intro us P2 g hl
  cases g with
  | nil=>exact⟨rfl,rfl⟩
  | snoc _ _=>rw[Qe,Qm]at hl;exact absurd hl (by simp)
 | snoc h s ih =>
  intro us P2 g hl
  cases g with
  | nil=>rw[Qe,Qm]at hl;exact absurd hl (by simp)
  | snoc g' s' =>
   rw[Qe,Qe,Qm,Qm]at hl
   obtain⟨e1,e2⟩:=ih g' (by omega)
   subst e1
   subst e2
   obtain⟨f1,f2⟩:=s.one (by rw[h.num];exact nd) s'
   subst f1
   subst f2
   exact⟨rfl,rfl⟩
theorem TkW.left{P P':List ZM}{ts:List ZaA}(h:TkW P ts P')(nd:(ZaT P).Nodup):Za3 P'+ts.length=Za3 P:=by
 induction h with
 | nil=>rfl
 | snoc h s ih =>
  have:=Zea _ (by rw[h.num];exact nd) s.1 (Qc.mp s.2.1).1
  rw[Qe,Qm]
  omega
theorem TkW.row{P P':List ZM}{ts:List ZaA}(h:TkW P ts P'):∀x∈P',∃y∈P,y.1=x.1∧y.2.1=x.2.1:=by
 induction h with
 | nil=>exact fun x hx=>⟨x,hx,rfl,rfl⟩
 | snoc h s ih =>
  intro x hx
  obtain⟨u,hu,rfl⟩:=Qw.mp hx
  obtain⟨y,hy,e1,e2⟩:=ih u hu
  refine⟨y,hy,?_,?_⟩
  ·unfold Zar;split<;>exact e1
  ·unfold Zar;split<;>exact e2
theorem TkW.at{P P':List ZM}{ts:List ZaA}(h:TkW P ts P'):∀u∈ts,∃y∈P,y.1=u.1∧y.2.1[u.2.1]? = some u.2.2:=by
 induction h with
 | nil=>exact fun u hu=>by cases hu
 | snoc h s ih =>
  intro u hu
  rcases Qh.mp hu with hu|hu
  ·exact ih u hu
  ·rw[Qd.mp hu]
   obtain⟨y,hy,e1,e2⟩:=h.row _ s.1
   exact⟨y,hy,e1,by rw[e2];exact s.2.1⟩
theorem ZhB.le{P:List ZM}(nd:(ZaT P).Nodup)(srt:ZiX P){x:ZM}{z:Str}(h:ZhB P x z):∀y∈ZgM P,LeS z y:=fun y hy=>by
 obtain⟨hx,hz,W⟩:=h
 obtain⟨_,zc,hzc,hall⟩:=W
 rw[ZgE nd hx,hz]at hzc
 have hzc':cds z=zc:=Qr hzc
 subst hzc'
 obtain⟨u,hu,hyu⟩:=List.mem_flatMap.mp hy
 cases hh:u.2.1[u.2.2]? with
 | none=>rw[List.drop_eq_nil_of_le (List.getElem?_eq_none_iff.mp hh)]at hyu;cases hyu
 | some hd =>
  have hle:LeS hd y:=by
   have p:(u.2.1.drop u.2.2).Pairwise LeS:=((ZcO _).mp (srt u hu)).sublist (List.drop_sublist _ _)
   rw[ZkS hh]at p hyu
   rcases QK.mp hyu with rfl|hyu
   ·exact LeS.refl _
   ·exact(List.pairwise_cons.mp p).1 y hyu
  have hd':=ZgE nd hu
  rw[hh]at hd'
  rcases hall u.1 (Qp (f:=fun x:ZM=>x.1) hu) _ hd' with e|b
  ·have e2:=Zdm nd hu hx e
   subst e2
   have:=Qr (hz.symm.trans hh)
   rw[this];exact hle
  ·refine(Zj2 ?_).trans hle
   rcases b with b|⟨b,_⟩<;>omega
theorem TkW.srt{P P':List ZM}{ts:List ZaA}(h:TkW P ts P')(nd:(ZaT P).Nodup)(srt:ZiX P):ZiX P'∧(ts.map (·.2.2)++ZgM P').Perm (ZgM P)∧(ts.map (·.2.2)).Pairwise LeS∧∀a∈ts.map (·.2.2),∀b∈ZgM P',LeS a b:=by
 induction h with
 | nil=>exact⟨srt,Qau _,List.Pairwise.nil,fun a ha=>by cases ha⟩
 | snoc h s ih =>
  obtain⟨i1,i2,i3,i4⟩:=ih
  have nd1:=nd
  rw[← h.num]at nd1
  have pm:=ZjG _ nd1 s.1 s.2.1
  have le:=s.le nd1 i1
  refine⟨i1.bump _,?_,?_,fun a ha b hb=>?_⟩
  ·rw[Qf,Q6]
   exact(pm.append_left _).trans i2
  ·rw[Qf]
   refine QaD.mpr ⟨i3,Qah _ _,fun a ha b hb=>?_⟩
   have eb:=Qd.mp hb
   rw[eb]
   exact i4 a ha _ (pm.mem_iff.mp (Q1 ..))
  ·have hb':=pm.mem_iff.mp (Qu _ hb)
   rw[Qf]at ha
   rcases Qh.mp ha with ha|ha
   ·exact i4 a ha b hb'
   ·rw[Qd.mp ha]
    exact le b hb'
noncomputable def ZaS(ss:List Str)(d:List Int):List Str:=d.map fun n=>ss.getD n.toNat ""
noncomputable def Zdy(R:List (List Str)):List ZM:=(Zx 0 R.length).zip (R.map fun x=>(x,0))
theorem Zr6(rs:List (Addr×List Str)):Zkb rs=Zdy (rs.map (·.2)):=by
 unfold Zkb Zdy
 rw[Qa,QB]
 rfl
theorem ZiQ(R:List (List Str)):ZaT (Zdy R)=Zx 0 R.length:=by
 unfold ZaT Zdy
 rw[List.map_fst_zip]
 unfold Zx
 rw[Qa,Qa,Qap]
 exact Qg _
theorem Zdd(R:List (List Str)):(ZaT (Zdy R)).Nodup:=by
 rw[ZiQ]
 exact(ZeJ _).imp fun h=>by omega
theorem ZjE(R:List (List Str))(i:Nat):(Zdy R)[i]? = (R[i]?).map fun x=>((i:Int),(x,0)):=by
 unfold Zdy Zx
 rw[List.zip_eq_zipWith,List.getElem?_zipWith,Qi,Qi]
 by_cases h:i<R.length
 ·rw[Qb h,Qak h]
  simp
 ·rw[QH (by omega:R.length≤i)]
  simp
theorem ZdJ{R:List (List Str)}{x:ZM}(h:x∈Zdy R):∃i:Nat,x.1=(i:Int)∧R[i]? = some x.2.1∧x.2.2=0:=by
 obtain⟨i,hi⟩:=QaE h
 rw[ZjE]at hi
 cases hR:R[i]? with
 | none=>rw[hR]at hi;cases hi
 | some d=>rw[hR]at hi;cases hi;exact⟨i,rfl,hR,rfl⟩
theorem Zho(R:List (List Str)):Za3 (Zdy R)=(R.map List.length).sum:=by
 unfold Za3 Zdy
 have e:((Zx 0 R.length).zip (R.map fun x=>(x,0))).map (fun x:ZM=>x.2.1.length-x.2.2)=((((Zx 0 R.length).zip (R.map fun x=>(x,0))).map (·.2))).map (fun y:List Str×Nat=>y.1.length-y.2):=by rw[QB];rfl
 rw[e,List.map_snd_zip (by rw[Qa,ZR];exact Qg _),QB]
 rfl
theorem ZiP{R:List (List Str)}(h:∀d∈R,sortedS d=true):ZiX (Zdy R):=fun x hx=>by
 obtain⟨i,_,hi,_⟩:=ZdJ hx
 exact h _ (Qo hi)
noncomputable def Zaq(R:List (List Int))(u:ZaA):Int:=(R.getD u.1.toNat []).getD u.2.1 0
noncomputable def Put(ss:List Str)(R:List (List Int))(out:List Int):Prop:=∃ (ts:List ZaA) (P':List ZM),TkW (Zdy (R.map (ZaS ss))) ts P'∧ts.length=(R.map List.length).sum∧out=ts.map (Zaq R)
theorem Put.one{ss:List Str}{R:List (List Int)}{a b:List Int}(h:Put ss R a)(g:Put ss R b):a=b:=by
 obtain⟨ts,P1,h1,h2,h3⟩:=h
 obtain⟨us,P2,g1,g2,g3⟩:=g
 have:=(h1.one (Zdd _) g1 (by rw[h2,g2])).1
 rw[h3,g3,this]
theorem Zf3(ss:List Str)(R:List (List Int)):((R.map (ZaS ss)).map List.length).sum=(R.map List.length).sum:=by
 rw[QB]
 congr 1
 refine QM fun d _=>?_
 show (ZaS ss d).length=d.length
 unfold ZaS
 rw[Qa]
theorem Zdh{ss:List Str}{R:List (List Int)}{u:ZaA}{P':List ZM}{ts:List ZaA}(h:TkW (Zdy (R.map (ZaS ss))) ts P')(hu:u∈ts):∃d,R[u.1.toNat]? = some d∧0≤u.1∧d[u.2.1]? = some (Zaq R u)∧ss.getD (Zaq R u).toNat "" = u.2.2:=by
 obtain⟨y,hy,e1,e2⟩:=h.at u hu
 obtain⟨i,hi,hR,_⟩:=ZdJ hy
 rw[Qi]at hR
 cases hd:R[i]? with
 | none=>rw[hd]at hR;cases hR
 | some d =>
  rw[hd]at hR
  have hR':=Qr hR
  rw[← hR']at e2
  unfold ZaS at e2
  rw[Qi]at e2
  cases hn:d[u.2.1]? with
  | none=>rw[hn]at e2;cases e2
  | some n =>
   rw[hn]at e2
   have e2':=Qr e2
   have eu:u.1.toNat=i:=by rw[← e1,hi];rfl
   have ep:Zaq R u=n:=by
    unfold Zaq
    rw[eu,Qk,Qk,hd]
    show (d[u.2.1]?).getD 0=n
    rw[hn];rfl
   exact⟨d,by rw[eu];exact hd,by rw[← e1,hi];clear ep hi e1;omega,by rw[ep];exact hn,by rw[ep];exact e2'⟩
theorem Put.ok{ss:List Str}{R:List (List Int)}{out:List Int}(h:Put ss R out)(hs:∀d∈R,sortedS (ZaS ss d)=true):out.length=(R.map List.length).sum∧(∀n∈out,∃d∈R,n∈d)∧sortedS (ZaS ss out)=true:=by
 obtain⟨ts,P1,h1,h2,rfl⟩:=h
 refine⟨by rw[Qa];exact h2,fun n hn=>?_,?_⟩
 ·obtain⟨u,hu,rfl⟩:=Qw.mp hn
  obtain⟨d,hd,_,hg,_⟩:=Zdh h1 hu
  exact⟨d,Qo hd,Qo hg⟩
 ·have e:ZaS ss (ts.map (Zaq R))=ts.map (·.2.2):=by
   unfold ZaS
   rw[QB]
   refine QM fun u hu=>?_
   obtain⟨d,_,_,_,e⟩:=Zdh h1 hu
   exact e
  rw[e]
  have hR:∀d∈R.map (ZaS ss),sortedS d=true:=fun d hd=>by
   obtain⟨x,hx,rfl⟩:=Qw.mp hd
   exact hs x hx
  exact(ZcO _).mpr (h1.srt (Zdd _) (ZiP hR)).2.2.1
mutual
inductive ZcD (ss:List Str) (R:List (List Int)):PT→List Int→Prop where
 | leaf {i:Int}:ZcD ss R (.leaf i) (R.getD i.toNat [])
 | node {l:List PT} {os:List (List Int)} {out:List Int}:Zao ss R l os→Put ss os out→ZcD ss R (.node l) out
inductive Zao (ss:List Str) (R:List (List Int)):List PT→List (List Int)→Prop where
 | nil:Zao ss R [] []
 | cons {t:PT} {o:List Int} {l:List PT} {os:List (List Int)}:ZcD ss R t o→Zao ss R l os→Zao ss R (t::l) (o::os)
end
mutual
theorem ZcD.one{ss:List Str}{R:List (List Int)}:∀ {t:PT} {a b:List Int},ZcD ss R t a→ZcD ss R t b→a=b
 | _,_,_,.leaf,.leaf=>rfl
 | _,_,_,.node h p,.node g q=>by
  have:=Zao.one h g
  subst this
  exact p.one q
theorem Zao.one{ss:List Str}{R:List (List Int)}:∀ {l:List PT} {a b:List (List Int)},Zao ss R l a→Zao ss R l b→a=b
 | _,_,_,.nil,.nil=>rfl
 | _,_,_,.cons h hs,.cons g gs=>by rw[ZcD.one h g,Zao.one hs gs]
end
theorem Zao.app{ss:List Str}{R:List (List Int)}:∀ {l m:List PT} {a b:List (List Int)},Zao ss R l a→Zao ss R m b→Zao ss R (l++m) (a++b)
 | _,_,_,_,.nil,g=>g
 | _,_,_,_,.cons h hs,g=>.cons h (hs.app g)
noncomputable def wtR(R:List (List Int))(lv:List Int):Nat:=(lv.map fun i=>(R.getD i.toNat []).length).sum
theorem Zio(R:List (List Int))(a b:List Int):wtR R (a++b)=wtR R a+wtR R b:=by unfold wtR;rw[Qf,Qan]
noncomputable def ZiL(ss:List Str)(d:List Int):Prop:=(∀n∈d,0≤n∧n<(ss.length:Int))∧sortedS (ZaS ss d)=true
theorem Zrl(ss:List Str):ZiL ss []:=⟨fun n h=>(by cases h),rfl⟩
theorem ZsN{ss:List Str}{R:List (List Int)}(h:∀d∈R,ZiL ss d)(i:Nat):ZiL ss (R.getD i []):=by
 rw[Qk]
 cases hx:R[i]? with
 | none=>exact Zrl ss
 | some d=>exact h d (Qo hx)
mutual
theorem ZcD.ok{ss:List Str}{R:List (List Int)}(hR:∀d∈R,ZiL ss d):∀ {t:PT} {o:List Int},ZcD ss R t o→ZiL ss o∧o.length=wtR R (tLv t)
 | .leaf i,_,.leaf=>⟨ZsN hR _,by show _=((([i]:List Int).map fun i=>(R.getD i.toNat []).length).sum);simp⟩
 | .node l,o,.node h p=>by
  obtain⟨a,b⟩:=Zao.ok hR h
  obtain⟨p1,p2,p3⟩:=p.ok fun d hd=>(a d hd).2
  refine⟨⟨fun n hn=>?_,p3⟩,by rw[p1,b];rfl⟩
  obtain⟨d,hd,hnd⟩:=p2 n hn
  exact(a d hd).1 n hnd
theorem Zao.ok{ss:List Str}{R:List (List Int)}(hR:∀d∈R,ZiL ss d):∀ {l:List PT} {os:List (List Int)},Zao ss R l os→(∀d∈os,ZiL ss d)∧(os.map List.length).sum=wtR R (Zak l)
 | [],_,.nil=>⟨fun d h=>(by cases h),rfl⟩
 | t::l,_,.cons h hs=>by
  obtain⟨a,b⟩:=ZcD.ok hR h
  obtain⟨c,d⟩:=Zao.ok hR hs
  refine⟨fun x hx=>?_,?_⟩
  ·rcases QK.mp hx with rfl|hx
   ·exact a
   ·exact c x hx
  ·rw[Ql,Q0,b,d]
   show _=wtR R (tLv t++Zak l)
   rw[Zio]
end
theorem Zgw{K:PySem.W.Frag}{a:Addr}{xs:List V}{k:Nat}{D:Addr}{σ:L2.St}{H1:Hp}{g:TG}{te:TE}{Q:VK}(Pv:Nat→List V→L2.St→Hp→Prop)(h0:Pv 0 [] (σ++List.replicate k none) (upd H1 D (.lst [])))
  (hl:∀i ys σ H,Pv i ys σ H→SqT K H a xs)
  (hs:∀i x ys σ H,xs[i]? = some x→Pv i ys σ H→g x σ H fun σ4 H4=>te σ4 H4 fun y H6=>H6 D=some (.lst ys)∧ys.length<sizeLine∧Pv (i+1) (ys++[y]) σ4 (upd H6 D (.lst (ys++[y]))))
  (hd:∀ys σ H,Pv xs.length ys σ H→Q (.ref D) H):Zfo (Itt K a) D k σ H1 g ZiJ te Q:=by
 refine⟨fun i m ys σ H=>m=xs.length-i∧i≤xs.length∧Pv i ys σ H,⟨xs.length,by simp,Qv _,h0⟩,?_⟩
 rintro i m ys σ H ⟨rfl,hi,p⟩
 have q1:=hl i ys σ H p
 by_cases hlt:i<xs.length
 ·refine .inr ⟨⟨xs,xs[i],q1,Qb hlt⟩,Pv (i+1),fun ys' σ' H' p'=>⟨xs.length-(i+1),by omega,rfl,hlt,p'⟩,fun x H' y=>?_⟩
  obtain⟨rfl,e⟩:=y
  simp only[ZiJ,↓reduceIte]
  exact hs i x ys σ _ (e xs q1) p
 ·have e:i=xs.length:=by omega
  exact .inl ⟨⟨xs,q1,by omega⟩,hd ys σ H (e ▸ p)⟩
theorem Zld{ls:List Addr}{k:Int}{l:Addr}(h0:0≤k)(h:ls[k.toNat]? = some l):atI (ls.map V.ref) k=some (.ref l):=by
 have ek:k=((k.toNat:Nat):Int):=by omega
 rw[ek]
 exact ZX (by rw[Qi,h];rfl)
theorem Zao.len{ss:List Str}{R:List (List Int)}:∀ {l:List PT} {os:List (List Int)},Zao ss R l os→os.length=l.length
 | _,_,.nil=>rfl
 | _,_,.cons _ h=>by rw[QE,QE,h.len]
theorem ZfR{w:Nat}:∀ {l:List PT} {i:Nat} {t:PT},Zb3 w l→l[i]? = some t→tPl w t
 | [],i,t,_,h=>by simp at h
 | u::r,0,t,hp,h=>by simp at h;rw[← h];exact hp.1
 | u::r,i+1,t,hp,h=>ZfR hp.2 (by simpa using h)
theorem Zil:∀ {R:List (List Int)} {i:Nat} {d:List Int},R[i]? = some d→d.length≤(R.map List.length).sum
 | [],i,d,h=>by simp at h
 | u::r,0,d,h=>by simp at h;rw[← h,Ql,Q0];omega
 | u::r,i+1,d,h=>by
  have:=Zil (R:=r) (i:=i) (d:=d) (by simpa using h)
  rw[Ql,Q0];omega
theorem ZoG(R:List (List Int)):∀ {l:List PT} {i:Nat} {t:PT},l[i]? = some t→wtR R (tLv t)≤wtR R (Zak l)
 | [],i,t,h=>by simp at h
 | u::r,0,t,h=>by
  simp at h
  rw[← h]
  show _≤wtR R (tLv u++Zak r)
  rw[Zio];omega
 | u::r,i+1,t,h=>by
  have:=ZoG R (l:=r) (i:=i) (t:=t) (by simpa using h)
  show _≤wtR R (tLv u++Zak r)
  rw[Zio];omega
structure Zfi (H:Hp) (a r:Addr) (ss:List Str) (ls:List Addr) (R:List (List Int)):Prop where
 th:H a=some (.lst (ss.map V.str))
 s60:ss.length≤60
 key:∀s∈ss,s.length≤1000∧AZ s
 ru:H r=some (.lst (ls.map V.ref))
 rd:Rd H ls R
 rg:∀d∈R,ZiL ss d
theorem Zfi.same{H H':Hp}{a r:Addr}{ss:List Str}{ls:List Addr}{R:List (List Int)}(h:Zfi H a r ss ls R)(s:ZC H H'):Zfi H' a r ss ls R:=⟨s _ _ h.th,h.s60,h.key,s _ _ h.ru,Rd.mono (fun _ _ o ho=>s _ _ ho) h.rd,h.rg⟩
noncomputable def ZpN(n:Nat):Sp:=fun vs H Q _=>∃ (a r:Addr) (ss:List Str) (ls:List Addr) (R:List (List Int)) (x:V) (t:PT),vs=[.ref a,.ref r,x]∧Zfi H a r ss ls R∧TV H x t∧tOk R.length t∧tPl 60 t∧wtR R (tLv t)≤100∧tDp t<n ∧
 ∀ (b:Addr) (out:List Int) (H':Hp),H b=none→H' b=some (.lst (out.map V.int))→ZcD ss R t out→ZC H H'→Q (.ref b) H'
theorem Zqq(T:Zaf K mg cRow cMerge)(f_is_number:Df P w K mg base 1 "is_number" ["thing"] Znq)(f_merged:Df P w K mg base 16 "merged" ["rows"] Zjr):∀n:Nat,Df P w K mg base (n+17) "merged_by" ["things", "runs", "tree"] (ZpN n)
 | 0=>by
  refine T.t_merged_by.df Zca (fun vs H Q E h=>?_) (fun cdv f A outer s H vs Q E hr h=>?_)
  ·obtain⟨a,r,ss,ls,R,x,t,rfl,_⟩:=h
   rfl
  obtain⟨a,r,ss,ls,R,x,t,rfl,hI,hT,hok,hpl,hwt,hdp,q⟩:=h
  exact absurd hdp (by omega)
 | n+1=>by
  have f_merged_by:=Zqq T f_is_number f_merged n
  refine T.t_merged_by.df Zca (fun vs H Q E h=>?_) (fun cdv f A outer s H vs Q E hr h=>?_)
  ·obtain⟨a,r,ss,ls,R,x,t,rfl,_⟩:=h
   rfl
  obtain⟨a,r,ss,ls,R,x,t,rfl,hI,hT,hok,hpl,hwt,hdp,q⟩:=h
  refine⟨_,#[Zg,#[ZZ,#[Zet,#[ZB,f_is_number,hr,#[Za,‹2›,#[Zc]],(by rfl)]],#[Zj,#[Zm,#[Z4,(Zqn K),T.b.n_list,boot_list,#[Za,#[Zz,(ixL K),#[pv,1,(Or.inr (Or.inl rfl))],‹2›],#[Zc]]]]],#[ZD]],#[Zg,#[Zy,3,Zca.nd,(Or.inr rfl),#[Zav,ZlM,(@iT _ K _ _ _ ‹2› (by rfl)),(fun _ _ _ _=>#[cgL,5,ZlM]),(fun _ _ _ _=>(@Zaw _)),(fun _ _ _ _=>#[ZB,f_merged_by,hr,#[Za,#[cvC,0,ZlM],#[Za,#[cvC,1,ZlM],#[Za,#[cwL,5,ZlM],#[Zc]]]],(ZaY ZlM rfl (by ac_rfl))])]],#[Zg,#[Zcy,4,Zca.nd,ZrP,#[iL,K,#[pv,3,(Or.inr (Or.inl rfl))]],(fun _ _ _ _=>#[cgL,5,ZrP]),(fun _ _ _ _=>(@Zaw _)),(fun _ _ _ _=>#[Zav,Zp8,#[iL,K,#[cwL,5,ZrP]],(fun _ _ _ _=>#[cgL,6,Zp8]),(fun _ _ _ _=>(@Zaw _)),(fun _ _ _ _=>#[Zz,(ixL K),#[cvC,0,Zp8],#[cwL,6,Zp8]])])],#[Zj,#[Zm,#[Zav,Zmo,#[iL,K,#[ZB,f_merged,hr,#[Za,‹4›,#[Zc]],(by rfl)]],(fun _ _ _ _=>#[gT,K,2,#[Zv,#[cgL,5,Zmo],#[Zv,#[cgL,6,Zmo],(@ZaE _)]]]),(fun _ _ _ _=>(@Zaw _)),(fun _ _ _ _=>#[Zz,(ixL K),#[Zz,(ixL K),#[cvC,3,Zmo],#[cwL,5,Zmo]],#[cwL,6,Zmo]])]]]]]],?_⟩
  have hR60:R.length=ls.length:=hI.rd.len.symm
  cases hT with
  | leaf k =>
   refine⟨_,rfl,.inl ⟨k,rfl,_,rfl,ZgW ?_⟩⟩
   have hk:0≤k∧k<(R.length:Nat):=hok
   obtain⟨l,hl⟩:∃l,ls[k.toNat]? = some l:=⟨_,Qb (by omega)⟩
   obtain⟨d,hd,hld⟩:=hI.rd.at hl
   refine⟨_,rfl,_,rfl,xw4 r _ _ _ ⟨rfl,rfl,SqL.of hI.ru,Zld hk.1 hl,l,_,rfl,.inl (SqL.of hld),fun b hb=>?_⟩⟩
   refine q b d _ hb Zb ?_ (Zh hb _)
   have e:R.getD k.toNat []=d:=by rw[Qk,hd];rfl
   rw[← e]
   exact .leaf
  | node htp hTs =>
   rename_i tp xs l
   refine⟨_,rfl,.inr ⟨tp,xs,rfl,htp,_,rfl,Zcl ?_⟩⟩
   have hxl:=hTs.len
   have hl60:l.length≤60:=hpl.2.1
   have hpls:Zb3 60 l:=hpl.2.2
   have hoks:Zcv R.length l:=hok
   have hwts:wtR R (Zak l)≤100:=hwt
   have hdps:Zb8 l<n:=by have:Zb8 l+1<n+1:=hdp;omega
   refine⟨_,rfl,tp,rfl,⟨_,SqT.of htp⟩,fun D hD=>?_⟩
   refine Zgw (K:=K) (a:=tp) (xs:=xs) (fun i zs σ H2=>(∃v:Option V,σ=[some (.ref a),some (.ref r),some (.ref tp),none,none,v])∧(∃ (bs:List Addr) (os:List (List Int)),zs=bs.map V.ref∧Rd H2 bs os∧Zao ss R (l.take i) os∧D ∉ bs)∧i≤xs.length∧H2 D=some (.lst zs)∧ZC H H2) ?_ (fun _ _ _ _ h=>SqT.of (h.2.2.2.2 _ _ htp)) ?_ ?_
   ·exact⟨⟨none,rfl⟩,⟨[],[],rfl,True.intro,.nil,fun h=>by cases h⟩,Qv _,Zb,Zh hD _⟩
   ·rintro i x zs σ H2 hx ⟨⟨v,rfl⟩,⟨bs,os,rfl,hrd,hpt,hDb⟩,hi,hD2,s2⟩
    obtain⟨t,ht,hTV⟩:=hTs.at hx
    have hil:i<xs.length:=(Qc.mp hx).1
    have hbl:bs.length=i:=by rw[hrd.len,hpt.len,Qx];omega
    refine⟨_,rfl,_,rfl,_,rfl,xw7 a r ss ls R x t ⟨rfl,hI.same s2,hTV.mono (Zcj s2),ZfK _ _ _ _ hoks ht,ZfR hpls ht,QJ (ZoG R ht) hwts,Qaf (ZfN _ _ _ ht) hdps,fun b out H3 hb0 hb hp s3=>?_⟩⟩
    have hD3:=s3 _ _ hD2
    have nbD:b≠D:=fun z=>by rw[z,hD2]at hb0;cases hb0
    refine⟨hD3,(by rw[Qa,hbl,sizeLine_eq];clear nbD hi hDb hdps hwts q hdp hwt hR60 hbl;omega),⟨_,rfl⟩,⟨bs++[b],os++[out],by rw[Qf];rfl,?_,?_,?_⟩,hil,Zb,fun c o hc=>?_⟩
    ·refine Rd.app (Rd.mono (fun c hc o ho=>?_) hrd) ⟨by rw[Ze nbD];exact hb,True.intro⟩
     rw[Ze (fun z:c=D=>hDb (by rw[← z];exact hc))];exact s3 _ _ ho
    ·rw[QI,ht]
     exact hpt.app (.cons hp .nil)
    ·intro h
     rcases Qh.mp h with h|h
     ·exact hDb h
     ·exact nbD (Qd.mp h).symm
    ·rw[Ze (Zd hc hD)];exact s3 _ _ (s2 c o hc)
   rintro zs σ H2 ⟨⟨v,rfl⟩,⟨bs,os,rfl,hrd,hpt,_⟩,_,hD2,s2⟩
   rw[Qy (by omega)]at hpt
   obtain⟨hro,hso⟩:=Zao.ok hI.rg hpt
   have hos:os.length=l.length:=hpt.len
   have hbo:=hrd.len
   refine⟨_,rfl,D,rfl,⟨_,SqL.of hD2⟩,fun D2 hD20=>?_⟩
   refine Zbd (K:=K) (a:=D) (xs:=bs.map V.ref) (fun i zs σ H3=>(∃v:Option V,σ=[some (.ref a),some (.ref r),some (.ref tp),some (.ref D),none,v])∧(∃rs:List (Addr×List Str),zs=(rs.map fun x=>V.ref x.1)∧rs.map (·.2)=(os.take i).map (ZaS ss)∧∀x∈rs,x.1≠D2∧H3 x.1=some (.lst (x.2.map V.str)))∧i≤bs.length∧H3 D2=some (.lst zs)∧ZC H2 H3) ?_ (fun _ _ _ _ h=>SqL.of (h.2.2.2.2 _ _ hD2)) ?_ ?_
   ·exact⟨⟨none,rfl⟩,⟨[],rfl,rfl,fun x h=>by cases h⟩,Qv _,Zb,Zh hD20 _⟩
   ·rintro i y zs σ H3 hy ⟨⟨v,rfl⟩,⟨rs,rfl,hrs,hrs3⟩,hi,hD3,s3⟩
    rw[Qi]at hy
    cases hb:bs[i]? with
    | none=>rw[hb]at hy;cases hy
    | some b =>
    rw[hb]at hy
    cases hy
    have hil:i<bs.length:=(Qc.mp hb).1
    obtain⟨d,hd,hbd⟩:=hrd.at hb
    have hrl:rs.length=i:=by
     have:=congrArg List.length hrs
     rw[Qa,Qa,Qx]at this
     omega
    have hdr:=(hro d (Qo hd)).1
    have hdl:d.length≤100:=QJ (Zil hd) (by rw[hso];exact hwts)
    have hb3:=s3 _ _ hbd
    refine⟨_,rfl,b,rfl,⟨_,SqL.of hb3⟩,fun E0 hE=>?_⟩
    have nED:D2≠E0:=Zd hD3 hE
    refine Zbd (K:=K) (a:=b) (xs:=d.map V.int) (fun j ys σ H5=>(∃v:Option V,σ=[some (.ref a),some (.ref r),some (.ref tp),some (.ref D),none,some (.ref b),v])∧ys=((ZaS ss d).take j).map V.str∧j≤d.length∧H5 E0=some (.lst ys)∧ZC H3 H5) ?_ (fun _ _ _ _ h=>SqL.of (h.2.2.2.2 _ _ hb3)) ?_ ?_
    ·exact⟨⟨none,rfl⟩,rfl,Qv _,Zb,Zh hE _⟩
    ·rintro j y ys σ H5 hy ⟨⟨v',rfl⟩,rfl,hj,hE5,s5⟩
     rw[Qi]at hy
     cases hn:d[j]? with
     | none=>rw[hn]at hy;cases hy
     | some nn =>
     rw[hn]at hy
     cases hy
     have hjl:j<d.length:=(Qc.mp hn).1
     obtain⟨n0,n1⟩:=hdr nn (Qo hn)
     refine⟨_,rfl,_,rfl,xw4 a _ _ _ ⟨rfl,rfl,SqL.of (s5 _ _ (s3 _ _ (s2 _ _ hI.th))),Zfe n0 n1,hE5,(by rw[Qa,Qx,sizeLine_eq];omega),⟨_,rfl⟩,?_,hjl,Zb,fun c o hc=>?_⟩⟩
     ·unfold ZaS
      rw[QI,Qi,hn,Qf];rfl
     ·rw[Ze (Zd hc hE)];exact s5 c o hc
    rintro ys σ H5 ⟨⟨v',rfl⟩,rfl,_,hE5,s5⟩
    rw[Qa,Qy (by unfold ZaS;rw[Qa];exact Qg _)]at hE5
    refine⟨s5 _ _ hD3,(by rw[Qa,hrl,sizeLine_eq];clear nED hdl hdr hi hrs3 hso hro hdps hwts q hdp hwt hR60 hrl hxl;omega),⟨_,rfl⟩,⟨rs++[(E0,ZaS ss d)],by rw[Qf];rfl,?_,fun x hx=>?_⟩,hil,Zb,fun c o hc=>?_⟩
    ·rw[QI,hd,Qf,Qf,hrs];rfl
    ·rcases Qh.mp hx with hx|hx
     ·obtain⟨g1,g2⟩:=hrs3 x hx
      exact⟨g1,by rw[Ze g1];exact s5 _ _ g2⟩
     ·rw[Qd.mp hx]
      exact⟨nED.symm,by rw[Ze nED.symm];exact hE5⟩
    ·rw[Ze (Zd hc hD20)];exact s5 _ _ (s3 c o hc)
   rintro zs σ H3 ⟨⟨v,rfl⟩,⟨rs,rfl,hrs,hrs3⟩,_,hD3,s3⟩
   rw[Qa,Qy (by omega)]at hrs
   have hsrt:∀x∈rs,sortedS x.2=true:=fun x hx=>by
    have:x.2∈rs.map (·.2):=Qp (f:=fun x:Addr×List Str=>x.2) hx
    rw[hrs]at this
    obtain⟨d,hd,e⟩:=Qw.mp this
    rw[← e]
    exact(hro d hd).2
   have hrl:rs.length=os.length:=by have:=congrArg List.length hrs;rwa [Qa,Qa]at this
   have R3:Zex H3 D2 rs:=⟨hD3,by clear hsrt hrs3 hso hro hdps hwts q hdp hwt hR60 hbo hxl;omega,fun x hx=>by
    have:x.2∈rs.map (·.2):=Qp (f:=fun x:Addr×List Str=>x.2) hx
    rw[hrs]at this
    obtain⟨d,hd,e⟩:=Qw.mp this
    obtain⟨i,hi⟩:=QaE hd
    refine⟨(hrs3 x hx).2,?_,fun s hs=>?_⟩
    ·rw[← e]
     unfold ZaS
     rw[Qa]
     exact QJ (Zil hi) (by rw[hso];exact hwts)
    ·rw[← e]at hs
     unfold ZaS at hs
     obtain⟨nn,hnn,rfl⟩:=Qw.mp hs
     obtain⟨n0,n1⟩:=(hro d hd).1 nn hnn
     rw[Qk,Qb (by omega)]
     exact hI.key _ (QT _)⟩
   refine⟨_,rfl,D2,rs,rfl,R3,hsrt,fun mt us P' k0 q0 H4 htk hln hmt hus _ _ s4=>?_⟩
   have htw:=htk.tk
   rw[Zr6,hrs]at htw
   have hln2:(us.map (·.2)).length=(os.map List.length).sum:=by
    rw[Qa,hln,← Zf3 ss os,← hrs,QB];rfl
   have hD4:=s4 _ _ (s3 _ _ hD2)
   have s24:=s3.trans s4
   have hrd4:Rd H4 bs os:=Rd.mono (fun _ _ o ho=>s24 _ _ ho) hrd
   refine⟨mt,rfl,⟨_,SqL.of hmt⟩,fun O hO=>?_⟩
   refine Zbd (K:=K) (a:=mt) (xs:=us.map fun u=>V.ref u.1) (fun i zs σ H5=>(∃v1 v2:Option V,σ=[some (.ref a),some (.ref r),some (.ref tp),some (.ref D),some (.ref D2),v1,v2])∧zs=(((us.take i).map (·.2)).map (Zaq os)).map V.int∧i≤us.length∧H5 O=some (.lst zs)∧ZC H4 H5) ?_ (fun _ _ _ _ h=>SqL.of (h.2.2.2.2 _ _ hmt)) ?_ ?_
   ·exact⟨⟨none,none,rfl⟩,rfl,Qv _,Zb,Zh hO _⟩
   ·rintro i y zs σ H5 hy ⟨⟨v1,v2,rfl⟩,rfl,hi,hO5,s5⟩
    rw[Qi]at hy
    cases hz:us[i]? with
    | none=>rw[hz]at hy;cases hy
    | some u =>
    rw[hz]at hy
    cases hy
    have hil:i<us.length:=(Qc.mp hz).1
    have hum:=Qo hz
    obtain⟨d,hd,hu0,hdg,_⟩:=Zdh htw (Qp (f:=fun u:Addr×ZaA=>u.2) hum)
    obtain⟨b,hb⟩:∃b,bs[u.2.1.toNat]? = some b:=⟨_,Qb (by rw[hbo];exact(Qc.mp hd).1)⟩
    have hbd:=hrd4.get hb hd
    have hul:=Qa (as:=us) (fun u:Addr×ZaA=>u.2)
    refine⟨u.1,_,rfl,SqT.of (s5 _ _ (hus u hum)),rfl,_,_,rfl,_,_,rfl,rfl,?_⟩
    refine⟨_,rfl,_,rfl,xw4 D _ _ _ ⟨rfl,rfl,SqL.of (s5 _ _ hD4),Zld hu0 hb,_,rfl,xw4 b _ _ _ ⟨rfl,rfl,SqL.of (s5 _ _ hbd),ZX (by rw[Qi,hdg];rfl),hO5,(by rw[Qa,Qa,Qa,Qx,sizeLine_eq];clear hu0 hi hus hrl hsrt hrs3 hbo hos hro hdps hl60 hxl q hdp hwt hR60 hil hln;omega),⟨_,_,rfl⟩,?_,hil,Zb,fun c o hc=>?_⟩⟩⟩
    ·rw[QI,hz,Qf,Qf,Qf];rfl
    ·rw[Ze (Zd hc hO)];exact s5 c o hc
   rintro zs σ H5 ⟨⟨v1,v2,rfl⟩,rfl,_,hO5,s5⟩
   rw[Qa,Qy (Qg _)]at hO5
   have s05:=s2.trans (s24.trans s5)
   exact q O _ H5 ((s2.trans s24).free hO) hO5 (.node hpt ⟨_,_,htw,hln2,rfl⟩) s05
theorem Zh5{H:Hp}:∀ks:List Int,TVs H (ks.map V.int) (ks.map PT.leaf)
 | []=>.nil
 | k::r=>.cons (.leaf k) (Zh5 r)
theorem Zic{n:Nat}:∀ks:List Int,(∀v∈ks,0≤v∧v<n)→Zcv n (ks.map PT.leaf)∧Zej (ks.map PT.leaf)∧Zbp (ks.map PT.leaf)=ks.length
 | [],_=>⟨trivial,trivial,rfl⟩
 | k::r,h=>by
  obtain⟨a,b,c⟩:=Zic r fun v hv=>h v (Qu _ hv)
  refine⟨⟨h k (by simp),a⟩,⟨⟨Qg _,Qg _⟩,b⟩,?_⟩
  show 1+Zbp (r.map PT.leaf)=r.length+1
  omega
theorem ZjF:∀l:List PT,Zej l→l.length≤Zbp l
 | [],_=>Qg _
 | t::r,h=>by have:=ZjF r h.2;have:=h.1.1;show r.length+1≤tLf t+Zbp r;omega
theorem Zm4{n:Nat}{l:List PT}{a m:Nat}(ok:Zcv n l)(gd:Zej l)(h2:2≤m)(h:a+m≤l.length) :
  Zcv n (l.take a++[PT.node ((l.drop a).take m)]++l.drop (a+m))∧Zej (l.take a++[PT.node ((l.drop a).take m)]++l.drop (a+m))∧Zbp (l.take a++[PT.node ((l.drop a).take m)]++l.drop (a+m))=Zbp l∧(l.take a++[PT.node ((l.drop a).take m)]++l.drop (a+m)).length<l.length:=by
 have e:l=l.take a++((l.drop a).take m++l.drop (a+m)):=by
  rw[← List.drop_drop,Qae,Qae]
 have ok':=ok
 have gd':=gd
 rw[e]at ok' gd'
 rw[Zd0,Zd0]at ok'
 rw[ZdD,ZdD]at gd'
 have ml:((l.drop a).take m).length=m:=by rw[Qx,QR];omega
 refine⟨?_,?_,?_,?_⟩
 ·rw[Zd0,Zd0];exact⟨⟨ok'.1,ok'.2.1,trivial⟩,ok'.2.2⟩
 ·rw[ZdD,ZdD];exact⟨⟨gd'.1,Zoi gd'.2.1 (by omega),trivial⟩,gd'.2.2⟩
 ·have e2:Zbp l=Zbp (l.take a)+(Zbp ((l.drop a).take m)+Zbp (l.drop (a+m))):=by rw[← Zd1,← Zd1,← e]
  rw[Zd1,Zd1,e2]
  show Zbp (l.take a)+(Zbp ((l.drop a).take m)+0)+_=_
  omega
 ·rw[Qe,Qe,Qx,QR,Qm];clear gd' ok' ml;omega
theorem Zid:∀ks:List Int,Zak (ks.map PT.leaf)=ks∧Zb3 60 (ks.map PT.leaf)
 | []=>⟨rfl,trivial⟩
 | k::r=>by
  obtain⟨a,b⟩:=Zid r
  exact⟨by show [k]++Zak (r.map PT.leaf)=k::r;rw[a];rfl,trivial,b⟩
theorem Zqw{l:List PT}{a m:Nat}(hp:Zb3 60 l)(h2:2≤m)(h60:m≤60)(h:a+m≤l.length):Zak (l.take a++[PT.node ((l.drop a).take m)]++l.drop (a+m))=Zak l∧Zb3 60 (l.take a++[PT.node ((l.drop a).take m)]++l.drop (a+m)):=by
 have e:l=l.take a++((l.drop a).take m++l.drop (a+m)):=by
  rw[← List.drop_drop,Qae,Qae]
 have ml:((l.drop a).take m).length=m:=by rw[Qx,QR];clear h60 h2;omega
 have hp':=hp
 rw[e,Zc1,Zc1]at hp'
 refine⟨?_,?_⟩
 ·conv=>rhs;rw[e]
  rw[Zc9,Zc9,Zc9,Zc9]
  show Zak (l.take a)++(Zak ((l.drop a).take m)++[])++_=_
  rw[QL,Q6]
 ·rw[Zc1,Zc1]
  exact⟨⟨hp'.1,⟨by omega,by omega,hp'.2.1⟩,trivial⟩,hp'.2.2⟩
noncomputable def ZsW:Sp:=fun vs H Q _=>∃ (p:Addr) (c w:Int) (n:Nat),vs=[.ref p,.int 0,.int n,.int w]∧ZaF H p c∧c<2 ^ 40∧2≤w∧w≤8∧1≤n∧n≤60 ∧
 ∀ (x:V) (t:PT) (c':Int) (H':Hp),TV H' x t→tOk n t→tGd t→tPl 60 t→tLv t=Zx 0 n→tLf t=n→ZaF H' p c'→c≤c'→c'≤c+130→But p H H'→Q x H'
theorem ZoQ(T:Zaf K mg cRow cMerge)(f_l_pick:Df P w K mg base 2 "_law_pick" ["_law_left_here", "_law_many"] ZdT):Df P w K mg base 3 "_law_tree" ["_law_left_here", "_law_begin", "_law_end", "_law_ways"] ZsW:=by
 refine T.t_l_tree.df Zd7 (fun vs H Q E h=>?_) (fun cdv f A outer s H vs Q E hr h=>?_)
 ·obtain⟨p,c,wy,n,rfl,_⟩:=h
  rfl
 obtain⟨p,c,wy,n,rfl,hL,c1,w2,w8,n1,n60,q⟩:=h
 refine⟨_,#[Zg,#[Zy,4,Zd7.nd,(Or.inl rfl),#[Z4,Znb,T.b.n_list,boot_list,#[Za,#[Z4,Zth,T.b.n_range,boot_range,#[Za,‹1›,#[Za,‹2›,#[Zc]]]],#[Zc]]]],#[Zg,(@ZdN _ _ _ _ _ _ PassesOwn.never #[Zn,ZfE,#[Zk,(ZaR K),(by rfl),T.b.n_len,Qq,#[Za,‹4›,#[Zc]]],#[Zi],(Zs _)] #[Zg,#[Zy,5,Zd7.nd,(Or.inl rfl),#[Zk,(Zeh rfl),(by rfl),T.b.n_min,boot_min,#[Za,#[Zk,(ZaR K),(by rfl),T.b.n_len,Qq,#[Za,‹4›,#[Zc]]],#[Za,#[ZF,Zac,#[Zi],#[ZB,f_l_pick,hr,#[Za,‹0›,#[Za,#[ZF,Zby,‹3›,#[Zi]],#[Zc]]],(by rfl)]],#[Zc]]]]],#[Zg,#[Zy,6,Zd7.nd,(Or.inl rfl),#[ZB,f_l_pick,hr,#[Za,‹0›,#[Za,#[ZF,Zac,#[ZF,Zby,#[Zk,(ZaR K),(by rfl),T.b.n_len,Qq,#[Za,‹4›,#[Zc]]],‹5›],#[Zi]],#[Zc]]],(by rfl)]],#[Zj,#[ZaZ,#[Zbg,#[Za,#[Z4,(Zse K),T.b.n_tuple,boot_tuple,#[Za,#[ZcL,(slL K),‹4›,#[ZbD,‹6›],#[ZbD,#[ZF,Zac,‹6›,‹5›]]],#[Zc]]],#[Zc]]],(@ZmX _ _ _ _ _ _ _ _ _ ‹4› #[ZbD,‹6›] #[ZbD,#[ZF,Zac,‹6›,‹5›]] (by intro _;rfl))]]]]),#[Zj,#[Zm,#[Zz,(ixL K),‹4›,#[Zi]]]]]],?_⟩
 have c0:=hL.ge
 have hks:∀v∈Zx 0 n,0≤v∧v<(n:Nat):=fun v hv=>by
  unfold Zx at hv
  obtain⟨m,hm,rfl⟩:=Qw.mp hv
  have:=QU.mp hm
  omega
 have hkl:(Zx 0 n).length=n:=ZR 0 n
 obtain⟨i1,i2,i3⟩:=Zic (Zx 0 n) hks
 obtain⟨i4,i5⟩:=Zid (Zx 0 n)
 refine⟨_,rfl,_,rfl,0,(n:Int),rfl,fun rg hrg=>⟨rg,0,_,rfl,Zb,by omega,by omega,by clear hks c0 q w8 w2 c1 i3 hkl n60 n1;omega,by omega,by clear hks c0 q w8 w2 c1 i3 hkl n1;omega,fun b hb=>?_⟩⟩
 rw[show ((((n:Nat):Int)-0).toNat)=n by clear hks c0 q w8 w2 c1 i3 hkl n60 n1;omega]
 have s1:=(Zh hrg (.rng 0 (n:Int))).trans (Zh hb (.lst ((Zx 0 n).map V.int)))
 have hb1:(upd (upd H rg (.rng 0 (n:Int))) b (.lst ((Zx 0 n).map V.int))) b=some (.lst ((Zx 0 n).map V.int)):=Zb
 have hbH:H b=none:=(Zh hrg (.rng 0 (n:Int))).free hb
 have npb:p≠b:=by obtain⟨o,ho⟩:=hL.here;exact Zd ho hbH
 have hL1:=hL.same s1
 generalize upd (upd H rg (.rng 0 (n:Int))) b (.lst ((Zx 0 n).map V.int))=H1 at s1 hb1 hL1 ⊢
 refine⟨fun m σ H2=>∃ (xs:List V) (l:List PT) (v3 v4:Option V) (c2:Int),σ=[some (.ref p),some (.int 0),some (.int n),some (.int wy),some (.ref b),v3,v4]∧H2 b=some (.lst xs)∧TVs H2 xs l∧Zcv n l∧Zej l∧Zb3 60 l∧Zak l=Zx 0 n∧Zbp l=n∧1≤l.length∧ZaF H2 p c2∧c≤c2∧c2+2*l.length≤c+2*n∧(∀d o,H d=some o→d≠p→H2 d=some o)∧m=l.length,
  ⟨_,(Zx 0 n).map V.int,(Zx 0 n).map PT.leaf,none,none,c,rfl,hb1,Zh5 _,i1,i2,i5,i4,by rw[i3];exact hkl,by rw[Qa,hkl];exact n1,hL1,QaC _,by rw[Qa,hkl];omega,fun d o h _=>s1 _ _ h,rfl⟩,?_⟩
 clear i1 i2 i3 i4 i5 hks hkl s1 hb1 hL1
 rintro m σ H2 ⟨xs,l,v3,v4,c2,rfl,hb2,hT,ok,gd,pl,lv,lf,l1,L2,b1,b2,B2,rfl⟩
 have hxl:=hT.len
 have hll:=ZjF l gd
 have c20:=L2.ge
 refine⟨_,rfl,b,_,rfl,.inl (SqL.of hb2),_,_,rfl,rfl,_,rfl,ZaX (fun d=>?_) (fun d=>?_)⟩
 ·have d':(1:Int)<((xs.length:Nat):Int):=of_decide_eq_true d
  refine⟨_,fun σ' H' h=>h,?_⟩
  refine⟨_,rfl,b,_,rfl,.inl (SqL.of hb2),_,rfl,_,rfl,_,_,rfl,rfl,p,c2,_,rfl,L2,by clear c20 hll B2 b1 l1 npb q w8 w2 d' hxl lf c0 n1;omega,by omega,by omega,fun d1 H3 d10 d11 L3 B3=>⟨_,_,rfl,rfl,_,_,rfl,?_⟩⟩
  have hb3:=B3 b _ hb2 npb.symm
  obtain⟨m',hm',h2m,hmx,hm60⟩:∃m':Nat,(if 2+d1<((xs.length:Nat):Int) then 2+d1 else ((xs.length:Nat):Int))=(m':Int)∧2≤m'∧m'≤xs.length∧m'≤60:=by
   split
   ·exact⟨(2+d1).toNat,by omega,by omega,by omega,by omega⟩
   ·exact⟨xs.length,rfl,by omega,by omega,by omega⟩
  simp only[hm']
  refine⟨_,rfl,_,rfl,b,_,rfl,.inl (SqL.of hb3),_,rfl,_,_,rfl,rfl,_,_,rfl,rfl,p,c2+1,_,rfl,L3,by clear hm60 hmx h2m hm' d11 d10 c20 hll B2 b1 l1 npb q w8 w2 d' hxl lf c0 n1;omega,by omega,by omega,fun at' H4 a0 a1 L4 B4=>?_⟩
  obtain⟨a,ha⟩:∃a:Nat,at'=(a:Int):=⟨at'.toNat,by omega⟩
  subst ha
  have hb4:=B4 b _ hb3 npb.symm
  have ham:a+m'≤xs.length:=by omega
  have sum:((a:Int)+(m':Int))=((a+m':Nat):Int):=by omega
  refine⟨_,rfl,_,rfl,_,rfl,_,rfl,_,rfl,_,_,rfl,rfl,_,rfl,b,_,rfl,SqL.of hb4,fun sl hsl=>?_⟩
  rw[sum,ZjQ xs a (a+m') (by omega) (by omega),Nat.add_sub_cancel_left]
  refine⟨sl,_,rfl,.inl ⟨SqL.of Zb,fun tt htt=>⟨(by show 1≤sizeLine;decide),fun g hg=>?_⟩⟩⟩
  have s5:ZC H4 (upd (upd (upd H4 sl (.lst ((xs.drop a).take m'))) tt (.tup ((xs.drop a).take m'))) g (.lst [.ref tt])):=((Zh hsl _).trans (Zh htt _)).trans (Zh hg _)
  have ht5:(upd (upd (upd H4 sl (.lst ((xs.drop a).take m'))) tt (.tup ((xs.drop a).take m'))) g (.lst [.ref tt])) tt=some (.tup ((xs.drop a).take m')):=Zh hg _ _ _ Zb
  have hg5:(upd (upd (upd H4 sl (.lst ((xs.drop a).take m'))) tt (.tup ((xs.drop a).take m'))) g (.lst [.ref tt])) g=some (.lst [.ref tt]):=Zb
  have nbg:b≠g:=Zd (((Zh hsl (.lst ((xs.drop a).take m'))).trans (Zh htt (.tup ((xs.drop a).take m')))) _ _ hb4) hg
  generalize upd (upd (upd H4 sl (.lst ((xs.drop a).take m'))) tt (.tup ((xs.drop a).take m'))) g (.lst [.ref tt])=H5 at s5 ht5 hg5 ⊢
  refine⟨_,rfl,_,rfl,_,rfl,_,rfl,_,rfl,_,_,rfl,rfl,_,rfl,b,g,xs,[.ref tt],a,((a+m':Nat):Int),rfl,rfl,rfl,by rw[sum],s5 _ _ hb4,hg5,nbg,by omega,by omega,by omega,(small (by show xs.length+1≤1000;omega)),?_⟩
  rw[Q5,Q5]
  obtain⟨j1,j2,j3,j4⟩:=Zm4 (a:=a) (m:=m') ok gd h2m (by omega)
  obtain⟨j5,j6⟩:=Zqw (a:=a) (m:=m') pl h2m hm60 (by omega)
  have tup5:∀a' ys,H2 a'=some (.tup ys)→H5 a'=some (.tup ys):=fun a' ys h=>by
   have np:a'≠p:=by
    intro e
    obtain⟨x1,x2,hp,_⟩:=L2
    rw[e,hp]at h;cases h
   exact s5 _ _ (B4 _ _ (B3 _ _ h np) np)
  have tup6:∀ (o:List V) a' ys,H5 a'=some (.tup ys)→(upd H5 b (.lst o)) a'=some (.tup ys):=fun o a' ys h=>by
   have nb:a'≠b:=by
    intro e
    rw[e,s5 _ _ hb4]at h;cases h
   rw[Ze nb];exact h
  refine⟨_,?_,_,_,_,_,c2+1+1,rfl,Zb,?_,j1,j2,j6,by rw[j5];exact lv,by rw[j3];exact lf,?_,(L4.same s5).at npb,by omega,?_,fun d o h n=>?_,rfl⟩
  ·exact j4
  ·have hT5:=hT.mono tup5
   refine((hT5.take a).app (.cons (.node ht5 ((hT5.drop a).take m')) .nil)).app (hT5.drop (a+m')) |>.mono (tup6 _)
  ·rw[Qe,Qe,Qm];omega
  ·clear tup6 tup5 nbg sum ham a1 a0 hm60 hmx h2m hm' d11 d10 d' c20 hll B2 b1 l1 npb c0 q n60 n1 w8 w2 c1 j3 hxl lf;omega
  ·rw[Ze (Zd h hbH)];exact s5 _ _ (B4 _ _ (B3 _ _ (B2 d o h n) n) n)
 ·have d':¬ (1:Int)<((xs.length:Nat):Int):=fun z=>d (decide_eq_true z)
  have x1:xs.length=1:=by omega
  have hx0:xs[0]? = some xs[0]:=Qb (by omega)
  obtain⟨t,ht,hv⟩:=hT.at hx0
  have el:l=[t]:=by
   cases l with
   | nil=>simp at ht
   | cons u r =>
    have:r=[]:=QN (by rw[hxl,QE]at x1;omega)
    subst this
    simp at ht;rw[ht]
  subst el
  refine⟨_,rfl,xw4 b _ _ _ ⟨rfl,rfl,SqL.of hb2,ZX (j:=0) hx0,q _ t c2 H2 hv ok.1 gd.1 pl.1 ?_ (by have:tLf t+0=n:=lf;omega) L2 b1 (by omega) B2⟩⟩
  have:tLv t++[]=Zx 0 n:=lv
  rwa [QL]at this
theorem Zpn{ns:List Int}{k:Int}(h0:0≤k)(h:k<(ns.length:Nat)):atI (ns.map V.int) k=some (.int (ns.getD k.toNat 0)):=by
 have hk:k.toNat<ns.length:=by omega
 have ek:k=((k.toNat:Nat):Int):=by omega
 have q:atI (ns.map V.int) ((k.toNat:Nat):Int)=some (.int ns[k.toNat]):=ZX (by rw[Qi,Qb hk]<;>rfl)
 rw[← ek]at q
 rw[q,Qk,Qb hk];rfl
mutual
noncomputable def Zen(ks:List Int):PT→PT
 | .leaf k=>.leaf (ks.getD k.toNat 0)
 | .node l=>.node (Zbs ks l)
noncomputable def Zbs(ks:List Int):List PT→List PT
 | []=>[]
 | t::r=>Zen ks t::Zbs ks r
end
theorem Zed(ks:List Int):∀l:List PT,(Zbs ks l).length=l.length
 | []=>rfl
 | t::r=>by show (Zbs ks r).length+1=r.length+1;rw[Zed ks r]
mutual
theorem Zk3(ks:List Int):∀t:PT,tLv (Zen ks t)=(tLv t).map fun k=>ks.getD k.toNat 0
 | .leaf k=>rfl
 | .node l=>Zi0 ks l
theorem Zi0(ks:List Int):∀l:List PT,Zak (Zbs ks l)=(Zak l).map fun k=>ks.getD k.toNat 0
 | []=>rfl
 | t::r=>by show tLv (Zen ks t)++Zak (Zbs ks r)=(tLv t++Zak r).map _;rw[Zk3 ks t,Zi0 ks r,Qf]
end
mutual
theorem Zlc(ks:List Int):∀t:PT,tDp (Zen ks t)=tDp t
 | .leaf k=>rfl
 | .node l=>by show Zb8 (Zbs ks l)+1=Zb8 l+1;rw[Zi6 ks l]
theorem Zi6(ks:List Int):∀l:List PT,Zb8 (Zbs ks l)=Zb8 l
 | []=>rfl
 | t::r=>by show max (tDp (Zen ks t)) (Zb8 (Zbs ks r))=max (tDp t) (Zb8 r);rw[Zlc ks t,Zi6 ks r]
end
mutual
theorem Zpm(ks:List Int):∀t:PT,tNo (Zen ks t)=tNo t
 | .leaf k=>rfl
 | .node l=>by show ZcK (Zbs ks l)+1=ZcK l+1;rw[Zj0 ks l]
theorem Zj0(ks:List Int):∀l:List PT,ZcK (Zbs ks l)=ZcK l
 | []=>rfl
 | t::r=>by show tNo (Zen ks t)+ZcK (Zbs ks r)=tNo t+ZcK r;rw[Zpm ks t,Zj0 ks r]
end
mutual
theorem ZkO(ks:List Int):∀t:PT,tPl 60 t→tPl 60 (Zen ks t)
 | .leaf k,_=>trivial
 | .node l,h=>⟨by rw[Zed];exact h.1,by rw[Zed];exact h.2.1,Zi7 ks l h.2.2⟩
theorem Zi7(ks:List Int):∀l:List PT,Zb3 60 l→Zb3 60 (Zbs ks l)
 | [],_=>trivial
 | t::r,h=>⟨ZkO ks t h.1,Zi7 ks r h.2⟩
end
mutual
theorem ZkQ{ks:List Int}{n:Nat}(hk:∀k∈ks,0≤k∧k<(n:Nat)):∀t:PT,tOk ks.length t→tOk n (Zen ks t)
 | .leaf k,h=>by
  have h':0≤k∧k<(ks.length:Nat):=h
  show 0≤ks.getD k.toNat 0∧ks.getD k.toNat 0<(n:Nat)
  rw[Qk,Qb (by omega)]
  exact hk _ (QT _)
 | .node l,h=>ZjM hk l h
theorem ZjM{ks:List Int}{n:Nat}(hk:∀k∈ks,0≤k∧k<(n:Nat)):∀l:List PT,Zcv ks.length l→Zcv n (Zbs ks l)
 | [],_=>trivial
 | t::r,h=>⟨ZkQ hk t h.1,ZjM hk r h.2⟩
end
theorem ZeC(ks:List Int):∀ (l:List PT) (i:Nat),Zbs ks (l.take i)=(Zbs ks l).take i
 | [],i=>by rw[List.take_nil];show []=List.take i [];rw[List.take_nil]
 | t::r,0=>rfl
 | t::r,i+1=>by show Zen ks t::Zbs ks (r.take i)=Zen ks t::(Zbs ks r).take i;rw[ZeC ks r i]
theorem Zi8(ks:List Int):∀ {l:List PT} {i:Nat} {t:PT},l[i]? = some t→(Zbs ks l)[i]? = some (Zen ks t)
 | [],i,t,h=>by simp at h
 | u::r,0,t,h=>by simp at h;rw[← h];rfl
 | u::r,i+1,t,h=>by
  have:=Zi8 ks (l:=r) (i:=i) (t:=t) (by simpa using h)
  show (Zen ks u::Zbs ks r)[i+1]? = _
  rw[List.getElem?_cons_succ];exact this
noncomputable def Zqv(n:Nat):Sp:=fun vs H Q _=>∃ (x:V) (b:Addr) (t:PT) (ks:List Int),vs=[x,.ref b]∧TV H x t∧H b=some (.lst (ks.map V.int))∧tOk ks.length t∧tPl 60 t∧tDp t<n ∧
 ∀ (y:V) (H':Hp),TV H' y (Zen ks t)→ZC H H'→Q y H'
theorem Znn(T:Zaf K mg cRow cMerge):∀n:Nat,Df P w K mg base (n+1) "_law_called" ["_law_tree_here", "_law_names"] (Zqv n)
 | 0=>by
  refine T.t_l_called.df Zfv (fun vs H Q E h=>?_) (fun cdv f A outer s H vs Q E hr h=>?_)
  ·obtain⟨x,b,t,ks,rfl,_⟩:=h
   rfl
  obtain⟨x,b,t,ks,rfl,hT,hb,hok,hpl,hdp,q⟩:=h
  exact absurd hdp (by omega)
 | n+1=>by
  have f_l_called:=Znn T n
  refine T.t_l_called.df Zfv (fun vs H Q E h=>?_) (fun cdv f A outer s H vs Q E hr h=>?_)
  ·obtain⟨x,b,t,ks,rfl,_⟩:=h
   rfl
  obtain⟨x,b,t,ks,rfl,hT,hb,hok,hpl,hdp,q⟩:=h
  refine⟨_,#[Zg,#[ZZ,(@ZgL _ _ _ _ #[Zet,#[Zk,(Zmi K),(by rfl),T.b.n_isinstance,boot_isinstance,#[Za,‹0›,#[Za,#[Zhq,T.b.n_tuple,boot_tuple],#[Zc]]]]]),#[Zj,#[Zm,#[Zz,(ixL K),#[pv,1,(Or.inr (Or.inl rfl))],‹0›]]],#[ZD]],#[Zj,#[Zm,#[Z4,(Zse K),T.b.n_tuple,boot_tuple,#[Za,#[Zav,Zi4,(@iT _ K _ _ _ ‹0› (by rfl)),(fun _ _ _ _=>#[cgL,2,Zi4]),(fun _ _ _ _=>(@Zaw _)),(fun _ _ _ _=>#[ZB,f_l_called,hr,#[Za,#[cwL,2,Zi4],#[Za,#[cvC,1,Zi4],#[Zc]]],(ZaY Zi4 rfl (by ac_rfl))])],#[Zc]]]]]],?_⟩
  cases hT with
  | leaf k =>
   refine⟨_,rfl,_, "tuple",_,_,rfl,.int k,ZhZ K,_,rfl,ZgW ?_⟩
   have hk:0≤k∧k<(ks.length:Nat):=hok
   exact⟨_,rfl,_,rfl,xw4 b _ _ _ ⟨rfl,rfl,SqL.of hb,Zpn hk.1 hk.2,q _ H (.leaf _) (ZC.refl _)⟩⟩
  | node htp hTs =>
   rename_i tp xs l
   refine⟨_,rfl,_, "tuple",_,_,rfl,.tup htp,ZhE K,_,rfl,Zcl ?_⟩
   have hxl:=hTs.len
   have hl60:l.length≤60:=hpl.2.1
   have hpls:Zb3 60 l:=hpl.2.2
   have hoks:Zcv ks.length l:=hok
   have hdps:Zb8 l<n:=by have:Zb8 l+1<n+1:=hdp;omega
   refine⟨_,rfl,tp,rfl,⟨_,SqT.of htp⟩,fun D hD=>?_⟩
   refine Zgw (K:=K) (a:=tp) (xs:=xs) (fun i zs σ H2=>(∃v:Option V,σ=[some (.ref tp),some (.ref b),v])∧TVs H2 zs (Zbs ks (l.take i))∧i≤xs.length∧H2 D=some (.lst zs)∧ZC H H2) ?_ (fun _ _ _ _ h=>SqT.of (h.2.2.2.2 _ _ htp)) ?_ ?_
   ·exact⟨⟨none,rfl⟩,.nil,Qv _,Zb,Zh hD _⟩
   ·rintro i x zs σ H2 hx ⟨⟨v,rfl⟩,hZ,hi,hD2,s2⟩
    obtain⟨t,ht,hTV⟩:=hTs.at hx
    have hil:i<xs.length:=(Qc.mp hx).1
    have hzl:zs.length=i:=by rw[hZ.len,Zed,Qx];omega
    refine⟨_,rfl,_,rfl,xw4 x b t ks ⟨rfl,hTV.mono (Zcj s2),s2 _ _ hb,ZfK _ _ _ _ hoks ht,ZfR hpls ht,Qaf (ZfN _ _ _ ht) hdps,fun y H3 hy s3=>?_⟩⟩
    have hD3:=s3 _ _ hD2
    refine⟨hD3,(by rw[hzl,sizeLine_eq];clear hi hdps q hdp hzl;omega),⟨_,rfl⟩,?_,hil,Zb,fun c o hc=>?_⟩
    ·rw[ZeC,QI,Zi8 ks ht,← ZeC]
     exact((hZ.mono (Zcj s3)).app (.cons hy .nil)).mono (Zbj hD3 _)
    ·rw[Ze (Zd hc hD)];exact s3 _ _ (s2 c o hc)
   rintro zs σ H2 ⟨⟨v,rfl⟩,hZ,_,hD2,s2⟩
   rw[Qy (by omega)]at hZ
   refine⟨D,_,rfl,.inl ⟨SqL.of hD2,fun tt htt=>?_⟩⟩
   have s3:=Zh htt (.tup zs)
   exact q _ _ (.node Zb (hZ.mono (Zcj s3))) (s2.trans s3)
theorem ZrB{x y:Str}(h:cds x=cds y):x=y:=by
 obtain⟨x⟩:=x
 obtain⟨y⟩:=y
 have:x=y:=Array.ext' h
 rw[this]
theorem ZgH{ss:List Str}{g:List Int}{n:Int}(h:Ris ss g)(hl:∀x,g.getLast? = some x→ZP (kk (ks ss x)) (kk (ks ss n))=true):Ris ss (g++[n]):=fun p x y hx hy=>by
 have hpl:=(Qc.mp hy).1
 rw[Qe,Qm]at hpl
 rw[QX (by omega)]at hx
 by_cases e:p+1<g.length
 ·rw[QX e]at hy
  exact h p x y hx hy
 ·rw[QW (by omega),show p+1-g.length=0 by clear hl e;omega]at hy
  cases hy
  refine hl x ?_
  rw[List.getLast?_eq_getElem?,show g.length-1=p by omega]
  exact hx
theorem Zmg{ss:List Str}{n:Int}{c:Nat}(hn:n<c)(h:¬ ltK ss (c:Int) n):ZP (kk (ks ss n)) (kk (ks ss (c:Int)))=true:=by
 cases hb:ZP (kk (ks ss n)) (kk (ks ss (c:Int))) with
 | true=>rfl
 | false =>
  have h2:ZP (kk (ks ss (c:Int))) (kk (ks ss n))=false:=by
   unfold kk
   rw[Z8]
   by_cases e:(Sum.inr (ks ss (c:Int)).1:Key)=Sum.inr (ks ss n).1
   ·rw[if_pos e,Z8,if_neg (by intro z;have:=Sum.inl.inj z;show False;simp only[ks]at this;omega)]
    exact decide_eq_false (by show ¬ ((c:Int)<n);omega)
   ·rw[if_neg e]
    exact decide_eq_false h
  have:=Zkv (ZbT _ _ hb h2)
  have:=congrArg Prod.snd this
  simp only[ks]at this
  omega
noncomputable def Zig(ss:List Str)(d:List Int):Prop:=d≠[]∧Ris ss d∧∀n∈d,0≤n∧n<ss.length
theorem Zga{ss:List Str}{A B:List Int}{n:Int}(hl:Zgx ss A n)(nd:(A++B).Nodup):∀a∈A.erase n,ZP (kk (ks ss n)) (kk (ks ss a))=true:=fun a ha=>by
 have hA:=(QZ.mp nd).1
 have hne:a≠n:=((List.Nodup.mem_erase_iff hA).mp ha).1
 cases hb:ZP (kk (ks ss n)) (kk (ks ss a)) with
 | true=>rfl
 | false=>exact absurd (congrArg Prod.snd (Zkv (ZbT _ _ (hl.2 a (QA ha)) hb))) hne
theorem Zf6{A B:List Int}{n:Int}(nd:(A++B).Nodup):(A.erase n++B).Nodup:=by
 have h:=QZ.mp nd
 exact QZ.mpr ⟨h.1.erase n,h.2.1,fun x hx y hy=>h.2.2 x (QA hx) y hy⟩
theorem Znv{ss:List Str}{A B:List Int}{c:Nat}{gone:List Int}{done R:List (List Int)}(h:Res ss A B c gone done R):(A++B).Nodup→(∀n∈A++B,0≤n∧n<(c:Int))→c≤ss.length→(∀d∈done,Zig ss d)→Ris ss gone→(∀n∈gone,0≤n∧n<ss.length)→(∀x,gone.getLast? = some x→∀a∈A,ZP (kk (ks ss x)) (kk (ks ss a))=true)→(A=[]→B≠[]→gone≠[])→∀d∈R,Zig ss d:=by
 induction h with
 | stop0=>intro _ _ _ hd _ _ _ _;exact hd
 | stop =>
  intro _ _ _ hd hr hm _ _ d hdm
  rcases Qh.mp hdm with h|h
  ·exact hd d h
  ·rw[Qd.mp h];exact⟨by simp,hr,hm⟩
 | switch _ ih =>
  intro nd mem hc hd hr hm _ go
  refine ih (by simpa using nd) (by simpa using mem) hc (fun d hdm=>?_) (fun p x y hx=>by simp at hx) (fun n hn=>by cases hn) (fun x hx=>by simp at hx) (fun z=>by cases z)
  rcases Qh.mp hdm with h|h
  ·exact hd d h
  ·rw[Qd.mp h];exact⟨go rfl (by simp),hr,hm⟩
 | stepN l hcN _ ih =>
  intro nd mem hc hd hr hm last go
  have hn:=mem _ (Qs _ l.1)
  refine ih (Zf6 nd) (fun m hm'=>mem m ?_) hc hd (ZgH hr (fun x hx=>last x hx _ l.1)) (fun m hm'=>?_) (fun x hx=>?_) (fun _ _=>by simp)
  ·rcases Qh.mp hm' with h|h
   ·exact Qs _ (QA h)
   ·exact Qn _ h
  ·rcases Qh.mp hm' with h|h
   ·exact hm m h
   ·rw[Qd.mp h];omega
  ·rw[List.getLast?_concat]at hx
   cases hx
   exact Zga l nd
 | @stepA A B c gone done R n l hcN hlt _ ih =>
  intro nd mem hc hd hr hm last go
  have hn:=mem _ (Qs _ l.1)
  refine ih ?_ (fun m hm'=>?_) hcN hd (ZgH hr (fun x hx=>last x hx _ l.1)) (fun m hm'=>?_) (fun x hx=>?_) (fun _ _=>by simp)
  ·have e:=QZ.mp (Zf6 (n:=n) nd)
   refine QZ.mpr ⟨QZ.mpr ⟨e.1,by simp,fun x hx y hy=>?_⟩,e.2.1,fun x hx y hy=>?_⟩
   ·have:=mem x (Qs _ (QA hx));rw[Qd.mp hy];omega
   ·rcases Qh.mp hx with hx|hx
    ·exact e.2.2 x hx y hy
    ·have:=mem y (Qn _ hy);rw[Qd.mp hx];omega
  ·have:m∈A++B∨m=(c:Int):=by
    simp only[List.mem_append,List.mem_singleton]at hm' ⊢
    rcases hm' with(h|h)|h
    ·exact .inl (.inl (QA h))
    ·exact .inr h
    ·exact .inl (.inr h)
   rcases this with h|h
   ·have:=mem m h;omega
   ·omega
  ·rcases Qh.mp hm' with h|h
   ·exact hm m h
   ·rw[Qd.mp h];omega
  ·rw[List.getLast?_concat]at hx
   cases hx
   intro a ha
   rcases Qh.mp ha with ha|ha
   ·exact Zga l nd a ha
   ·rw[Qd.mp ha];exact Zmg hn.2 hlt
 | @stepB A B c gone done R n l hcN hlt _ ih =>
  intro nd mem hc hd hr hm last go
  have hn:=mem _ (Qs _ l.1)
  refine ih ?_ (fun m hm'=>?_) hcN hd (ZgH hr (fun x hx=>last x hx _ l.1)) (fun m hm'=>?_) (fun x hx=>?_) (fun _ _=>by simp)
  ·have e:=QZ.mp (Zf6 (n:=n) nd)
   refine QZ.mpr ⟨e.1,QZ.mpr ⟨e.2.1,by simp,fun x hx y hy=>?_⟩,fun x hx y hy=>?_⟩
   ·have:=mem x (Qn _ hx);rw[Qd.mp hy];omega
   ·rcases Qh.mp hy with hy|hy
    ·exact e.2.2 x hx y hy
    ·have:=mem x (Qs _ (QA hx));rw[Qd.mp hy];omega
  ·have:m∈A++B∨m=(c:Int):=by
    simp only[List.mem_append,List.mem_singleton]at hm' ⊢
    rcases hm' with h|h|h
    ·exact .inl (.inl (QA h))
    ·exact .inl (.inr h)
    ·exact .inr h
   rcases this with h|h
   ·have:=mem m h;omega
   ·omega
  ·rcases Qh.mp hm' with h|h
   ·exact hm m h
   ·rw[Qd.mp h];omega
  ·rw[List.getLast?_concat]at hx
   cases hx
   exact Zga l nd
theorem Zn6(n:Nat):(first n).Nodup:=by
 unfold first Zx
 refine QaR _ (fun a b h=>?_) List.nodup_range
 intro z
 exact h (by omega)
theorem Zhh{ss:List Str}{k:Nat}(hk:k≤ss.length){R:List (List Int)}(h:Res ss (first k) [] k [] [] R):∀d∈R,Zig ss d :=
 Znv h (by rw[QL];exact Zn6 k) (by rw[QL];exact fun n hn=>Zef hn) hk (fun d h=>by cases h) (fun p x y hx=>by simp at hx) (fun n h=>by cases h) (fun x hx=>by simp at hx) (fun _ z=>absurd rfl z)
theorem Ris.far{ss:List Str}{ns:List Int}(h:Ris ss ns):∀ (d p:Nat) (x y:Int),ns[p]? = some x→ns[p+d+1]? = some y→ZP (kk (ks ss x)) (kk (ks ss y))=true
 | 0,p,x,y,hx,hy=>h p x y hx hy
 | d+1,p,x,y,hx,hy=>by
  have hl:p+d+1<ns.length:=by have:=(Qc.mp hy).1;omega
  have hz:=Qb hl
  exact ZbQ _ _ _ (h.far d p x _ hx hz) (h (p+d+1) _ _ hz hy)
theorem Ris.pw{ss:List Str}{ns:List Int}(h:Ris ss ns):ns.Pairwise fun x y=>ZP (kk (ks ss x)) (kk (ks ss y))=true:=by
 refine List.pairwise_iff_getElem.mpr fun i j hi hj hij=>?_
 exact h.far (j-i-1) i _ _ (Qb hi) (by rw[show i+(j-i-1)+1=j by omega];exact Qb hj)
theorem ZpW{ss:List Str}{x y:Int}(h:ZP (kk (ks ss x)) (kk (ks ss y))=true):LeS (ss.getD x.toNat "") (ss.getD y.toNat ""):=by
 by_cases e:ss.getD x.toNat "" = ss.getD y.toNat ""
 ·rw[e];exact LeS.refl _
 ·unfold kk at h
  rw[Z8,if_neg (show ¬ (Sum.inr (ks ss x).1:Key)=Sum.inr (ks ss y).1 from fun z=>e (Sum.inr.inj z))]at h
  have h':cds (ss.getD x.toNat "")<cds (ss.getD y.toNat ""):=of_decide_eq_true h
  have:=(ZbR _ _).mp h'
  exact Zj2 (by omega)
theorem Znk{ss:List Str}{d:List Int}(h:d.Pairwise fun x y=>ZP (kk (ks ss x)) (kk (ks ss y))=true):sortedS (ZaS ss d)=true:=(ZcO _).mpr (List.pairwise_map.mpr (h.imp fun h=>ZpW h))
theorem Zp1{ss:List Str}{A B:List Int}{c:Nat}{gone:List Int}{done R:List (List Int)}(h:Res ss A B c gone done R):c≤ss.length→(R.map List.length).sum≤(done.map List.length).sum+gone.length+A.length+B.length+(ss.length-c):=by
 induction h with
 | stop0=>intro _;omega
 | stop=>intro _;rw[Qf,Qan,Ql,Qag,Q0,List.sum_nil];omega
 | switch _ ih =>
  intro hc
  have:=ih hc
  rw[Qf,Qan,Ql,Qag,Q0,List.sum_nil,List.length_nil]at this
  rw[List.length_nil]
  omega
 | stepN l _ _ ih =>
  intro hc
  have:=ih hc
  rw[Qe,Qm,Qac l.1]at this
  have:=Q3 l.1
  clear ih hc;omega
 | stepA l hcl _ _ ih =>
  intro hc
  have:=ih (by omega)
  rw[Qe,Qe,Qm,Qm,Qac l.1]at this
  have:=Q3 l.1
  omega
 | stepB l hcl _ _ ih =>
  intro hc
  have:=ih (by omega)
  rw[Qe,Qe,Qm,Qm,Qac l.1]at this
  have:=Q3 l.1
  omega
theorem Zf5{ss:List Str}{k:Nat}(hk:k≤ss.length){R:List (List Int)}(h:Res ss (first k) [] k [] [] R):(R.map List.length).sum≤ss.length:=by
 have:=Zp1 h hk
 rw[Zcg,List.length_nil]at this
 simp at this
 omega
theorem Zlh:∀R:List (List Int),(∀d∈R,d≠[])→R.length≤(R.map List.length).sum
 | [],_=>Qg _
 | d::R,h=>by
  have:=Zlh R fun x hx=>h x (Qu _ hx)
  have:=QaK.mpr (h d (by simp))
  rw[Ql,Q0,QE]
  omega
noncomputable def LtT(u v:ZaA):Prop:=ZJ (cds u.2.2) (cds v.2.2)<0∨(u.2.2=v.2.2∧(u.1<v.1∨(u.1=v.1∧u.2.1<v.2.1)))
theorem Ze3{a b:Str}(h:LeS a b):ZJ (cds a) (cds b)<0∨a=b:=by
 by_cases e:ZJ (cds a) (cds b)<0
 ·exact .inl e
 ·refine .inr (h.anti fun z=>e ((ZbR _ _).mp z))
theorem Zne{ss:List Str}(h:sortedS ss=true){i j:Nat}(hij:i≤j){x y:Str}(hx:ss[i]? = some x)(hy:ss[j]? = some y):LeS x y:=by
 rcases Nat.lt_or_eq_of_le hij with hlt|rfl
 ·have p:=(ZcO _).mp h
  obtain⟨h1,e1⟩:=Qc.mp hx
  obtain⟨h2,e2⟩:=Qc.mp hy
  rw[← e1,← e2]
  exact Q9.mp p i j h1 h2 hlt
 ·rw[Qr (hx.symm.trans hy)];exact LeS.refl _
theorem ZiK{a b c:Str}(h:ZJ (cds a) (cds b)<0)(g:LeS b c):ZJ (cds a) (cds c)<0:=by
 rcases Ze3 g with g|rfl
 ·have h1:=ZbV _ _ _ (Int.le_of_lt h) (Int.le_of_lt g)
  by_cases e:ZJ (cds a) (cds c)=0
  ·have e2:=Zc3 _ _ e
   rw[← e2]at g
   have:=ZaD (cds a) (cds b)
   omega
  ·omega
 ·exact h
theorem TkW.lt{P P':List ZM}{ts:List ZaA}(h:TkW P ts P')(nd:(ZaT P).Nodup)(srt:ZiX P):ts.Pairwise LtT∧∀u∈ts,∀x∈P',∀ (k:Nat) (y:Str),x.2.2≤k→x.2.1[k]? = some y→LtT u (x.1,k,y):=by
 induction h with
 | nil=>exact⟨List.Pairwise.nil,fun u hu=>by cases hu⟩
 | snoc h s ih =>
  rename_i ts P1 x z
  obtain⟨i1,i2⟩:=ih
  have nd1:(ZaT P1).Nodup:=by rw[h.num];exact nd
  have srt1:=(h.srt nd srt).1
  obtain⟨hx,hz,W⟩:=s
  obtain⟨_,zc,hzc,hall⟩:=W
  rw[ZgE nd1 hx,hz]at hzc
  have hzc':cds z=zc:=Qr hzc
  subst hzc'
  refine⟨QaD.mpr ⟨i1,Qah _ _,fun u hu v hv=>?_⟩,fun u hu w hw k y hk hy=>?_⟩
  ·rw[Qd.mp hv]
   exact i2 u hu x hx x.2.2 z (Qg _) hz
  ·obtain⟨w0,hw0,rfl⟩:=Qw.mp hw
   have e1:(Zar x.1 w0).1=w0.1:=by unfold Zar;split<;>rfl
   have e2:(Zar x.1 w0).2.1=w0.2.1:=by unfold Zar;split<;>rfl
   have e3:w0.2.2≤(Zar x.1 w0).2.2:=by unfold Zar;split<;>simp
   rw[e2]at hy
   rw[e1]
   rcases Qh.mp hu with hu|hu
   ·exact i2 u hu w0 hw0 k y (QJ e3 hk) hy
   ·rw[Qd.mp hu]
    by_cases hn:w0.1=x.1
    ·have:=Zdm nd1 hw0 hx hn
     subst this
     have hk':w0.2.2+1≤k:=by
      have:(Zar w0.1 w0).2.2=w0.2.2+1:=by unfold Zar;rw[if_pos rfl]
      omega
     rcases Ze3 (Zne (srt1 w0 hw0) (by omega) hz hy) with g|g
     ·exact .inl g
     ·exact .inr ⟨g,.inr ⟨rfl,hk'⟩⟩
    ·have hk':w0.2.2≤k:=QJ e3 hk
     obtain⟨hkl,_⟩:=Qc.mp hy
     obtain⟨hd,hhd⟩:∃hd,w0.2.1[w0.2.2]? = some hd:=⟨_,Qb (by omega)⟩
     have hle:=Zne (srt1 w0 hw0) hk' hhd hy
     have hd':=ZgE nd1 hw0
     rw[hhd]at hd'
     rcases hall w0.1 (Qp (f:=fun x:ZM=>x.1) hw0) _ hd' with e|b
     ·exact absurd e hn
     ·rcases b with b|⟨b,bl⟩
      ·exact .inl (ZiK b hle)
      ·have ez:z=hd:=ZrB (Zc3 _ _ b)
       rw[ez]
       rcases Ze3 hle with g|g
       ·exact .inl g
       ·exact .inr ⟨g,.inl bl⟩
theorem TkW.cnt{R:List (List Str)}{ts:List ZaA}{P:List ZM}(h:TkW (Zdy R) ts P):∀x∈P,(ts.filter fun u=>decide (u.1=x.1)).map (·.2.1)=List.range x.2.2:=by
 induction h with
 | nil =>
  intro x hx
  obtain⟨_,_,_,e⟩:=ZdJ hx
  rw[e];rfl
 | snoc h s ih =>
  rename_i ts P1 x z
  intro w hw
  have nd1:(ZaT P1).Nodup:=by rw[h.num];exact Zdd _
  obtain⟨w0,hw0,rfl⟩:=Qw.mp hw
  have e1:(Zar x.1 w0).1=w0.1:=by unfold Zar;split<;>rfl
  rw[e1,List.filter_append,Qf,ih w0 hw0]
  by_cases hn:w0.1=x.1
  ·have:=Zdm nd1 hw0 s.1 hn
   subst this
   have e2:(Zar w0.1 w0).2.2=w0.2.2+1:=by unfold Zar;rw[if_pos rfl]
   rw[e2,Qaj]
   simp
  ·have e2:(Zar x.1 w0).2.2=w0.2.2:=by unfold Zar;rw[if_neg hn]
   rw[e2]
   have:¬ x.1=w0.1:=fun z=>hn z.symm
   simp[this]
theorem Put.sub{ss:List Str}{R:List (List Int)}{out:List Int}(h:Put ss R out):∀d∈R,d.Sublist out:=fun d hd=>by
 obtain⟨ts,P,h1,h2,rfl⟩:=h
 obtain⟨i,hi⟩:=QaE hd
 have hl:=h1.left (Zdd _)
 rw[Zho,Zf3]at hl
 have h0:Za3 P=0:=by omega
 have hnum:=h1.num
 obtain⟨x,hx,ex⟩:∃x∈P,x.1=(i:Int):=by
  have:(i:Int)∈ZaT P:=by
   rw[hnum,ZiQ,Qa]
   unfold Zx
   exact Qw.mpr ⟨i,QU.mpr (Qc.mp hi).1,by omega⟩
  obtain⟨x,hx,e⟩:=Qw.mp this
  exact⟨x,hx,e⟩
 obtain⟨y,hy,e1,e2⟩:=h1.row x hx
 obtain⟨j,hj,hR,_⟩:=ZdJ hy
 have hij:j=i:=by clear h0 hl h2;omega
 subst hij
 rw[Qi,hi]at hR
 have hxk:x.2.1=ZaS ss d:=by rw[← e2];exact(Qr hR).symm
 have hxl:x.2.1.length=d.length:=by rw[hxk];unfold ZaS;rw[Qa]
 have hge:d.length≤x.2.2:=by
  have:=List.flatMap_eq_nil_iff.mp (Zle h0) x hx
  have:=List.drop_eq_nil_iff.mp this
  clear ex hj e1 h0 hl h2;omega
 have hc:=h1.cnt x hx
 have hle:x.2.2≤d.length:=by
  by_cases hz:x.2.2=0
  ·omega
  ·have hm:x.2.2-1∈List.range x.2.2:=QU.mpr (by clear hge hxl ex hj e1 h0 hl h2;omega)
   rw[← hc]at hm
   obtain⟨u,hu,eu⟩:=Qw.mp hm
   obtain⟨hu1,hu2⟩:=List.mem_filter.mp hu
   obtain⟨d',hd',_,hg,_⟩:=Zdh h1 hu1
   have eu1:u.1=x.1:=of_decide_eq_true hu2
   have:u.1.toNat=j:=by rw[eu1,ex];rfl
   rw[this,hi]at hd'
   have:d=d':=Qr hd'
   subst this
   have:=(Qc.mp hg).1
   omega
 have he:x.2.2=d.length:=by omega
 have hsub:((ts.filter fun u=>decide (u.1=x.1)).map (Zaq R)).Sublist (ts.map (Zaq R)):=List.Sublist.map _ List.filter_sublist
 have heq:(ts.filter fun u=>decide (u.1=x.1)).map (Zaq R)=d:=by
  have e3:(ts.filter fun u=>decide (u.1=x.1)).map (Zaq R)=((ts.filter fun u=>decide (u.1=x.1)).map (·.2.1)).map fun g=>d.getD g 0:=by
   rw[QB]
   refine QM fun u hu=>?_
   have eu1:u.1=x.1:=of_decide_eq_true (List.mem_filter.mp hu).2
   unfold Zaq
   have:u.1.toNat=j:=by rw[eu1,ex];rfl
   rw[this]
   show ((R.getD j []).getD u.2.1 0)=d.getD u.2.1 0
   rw[Qk (l:=R),hi];rfl
  rw[e3,hc,he]
  refine Qai fun k=>?_
  rw[Qi]
  by_cases hk:k<d.length
  ·rw[Qak hk,Qb hk]
   simp[List.getD_eq_getElem?_getD,List.getElem?_eq_getElem hk]
  ·rw[QH (by rw[Qap];clear he hxl ex hj e1 h0 hl h2 hle hge;omega),QH (by clear he hxl ex hj e1 h0 hl h2 hle hge;omega)]
   rfl
 rw[heq]at hsub
 exact hsub
noncomputable def Zha(R:List (List Int))(P:List ZM):List Int:=P.flatMap fun x=>(R.getD x.1.toNat []).drop x.2.2
theorem ZhD(R:List (List Int)):∀ (P:List ZM),(ZaT P).Nodup→∀ {x:ZM} {n:Int},x∈P→(R.getD x.1.toNat [])[x.2.2]? = some n→(n::Zha R (ZbI P x.1)).Perm (Zha R P)
 | [],_,_,_,h,_=>by cases h
 | y::P,nd,x,n,h,hn=>by
  unfold ZaT at nd
  rw[Ql,QY]at nd
  unfold Zha ZbI
  rw[Ql,QaU,QaU]
  rcases QK.mp h with rfl|h
  ·have e:P.map (Zar x.1)=P:=by
    conv=>rhs;rw[← List.map_id P]
    refine QM fun u hu=>?_
    unfold Zar
    rw[if_neg (fun z:u.1=x.1=>nd.1 (z ▸ Qp (f:=fun x:ZM=>x.1) hu))]
    rfl
   obtain⟨hlt,en⟩:=Qc.mp hn
   rw[e,List.drop_eq_getElem_cons hlt,en]
   unfold Zar
   rw[if_pos rfl]
   exact Qau _
  ·have ih:=ZhD R P nd.2 h hn
   unfold Zha ZbI at ih
   have e:Zar x.1 y=y:=if_neg (fun z:y.1=x.1=>nd.1 (z ▸ Qp (f:=fun x:ZM=>x.1) h))
   rw[e]
   exact List.perm_middle.symm.trans (ih.append_left _)
theorem Put.perm{ss:List Str}{R:List (List Int)}{out:List Int}(h:Put ss R out):out.Perm R.flatten:=by
 obtain⟨ts,P,h1,h2,rfl⟩:=h
 have key:∀ {ts:List ZaA} {P:List ZM},TkW (Zdy (R.map (ZaS ss))) ts P→(ts.map (Zaq R)++Zha R P).Perm (Zha R (Zdy (R.map (ZaS ss)))):=by
  intro ts P h
  induction h with
  | nil=>exact Qau _
  | snoc h s ih =>
   rename_i ts P1 x z
   have nd1:(ZaT P1).Nodup:=by rw[h.num];exact Zdd _
   have hp:=Zdh (TkW.snoc h s) (u:=(x.1,x.2.2,z)) (Qn _ (Qd.mpr rfl))
   obtain⟨d,hd,_,hg,_⟩:=hp
   have hR:(R.getD x.1.toNat [])[x.2.2]? = some (Zaq R (x.1,x.2.2,z)):=by
    have:R.getD x.1.toNat []=d:=by rw[Qk];show (R[x.1.toNat]?).getD []=d;rw[hd];rfl
    rw[this];exact hg
   rw[Qf,Q6]
   exact((ZhD R P1 nd1 s.1 hR).append_left _).trans ih
 have hl:=h1.left (Zdd _)
 rw[Zho,Zf3]at hl
 have h0:Za3 P=0:=by omega
 have hr0:Zha R P=[]:=by
  unfold Zha
  refine List.flatMap_eq_nil_iff.mpr fun x hx=>?_
  have h3:=List.drop_eq_nil_iff.mp (List.flatMap_eq_nil_iff.mp (Zle h0) x hx)
  obtain⟨y,hy,e1,e2⟩:=h1.row x hx
  obtain⟨j,hj,hR,_⟩:=ZdJ hy
  rw[Qi]at hR
  cases hd:R[j]? with
  | none=>rw[hd]at hR;cases hR
  | some d =>
   rw[hd]at hR
   have e4:ZaS ss d=x.2.1:=by rw[← e2];exact Qr hR
   have e5:x.1.toNat=j:=by rw[← e1,hj];rfl
   refine List.drop_eq_nil_iff.mpr ?_
   rw[e5,Qk,hd]
   show d.length≤_
   rw[← e4]at h3
   unfold ZaS at h3
   rwa [Qa]at h3
 have hk:=key h1
 rw[hr0,QL]at hk
 refine hk.trans ?_
 have e:Zha R (Zdy (R.map (ZaS ss)))=R.flatten:=by
  unfold Zha
  rw[List.flatMap_def]
  congr 1
  refine Qai fun i=>?_
  rw[Qi,ZjE,Qi]
  cases hR:R[i]? with
  | none=>rfl
  | some d =>
   show some (((R.getD ((i:Int).toNat) []).drop 0))=some d
   rw[Q5,Qk,hR];rfl
 rw[e]
theorem Put.ris{ss:List Str}{R:List (List Int)}{out:List Int}(h:Put ss R out)(hr:∀d∈R,d.Pairwise fun x y=>ZP (kk (ks ss x)) (kk (ks ss y))=true)(ha:R.Pairwise fun d e=>∀b∈d,∀a∈e,ss.getD a.toNat "" = ss.getD b.toNat ""→b<a):out.Pairwise fun x y=>ZP (kk (ks ss x)) (kk (ks ss y))=true:=by
 obtain⟨ts,P,h1,h2,rfl⟩:=h
 have hs:∀d∈R.map (ZaS ss),sortedS d=true:=fun d hd=>by
  obtain⟨x,hx,rfl⟩:=Qw.mp hd
  exact Znk (hr x hx)
 have hlt:=(h1.lt (Zdd _) (ZiP hs)).1
 refine List.pairwise_map.mpr ((List.pairwise_iff_forall_sublist.mpr fun {u v} huv=>?_))
 have hu:u∈ts:=huv.subset (by simp)
 have hv:v∈ts:=huv.subset (by simp)
 have huv':LtT u v:=List.pairwise_iff_forall_sublist.mp hlt huv
 obtain⟨d,hd,u0,ud,uk⟩:=Zdh h1 hu
 obtain⟨e,he,v0,ve,vk⟩:=Zdh h1 hv
 rcases huv' with g|⟨g1,g2⟩
 ·unfold kk
  rw[Z8,if_neg (show ¬ (Sum.inr (ks ss (Zaq R u)).1:Key)=Sum.inr (ks ss (Zaq R v)).1 from fun z=>by
   have z':ss.getD (Zaq R u).toNat "" = ss.getD (Zaq R v).toNat "":=Sum.inr.inj z
   rw[uk,vk]at z'
   rw[z',Zc4]at g
   omega)]
  refine decide_eq_true ?_
  show cds (ss.getD (Zaq R u).toNat "")<cds (ss.getD (Zaq R v).toNat "")
  rw[uk,vk]
  exact(ZbR _ _).mpr g
 ·have ek:ss.getD (Zaq R u).toNat "" = ss.getD (Zaq R v).toNat "":=by rw[uk,vk,g1]
  have hnum:Zaq R u<Zaq R v:=by
   rcases g2 with g2|⟨g2,g3⟩
   ·have hij:u.1.toNat<v.1.toNat:=by clear hs h2 hr v0;omega
    obtain⟨l1,m1⟩:=Qc.mp hd
    obtain⟨l2,m2⟩:=Qc.mp he
    have:=Q9.mp ha _ _ l1 l2 hij
    rw[m1,m2]at this
    exact this _ (Qo ud) _ (Qo ve) ek.symm
   ·have e1:u.1.toNat=v.1.toNat:=by rw[g2]
    rw[e1,he]at hd
    have:e=d:=Qr hd
    subst this
    obtain⟨l1,m1⟩:=Qc.mp ud
    obtain⟨l2,m2⟩:=Qc.mp ve
    have hx:=Q9.mp (hr e (Qo he)) _ _ l1 l2 g3
    rw[m1,m2]at hx
    unfold kk at hx
    rw[Z8,if_pos (show (Sum.inr (ks ss (Zaq R u)).1:Key)=Sum.inr (ks ss (Zaq R v)).1 from congrArg Sum.inr ek),Z8]at hx
    split at hx
    ·cases hx
    ·exact of_decide_eq_true hx
  unfold kk
  rw[Z8,if_pos (show (Sum.inr (ks ss (Zaq R u)).1:Key)=Sum.inr (ks ss (Zaq R v)).1 from congrArg Sum.inr ek),Z8,if_neg (show ¬ (Sum.inl (ks ss (Zaq R u)).2:Key)=Sum.inl (ks ss (Zaq R v)).2 from fun z=>by
   have z':Zaq R u=Zaq R v:=Sum.inl.inj z
   omega)]
  exact decide_eq_true hnum
noncomputable abbrev ZeR(ss:List Str)(d:List Int):Prop:=d.Pairwise fun x y=>ZP (kk (ks ss x)) (kk (ks ss y))=true
noncomputable abbrev ApP(ss:List Str)(d e:List Int):Prop:=∀b∈d,∀a∈e,ss.getD a.toNat "" = ss.getD b.toNat ""→b<a
noncomputable def lvR(R:List (List Int))(lv:List Int):List (List Int):=lv.map fun i=>R.getD i.toNat []
theorem ZfT(R:List (List Int))(a b:List Int):lvR R (a++b)=lvR R a++lvR R b:=by unfold lvR;rw[Qf]
mutual
theorem ZcD.srt{ss:List Str}{R:List (List Int)}(hr:∀d∈R,ZeR ss d):∀ {t:PT} {o:List Int},ZcD ss R t o→(lvR R (tLv t)).Pairwise (ApP ss)→ZeR ss o∧o.Perm (lvR R (tLv t)).flatten
 | .leaf i,_,.leaf,_=>by
  refine⟨?_,?_⟩
  ·rw[Qk]
   cases hx:R[i.toNat]? with
   | none=>exact List.Pairwise.nil
   | some d=>exact hr d (Qo hx)
  ·show (R.getD i.toNat []).Perm ([R.getD i.toNat []].flatten)
   rw[List.flatten_cons,List.flatten_nil,QL]
 | .node l,o,.node h p,ha=>by
  obtain⟨a,b,c⟩:=Zao.srt hr h ha
  exact⟨p.ris a b,p.perm.trans c⟩
theorem Zao.srt{ss:List Str}{R:List (List Int)}(hr:∀d∈R,ZeR ss d):∀ {l:List PT} {os:List (List Int)},Zao ss R l os→(lvR R (Zak l)).Pairwise (ApP ss)→(∀o∈os,ZeR ss o)∧os.Pairwise (ApP ss)∧os.flatten.Perm (lvR R (Zak l)).flatten
 | [],_,.nil,_=>⟨fun o h=>(by cases h),List.Pairwise.nil,Qau _⟩
 | t::l,_,.cons (o:=o) (os:=os) h hs,ha=>by
  have ha':(lvR R (tLv t)++lvR R (Zak l)).Pairwise (ApP ss):=by rw[← ZfT];exact ha
  obtain⟨a1,a2,a3⟩:=List.pairwise_append.mp ha'
  obtain⟨p1,p2⟩:=ZcD.srt hr h a1
  obtain⟨q1,q2,q3⟩:=Zao.srt hr hs a2
  refine⟨fun x hx=>?_,List.pairwise_cons.mpr ⟨fun e he b hb x hx=>?_,q2⟩,?_⟩
  ·rcases QK.mp hx with rfl|hx
   ·exact p1
   ·exact q1 x hx
  ·obtain⟨d1,hd1,hb1⟩:=List.mem_flatten.mp (p2.mem_iff.mp hb)
   obtain⟨d2,hd2,hx2⟩:=List.mem_flatten.mp (q3.mem_iff.mp (List.mem_flatten.mpr ⟨e,he,hx⟩))
   exact a3 d1 hd1 d2 hd2 b hb1 x hx2
  ·show (o++os.flatten).Perm (lvR R (tLv t++Zak l)).flatten
   rw[ZfT,List.flatten_append]
   exact p2.append q3
end
mutual
theorem ZcD.any{ss:List Str}{R:List (List Int)}:∀ {t:PT} {o:List Int},ZcD ss R t o→o.Perm (lvR R (tLv t)).flatten∧∀d∈lvR R (tLv t),d.Sublist o
 | .leaf i,_,.leaf=>by
  refine⟨?_,fun d hd=>?_⟩
  ·show (R.getD i.toNat []).Perm ([R.getD i.toNat []].flatten)
   rw[List.flatten_cons,List.flatten_nil,QL]
  ·have:d=R.getD i.toNat []:=Qd.mp hd
   rw[this];exact List.Sublist.refl _
 | .node l,o,.node h p=>by
  obtain⟨a,b⟩:=Zao.any h
  refine⟨p.perm.trans a,fun d hd=>?_⟩
  obtain⟨x,hx,hs⟩:=b d hd
  exact hs.trans (p.sub x hx)
theorem Zao.any{ss:List Str}{R:List (List Int)}:∀ {l:List PT} {os:List (List Int)},Zao ss R l os→os.flatten.Perm (lvR R (Zak l)).flatten∧∀d∈lvR R (Zak l),∃o∈os,d.Sublist o
 | [],_,.nil=>⟨Qau _,fun d h=>by cases h⟩
 | t::l,_,.cons (o:=o) (os:=os) h hs=>by
  obtain⟨p1,p2⟩:=ZcD.any h
  obtain⟨q1,q2⟩:=Zao.any hs
  refine⟨?_,fun d hd=>?_⟩
  ·show (o++os.flatten).Perm (lvR R (tLv t++Zak l)).flatten
   rw[ZfT,List.flatten_append]
   exact p1.append q1
  ·have hd':d∈lvR R (tLv t)++lvR R (Zak l):=by rw[← ZfT];exact hd
   rcases Qh.mp hd' with hd'|hd'
   ·exact⟨o,Q1 ..,p2 d hd'⟩
   ·obtain⟨x,hx,hs'⟩:=q2 d hd'
    exact⟨x,Qu _ hx,hs'⟩
end
theorem Zdl(R:List (List Int)):lvR R (Zx 0 R.length)=R:=by
 unfold lvR
 refine Qai fun i=>?_
 unfold Zx
 rw[Qi,Qi]
 by_cases h:i<R.length
 ·rw[Qak h,Qb h]
  simp[List.getD_eq_getElem?_getD,List.getElem?_eq_getElem h]
 ·rw[QH (by rw[Qap];omega),QH (by omega)]
  rfl
theorem Zk5{ss:List Str}{a b:List Int}(ha:ZeR ss a)(hb:ZeR ss b)(p:a.Perm b):a=b:=QaL (fun x y _ _ h1 h2=>by
 have:ZP (kk (ks ss x)) (kk (ks ss x))=true:=ZbQ _ _ _ h1 h2
 have h0:=Za5 (kk (ks ss x))
 rw[h0]at this;cases this) ha hb p
theorem ZqQ{ss:List Str}{a:List Int}(ha:ZeR ss a):a.Nodup:=ha.imp fun {x y} h e=>by
 rw[e]at h
 have h0:=Za5 (kk (ks ss y))
 rw[h0]at h;cases h
structure Zma (ss:List Str) (R:List (List Int)):Prop where
 rg:∀d∈R,ZiL ss d
 lex:∀d∈R,ZeR ss d
 ap:R.Pairwise (ApP ss)
 pm:R.flatten.Perm (Zx 0 ss.length)
theorem ZeP:∀R:List (List Int),R.flatten.length=(R.map List.length).sum
 | []=>rfl
 | d::R=>by rw[List.flatten_cons,Qe,Ql,Q0,ZeP R]
theorem Zkc(n:Nat):(Zx 0 n).Nodup:=(ZeJ n).imp fun h=>by omega
theorem Zkh{ss:List Str}{room:Nat}(hr:1≤room){R:List (List Int)}(h:Res ss (first (min room ss.length)) [] (min room ss.length) [] [] R):Zma ss R:=by
 have hg:=Zhh (QaH _ _) h
 have hs:=Zf5 (QaH _ _) h
 have ha:=Znw hr h
 have pm:R.flatten.Perm (Zx 0 ss.length):=(ZdA (Zkc _) (fun x hx=>by
  unfold Zx at hx
  obtain⟨m,hm,rfl⟩:=Qw.mp hx
  have:=QU.mp hm
  obtain⟨d,hd,hmd⟩:=ha (0+(m:Int)) (by omega) (by omega)
  exact List.mem_flatten.mpr ⟨d,hd,hmd⟩) (by rw[ZeP,ZR];exact hs)).symm
 have nd:R.flatten.Nodup:=pm.nodup_iff.mpr (Zkc _)
 have dj:=(List.pairwise_flatten.mp nd).2
 refine⟨fun d hd=>⟨(hg d hd).2.2,Znk (hg d hd).2.1.pw⟩,fun d hd=>(hg d hd).2.1.pw,?_,pm⟩
 refine((Zlz h).and dj).imp fun hh b hb a ha' hk=>?_
 obtain⟨h1,h2⟩:=hh
 have hne:b≠a:=h2 b hb a ha'
 by_cases hlt:a<b
 ·exact absurd hk (h1 b hb a ha' hlt)
 ·omega
mutual
theorem Znh{n:Nat}:∀t:PT,(∀k∈tLv t,0≤k∧k<(n:Nat))→tOk n t
 | .leaf k,h=>h k (Qd.mpr rfl)
 | .node l,h=>Zlw l h
theorem Zlw{n:Nat}:∀l:List PT,(∀k∈Zak l,0≤k∧k<(n:Nat))→Zcv n l
 | [],_=>trivial
 | t::r,h=>⟨Znh t fun k hk=>h k (Qs _ hk),Zlw r fun k hk=>h k (Qn _ hk)⟩
end
mutual
theorem Zn9{w:Nat}(hw:w≤60):∀t:PT,tPl w t→tPl 60 t
 | .leaf _,_=>trivial
 | .node l,h=>⟨h.1,QJ h.2.1 hw,Zlv hw l h.2.2⟩
theorem Zlv{w:Nat}(hw:w≤60):∀l:List PT,Zb3 w l→Zb3 60 l
 | [],_=>trivial
 | t::r,h=>⟨Zn9 hw t h.1,Zlv hw r h.2⟩
end
mutual
theorem Zit{w:Nat}:∀t:PT,tPl w t→tDp t+1≤(tLv t).length
 | .leaf _,_=>Qg _
 | .node l,h=>by
  have h2:2≤l.length:=h.1
  have:=Zlj l h.2.2 (by omega)
  show Zb8 l+1+1≤(Zak l).length
  omega
theorem Zlj{w:Nat}:∀l:List PT,Zb3 w l→1≤l.length→Zb8 l+l.length≤(Zak l).length
 | [],_,h=>absurd h (by decide)
 | t::r,h,_=>by
  have h1:=Zit t h.1
  have h2:=ZdB w r h.2
  show max (tDp t) (Zb8 r)+(r.length+1)≤(tLv t++Zak r).length
  rw[Qe]
  by_cases hr:r=[]
  ·subst hr
   have:Zb8 []=0:=rfl
   simp only[List.length_nil]
   clear h2;omega
  ·have h3:=Zlj r h.2 (QaK.mpr hr)
   omega
end
theorem ZpI(n:Nat):ZcE 0 n=Zx 0 n:=by
 unfold ZcE Zx
 rw[Nat.sub_zero]
 refine QM fun i _=>by omega
theorem ZnC{ss:List Str}{R:List (List Int)}(h:Zma ss R){ns:List Int}{wy:Nat}{p:Int}{t:PT}(hn:ns.length=R.length)(hw:wy≤6)(g:Gr ns wy 0 ns.length 1 p [t]) :
  tOk R.length t∧tPl 60 t∧wtR R (tLv t)=ss.length∧tDp t+1≤R.length∧tCo ns t=p∧∀out,ZcD ss R t out→ZeR ss out∧out.Perm (Zx 0 ss.length):=by
 obtain⟨n1,n2⟩:=g.nf
 have lv:tLv t=Zx 0 R.length:=by
  have:tLv t++[]=ZcE 0 ns.length:=n1
  rw[QL,ZpI,hn]at this
  exact this
 have pl:tPl wy t:=n2.1
 have dp:=Zit t pl
 rw[lv,ZR]at dp
 refine⟨Znh t fun k hk=>?_,Zn9 (by omega) t pl,?_,dp,?_,fun out ho=>?_⟩
 ·rw[lv]at hk
  unfold Zx at hk
  obtain⟨m,hm,rfl⟩:=Qw.mp hk
  have:=QU.mp hm
  omega
 ·rw[lv]
  have e:wtR R (Zx 0 R.length)=((lvR R (Zx 0 R.length)).map List.length).sum:=by unfold wtR lvR;rw[QB];rfl
  rw[e,Zdl,← ZeP,h.pm.length_eq,ZR]
 ·have:tCo ns t+0=p:=g.co
  omega
 ·have:=ZcD.srt h.lex ho (by rw[lv,Zdl];exact h.ap)
  rw[lv,Zdl]at this
  exact⟨this.1,this.2.trans h.pm⟩
noncomputable def Ze0(R:List (List Int)):List Int:=R.map fun d=>(d.length:Int)
noncomputable def Zsa(ss:List Str)(R:List (List Int))(wy:Nat)(p:Int):Prop:=(R=[]∧p=0)∨(R≠[]∧∃t,Gr (Ze0 R) wy 0 (Ze0 R).length 1 p [t])
noncomputable def ZrO(K:PySem.W.Frag):Sp:=fun vs H Q _=>∃ (a:Addr) (ss:List Str) (room wy:Nat),vs=[.ref a,.int room,.int wy]∧H a=some (.lst (ss.map V.str))∧ss.length≤60∧(∀s∈ss,s.length≤1000∧AZ s)∧1≤room∧room≤100∧2≤wy∧wy≤6 ∧
 ∀ (t b:Addr) (out:List Int) (p:Int) (R:List (List Int)) (H':Hp),H' t=some (.tup [.ref b,.int p])→H' b=some (.lst (out.map V.int))→ZeR ss out→out.Perm (Zx 0 ss.length)→Res ss (first (min room ss.length)) [] (min room ss.length) [] [] R→Zsa ss R wy p→ZC H H'→Q (.ref t) H'
theorem Zpo(T:Zaf K mg cRow cMerge)(f_runs_of:Df P w K mg base 5 "runs_of" ["things", "room"] (ZmM K))(f_near_plan:Df P w K mg base 4 "near_plan" ["sizes", "ways"] (Znu K))(f_merged_by:Df P w K mg base (61+17) "merged_by" ["things", "runs", "tree"] (ZpN 61)):Df P w K mg base 79 "sort_by" ["things", "room", "ways"] (ZrO K):=by
 refine T.t_sort_by.df Zdk (fun vs H Q E h=>?_) (fun cdv f A outer s H vs Q E hr h=>?_)
 ·obtain⟨a,ss,room,wy,rfl,_⟩:=h
  rfl
 obtain⟨a,ss,room,wy,rfl,ha,h60,hk,r1,r2,w2,w6,q⟩:=h
 refine⟨_,#[Zg,#[Zy,3,Zdk.nd,(Or.inl rfl),#[ZB,f_runs_of,hr,#[Za,‹0›,#[Za,‹1›,#[Zc]]],(by rfl)]],#[Zg,#[ZZ,#[Zn,Zbf,#[Zk,(ZaR K),(by rfl),T.b.n_len,Qq,#[Za,‹3›,#[Zc]]],#[Zi],(Zs _)],#[Zj,#[Zm,#[ZT,#[Za,#[Zbg,#[Zc]],#[Za,#[Zi],#[Zc]]]]]],#[ZD]],#[Zg,#[ZaZ,#[ZB,f_near_plan,hr,#[Za,#[Zav,Zln,#[iL,K,‹3›],(fun _ _ _ _=>#[cgL,6,Zln]),(fun _ _ _ _=>(@Zaw _)),(fun _ _ _ _=>#[Zk,(ZaR K),(ZaY Zln rfl (by ac_rfl)),T.b.n_len,Qq,#[Za,#[cwL,6,Zln],#[Zc]]])],#[Za,‹2›,#[Zc]]],(by rfl)],#[gT,K,2,#[Zv,#[ZA,4,Zdk.nd],#[Zv,#[ZA,5,Zdk.nd],(@ZaE _)]]]],#[Zj,#[Zm,#[ZT,#[Za,#[ZB,f_merged_by,hr,#[Za,‹0›,#[Za,‹3›,#[Za,‹5›,#[Zc]]]],(by rfl)],#[Za,‹4›,#[Zc]]]]]]]]],?_⟩
 refine⟨_,rfl,_,rfl,a,ss,room,rfl,SqL.of ha,h60,fun s hs=>(hk s hs).1,r2,fun r ls R H1 hr0 hr1 hrl hls hrd hres _ _ s1=>?_⟩
 have nr:=Zkh r1 hres
 have hln:(ls.map V.ref).length=R.length:=by rw[Qa];exact hrd.len
 have hRl:R.length≤60:=by
  have h1:=Zlh R fun d hd=>(Zhh (QaH _ _) hres d hd).1
  have h2:=Zf5 (QaH _ _) hres
  clear hls hrl q w6 w2 r2 r1 hk hln;omega
 refine⟨_,rfl,r,_,rfl,.inl (SqL.of hr1),?_⟩
 refine⟨rfl,_,rfl,ZaX (fun d=>?_) (fun d=>?_)⟩
 ·have h0:R=[]:=by
   have:=V.int.inj (of_decide_eq_true d)
   exact QN (by omega)
  subst h0
  have hs0:ss.length=0:=by
   have:=nr.pm.length_eq
   rw[ZR]at this
   exact this.symm
  refine⟨(by show 0≤sizeLine;decide),fun b hb=>⟨(by show 2≤sizeLine;decide),fun t ht=>?_⟩⟩
  have s2:=Zh hb (.lst [])
  have s3:=Zh ht (.tup [.ref b,.int 0])
  refine q t b [] 0 [] _ Zb (s3 _ _ Zb) List.Pairwise.nil ?_ hres (.inl ⟨rfl,rfl⟩) (s1.trans (s2.trans s3))
  rw[hs0];exact Qau _
 ·have hR1:R≠[]:=fun z=>d (decide_eq_true (by rw[hln,z];rfl))
  have hRp:=QaK.mpr hR1
  refine⟨_,rfl,r,rfl,⟨_,SqL.of hr1⟩,fun D hD=>?_⟩
  refine Zbd (K:=K) (a:=r) (xs:=ls.map V.ref) (fun i zs σ H2=>(∃v:Option V,σ=[some (.ref a),some (.int room),some (.int wy),some (.ref r),none,none,v])∧zs=(Ze0 (R.take i)).map V.int∧i≤ls.length∧H2 D=some (.lst zs)∧ZC H1 H2) ?_ (fun _ _ _ _ h=>SqL.of (h.2.2.2.2 _ _ hr1)) ?_ ?_
  ·exact⟨⟨none,rfl⟩,rfl,Qv _,Zb,Zh hD _⟩
  ·rintro i y zs σ H2 hy ⟨⟨v,rfl⟩,rfl,hi,hD2,s2⟩
   rw[Qi]at hy
   cases hb:ls[i]? with
   | none=>rw[hb]at hy;cases hy
   | some b =>
   rw[hb]at hy
   cases hy
   have hil:i<ls.length:=(Qc.mp hb).1
   obtain⟨d',hd',hbd⟩:=hrd.at hb
   refine⟨_,rfl,b,_,rfl,.inl (SqL.of (s2 _ _ hbd)),hD2,(by unfold Ze0;rw[Qa,Qa,Qx,sizeLine_eq];clear hil hi hR1 d hls hrl q w6 w2 r2 r1 hk h60 hRp hRl hln;omega),⟨_,rfl⟩,?_,hil,Zb,fun x o hx=>?_⟩
   ·unfold Ze0
    rw[QI,hd',Qf,Qf,Qa];rfl
   ·rw[Ze (Zd hx hD)];exact s2 x o hx
  rintro zs σ H2 ⟨⟨v,rfl⟩,rfl,_,hD2,s2⟩
  rw[show (ls.map V.ref).length=R.length from hln,Qy (Qg _)]at hD2
  have hll:(Ze0 R).length=R.length:=by unfold Ze0;rw[Qa]
  refine⟨_,rfl,D,Ze0 R,wy,rfl,SqL.of hD2,by clear hR1 d hls hrl q w6 w2 r2 r1 hk h60 hRl hln;omega,by clear hR1 d hls hrl q w6 w2 r2 r1 hk h60 hRp hln;omega,fun v hv=>?_,w2,w6,fun t0 x p t H3 ht00 ht0 hTV hG s3=>?_⟩
  ·unfold Ze0 at hv
   obtain⟨d',hd',rfl⟩:=Qw.mp hv
   obtain⟨i,hi⟩:=QaE hd'
   have h1:=Zil hi
   have h2:=Zf5 (QaH _ _) hres
   omega
  obtain⟨g1,g2,g3,g4,g5,g6⟩:=ZnC nr hll w6 hG
  have s13:=s2.trans s3
  have s03:=s1.trans s13
  have I3:Zfi H3 a r ss ls R:=⟨s03 _ _ ha,h60,hk,s13 _ _ hr1,Rd.mono (fun _ _ o ho=>s13 _ _ ho) hrd,nr.rg⟩
  refine⟨t0,_,rfl,SqT.of ht0,rfl,_,_,rfl,_,_,rfl,rfl,?_⟩
  refine⟨_,rfl,_,rfl,_,rfl,xw7 a r ss ls R x t ⟨rfl,I3,hTV,g1,g2,by omega,by clear g6 g5 g3 hR1 d hls hrl q w6 w2 r2 r1 hk h60 hll hRp hln;omega,fun b out H4 hb0 hb hp s4=>?_⟩⟩
  obtain⟨k1,k2⟩:=g6 out hp
  refine⟨_,rfl,(by show 2≤sizeLine;decide),fun tt htt=>?_⟩
  have s5:=Zh htt (.tup [.ref b,.int p])
  exact q tt b out p R _ Zb (s5 _ _ hb) k1 k2 hres (.inr ⟨hR1,t,hG⟩) (s03.trans (s4.trans s5))
noncomputable def Zrz(K:PySem.W.Frag):Sp:=fun vs H Q _=>∃ (a t:Addr) (ss:List Str) (ns:List Int),vs=[.ref a,.ref t]∧H a=some (.lst (ss.map V.str))∧ss.length≤60∧H t=some (.lst (ns.map V.int))∧ZeR ss ns∧ns.Perm (Zx 0 ss.length)∧∀H',ZC H H'→Q (.bl true) H'
theorem Zp0{ss:List Str}{ns:List Int}(h:ZeR ss ns):Ris ss ns:=fun p x y hx hy=>by
 obtain⟨h1,e1⟩:=Qc.mp hx
 obtain⟨h2,e2⟩:=Qc.mp hy
 have:=Q9.mp h p (p+1) h1 h2 (by omega)
 rwa [e1,e2]at this
theorem ZpX(T:Zaf K mg cRow cMerge)(f_is_run:Df P w K mg base 2 "is_run" ["things", "thing"] (Zlm K)):Df P w K mg base 3 "is_sorted" ["things", "thing"] (Zrz K):=by
 refine T.t_is_sorted.df ZiI (fun vs H Q E h=>?_) (fun cdv f A outer s H vs Q E hr h=>?_)
 ·obtain⟨a,t,ss,ns,rfl,_⟩:=h
  rfl
 obtain⟨a,t,ss,ns,rfl,ha,h60,ht,hlex,hpm,q⟩:=h
 refine⟨_,#[Zg,#[ZZ,#[Zn,Zbf,#[Zk,(ZaR K),(by rfl),T.b.n_len,Qq,#[Za,‹0›,#[Zc]]],#[Zi],(Zs _)],#[Zj,#[Zm,(@Zkq _ _ _ _ _ _ _ #[Zk,(Zmi K),(by rfl),T.b.n_isinstance,boot_isinstance,#[Za,‹1›,#[Za,#[Zhq,T.b.n_list,boot_list],#[Zc]]]] (@ZkD _ _ _ _ _ (@ZeU _ _ _ _ _ _ _ _ Zbf #[Zk,(ZaR K),(by rfl),T.b.n_len,Qq,#[Za,‹1›,#[Zc]]] #[Zi] (Zs _))))]],#[ZD]],#[Zj,#[Zm,(@Zkq _ _ _ _ _ _ _ #[ZB,f_is_run,hr,#[Za,‹0›,#[Za,‹1›,#[Zc]]],(by rfl)] (@ZkD _ _ _ _ _ (@ZeU _ _ _ _ _ _ _ _ Zbf #[Zk,(ZaR K),(by rfl),T.b.n_len,Qq,#[Za,‹1›,#[Zc]]] #[Zk,(ZaR K),(by rfl),T.b.n_len,Qq,#[Za,‹0›,#[Zc]]] (Zs _))))]]],?_⟩
 have hnl:ns.length=ss.length:=by rw[hpm.length_eq,ZR]
 refine⟨_,rfl,a,_,rfl,.inl (SqL.of ha),rfl,_,rfl,ZaX (fun d=>?_) (fun d=>?_)⟩
 ·have h0:ss.length=0:=by
   have:=V.int.inj (of_decide_eq_true d)
   rw[Qa]at this
   clear q h60;omega
  refine⟨_,rfl,_, "list",_,_,rfl,.lst ht,Zhk K,_,rfl,ZgW ⟨_,rfl,t,_,rfl,.inl (SqL.of ht),rfl,?_⟩⟩
  show Q (V.bl (decide (V.int (((ns.map V.int).length:Nat):Int)=V.int 0))) H
  rw[decide_eq_true (by rw[Qa,hnl,h0];rfl)]
  exact q H (ZC.refl _)
 ·have h0:ss.length≠0:=fun z=>d (decide_eq_true (by rw[Qa,z];rfl))
  refine⟨_,rfl,_,rfl,xw4 a t ss ns ⟨rfl,SqL.of ha,ht,by omega,fun n hn=>?_,fun _ H1 s1=>?_,fun hno=>?_⟩⟩
  ·have:=hpm.mem_iff.mp hn
   unfold Zx at this
   obtain⟨m,hm,rfl⟩:=Qw.mp this
   have:=QU.mp hm
   clear h0 d q h60 hnl;omega
  ·refine⟨_,rfl,ZgW ⟨_,rfl,t,_,rfl,.inl (SqL.of (s1 _ _ ht)),_,rfl,a,_,rfl,.inl (SqL.of (s1 _ _ ha)),rfl,?_⟩⟩
   show Q (V.bl (decide (V.int (((ns.map V.int).length:Nat):Int)=V.int (((ss.map V.str).length:Nat):Int)))) H1
   rw[decide_eq_true (by rw[Qa,Qa,hnl])]
   exact q H1 s1
  ·exact absurd ⟨fun z=>h0 (by rw[← hnl,z];rfl),Zp0 hlex⟩ hno
theorem Zh7{n:Nat}{v:Int}(h:v∈Zx 0 n):0≤v∧v<(n:Nat):=by
 unfold Zx at h
 obtain⟨m,hm,rfl⟩:=Qw.mp h
 have:=QU.mp hm
 omega
theorem Zky{d o:List Int}(h:d.Sublist o):o.Nodup→(o.filter fun n=>decide (n∈d))=d:=by
 induction h with
 | slnil=>intro _;rfl
 | @cons l1 l2 a h ih =>
  intro nd
  obtain⟨n1,n2⟩:=QY.mp nd
  rw[List.filter_cons,if_neg (by simpa using fun z=>n1 (h.subset z))]
  exact ih n2
 | @cons_cons l1 l2 a h ih =>
  intro nd
  obtain⟨n1,n2⟩:=QY.mp nd
  rw[List.filter_cons,if_pos (by simp)]
  have e:(l2.filter fun n=>decide (n∈a::l1))=l2.filter fun n=>decide (n∈l1):=List.filter_congr fun n hn=>by
   have:n≠a:=fun z=>n1 (z ▸ hn)
   simp[this]
  rw[e,ih n2]
theorem Zk8{ss:List Str}{R:List (List Int)}(h:Zma ss R){t:PT}(lv:(tLv t).Perm (Zx 0 R.length)) :
  wtR R (tLv t)=ss.length∧∀out,ZcD ss R t out→out.Perm (Zx 0 ss.length)∧(∀d∈R,d.Sublist out)∧sortedS (ZaS ss out)=true:=by
 have pr:(lvR R (tLv t)).Perm R:=by
  have:=lv.map (fun i:Int=>R.getD i.toNat [])
  have e:(Zx 0 R.length).map (fun i:Int=>R.getD i.toNat [])=R:=Zdl R
  rw[e]at this
  exact this
 have e1:wtR R (tLv t)=((lvR R (tLv t)).map List.length).sum:=by unfold wtR lvR;rw[QB];rfl
 refine⟨?_,fun out ho=>?_⟩
 ·rw[e1,(pr.map List.length).sum_nat,← ZeP,h.pm.length_eq,ZR]
 ·obtain⟨a1,a2⟩:=ho.any
  exact⟨a1.trans (pr.flatten.trans h.pm),fun d hd=>a2 d (pr.mem_iff.mpr hd),(ho.ok h.rg).1.2⟩
theorem ZmH(n:Int)(d:List Int):inV (V.int n) (d.map V.int)=decide (n∈d):=by
 unfold inV
 rw[List.any_map]
 induction d with
 | nil=>rfl
 | cons a r ih =>
  rw[Qay,ih]
  by_cases z:a=n
  ·subst z
   simp[eqV]
  ·have z':¬ n=a:=fun e=>z e.symm
   simp[eqV,z,z']
noncomputable def ZmF(K:PySem.W.Frag):Sp:=fun vs H Q _=>∃ (a r:Addr) (ss:List Str) (ls:List Addr) (R:List (List Int)) (x:V) (t:PT),vs=[.ref a,.ref r,x]∧Zfi H a r ss ls R∧Zma ss R∧R.length≤60∧TV H x t∧tOk R.length t∧tPl 60 t∧(tLv t).Perm (Zx 0 R.length)∧tDp t<61∧∀H',ZC H H'→Q (.bl true) H'
theorem Zp3(T:Zaf K mg cRow cMerge)(f_merged_by:Df P w K mg base (61+17) "merged_by" ["things", "runs", "tree"] (ZpN 61)):Df P w K mg base 79 "_law_any_right" ["_law_things_here", "_law_lists", "_law_tree_here"] (ZmF K):=by
 refine T.t_l_any_right.df Zcs (fun vs H Q E h=>?_) (fun cdv f A outer s H vs Q E hr h=>?_)
 ·obtain⟨a,r,ss,ls,R,x,t,rfl,_⟩:=h
  rfl
 obtain⟨a,r,ss,ls,R,x,t,rfl,I,nr,hR60,hx,ok,pl,lv,dp,q⟩:=h
 refine⟨_,#[Zg,#[Zy,3,Zcs.nd,(Or.inr rfl),#[ZB,f_merged_by,hr,#[Za,#[pv,0,(Or.inr (Or.inl rfl))],#[Za,‹1›,#[Za,‹2›,#[Zc]]]],(by rfl)]],#[Zg,#[Zcy,4,Zcs.nd,Zlg,#[iL,K,#[pv,3,(Or.inr (Or.inl rfl))]],(fun _ _ _ _=>#[cgL,5,Zlg]),(fun _ _ _ _=>(@Zaw _)),(fun _ _ _ _=>#[Zz,(ixL K),#[cvC,0,Zlg],#[cwL,5,Zlg]])],#[Zg,#[ZZ,(@PW.pt _ _ _ #[Zf2,#[Zn,(@neD _ K _ hr (by rfl)),#[Zk,(Zty K),(by rfl),T.b.n_sorted,boot_sorted,#[Za,#[pv,3,(Or.inr (Or.inl rfl))],#[Zc]]],#[Z4,Znb,T.b.n_list,boot_list,#[Za,#[Z4,Zq6,T.b.n_range,boot_range,#[Za,#[Zk,(ZaR K),(by rfl),T.b.n_len,Qq,#[Za,#[pv,0,(Or.inr (Or.inl rfl))],#[Zc]]],#[Zc]]],#[Zc]]],(Zs _)],(@Zfl _ _ _ _ #[Zn,(@neD _ K _ hr (by rfl)),‹4›,#[Zk,(Znm K),(by rfl),T.b.n_sorted,boot_sorted,#[Za,‹4›,#[Zc]]],(Zs _)])]),#[Zj,#[Zm,#[Zdo]]],#[ZD]],#[Zj,#[Zm,#[Zk,(Zs6 K),(by rfl),T.b.n_all,boot_all,#[Za,#[Zav,ZkN,#[iL,K,‹1›],(fun _ _ _ _=>(@cgC _ _ _ _ _ _ _ _ _ _ _ 5 ZkN rfl (by ac_rfl) (by rfl))),(fun _ _ _ _=>(@Zaw _)),(fun _ _ _ _=>(@ZeU _ _ _ _ _ _ _ _ (@eqD _ K _ hr (by rfl)) #[Zav,ZjA,#[iL,K,#[cvC,3,ZkN]],(fun _ _ _ _=>#[cgL,6,ZjA]),(fun _ _ _ _=>(@Zo1 _ _ _ #[Zn,(inQ K),#[cwL,6,ZjA],#[cvC,5,ZjA],(by with_unfolding_all rfl)])),(fun _ _ _ _=>#[cwL,6,ZjA])] (@cwC _ _ _ _ _ _ _ _ _ _ _ 5 ZkN rfl (by ac_rfl) (by rfl) (by decide) (by decide)) (Zs _)))],#[Zc]]]]]]]],?_⟩
 have h60:=I.s60
 obtain⟨ew,hany⟩:=Zk8 nr lv
 refine⟨_,rfl,_,rfl,_,rfl,xw7 a r ss ls R x t ⟨rfl,I,hx,ok,pl,by omega,dp,fun b out H1 hb0 hb hput s1=>?_⟩⟩
 obtain⟨op,osub,osrt⟩:=hany out hput
 have hol:out.length=ss.length:=by rw[op.length_eq,ZR]
 have hon:∀n∈out,0≤n∧n<ss.length:=fun n hn=>Zh7 (op.mem_iff.mp hn)
 have ond:out.Nodup:=op.nodup_iff.mpr (Zkc _)
 have ha1:=s1 _ _ I.th
 refine⟨_,rfl,b,rfl,⟨_,SqL.of hb⟩,fun D hD=>?_⟩
 refine Zbd (K:=K) (a:=b) (xs:=out.map V.int) (fun j ys σ H5=>(∃v:Option V,σ=[some (.ref a),some (.ref r),some x,some (.ref b),none,v])∧ys=((ZaS ss out).take j).map V.str∧j≤out.length∧H5 D=some (.lst ys)∧ZC H1 H5) ?_ (fun _ _ _ _ h=>SqL.of (h.2.2.2.2 _ _ hb)) ?_ ?_
 ·exact⟨⟨none,rfl⟩,rfl,Qv _,Zb,Zh hD _⟩
 ·rintro j y ys σ H5 hy ⟨⟨v',rfl⟩,rfl,hj,hE5,s5⟩
  rw[Qi]at hy
  cases hn:out[j]? with
  | none=>rw[hn]at hy;cases hy
  | some nn =>
  rw[hn]at hy
  cases hy
  have hjl:j<out.length:=(Qc.mp hn).1
  obtain⟨n0,n1⟩:=hon nn (Qo hn)
  refine⟨_,rfl,_,rfl,xw4 a _ _ _ ⟨rfl,rfl,SqL.of (s5 _ _ ha1),Zfe n0 n1,hE5,(by rw[Qa,Qx,sizeLine_eq];omega),⟨_,rfl⟩,?_,hjl,Zb,fun c o hc=>?_⟩⟩
  ·unfold ZaS
   rw[QI,Qi,hn,Qf];rfl
  ·rw[Ze (Zd hc hD)];exact s5 c o hc
 rintro ys σ H5 ⟨⟨v',rfl⟩,rfl,_,hE5,s5⟩
 rw[Qa,Qy (by unfold ZaS;rw[Qa];exact Qg _)]at hE5
 have hkl:(ZaS ss out).length=ss.length:=by unfold ZaS;rw[Qa,hol]
 have hkz:∀s∈ZaS ss out,AZ s:=fun s hs=>by
  obtain⟨n,hn,rfl⟩:=Qw.mp hs
  obtain⟨n0,n1⟩:=hon n hn
  have:ss.getD n.toNat ""∈ss:=by
   rw[Qk,Qb (by clear hon osub hany h60 q dp hR60 hkl hol ew;omega)]
   exact QT _
  exact(I.key _ this).2
 refine⟨_,rfl,b,out,rfl,SqL.of (s5 _ _ hb),by clear hkz hon osub hany q dp hR60 hkl ew;omega,fun l ns hl hp hs=>?_⟩
 have e1:ns=Zx 0 ss.length:=Zkz hs ((ZeJ _).imp fun h=>by omega) (hp.trans op)
 subst e1
 generalize hG1:upd H5 l (.lst ((Zx 0 ss.length).map V.int))=G1
 have sg1:ZC H5 G1:=hG1 ▸ Zh hl _
 have hl1:G1 l=some (.lst ((Zx 0 ss.length).map V.int)):=by rw[← hG1];exact Zb
 clear hG1
 refine⟨_,rfl,a,_,rfl,.inl (SqL.of (sg1 _ _ (s5 _ _ ha1))),_,rfl,fun rg hrg=>⟨rg,0,_,rfl,Zb,by omega,by omega,by rw[Qa];clear hkz hon osub hany q dp hR60 hkl hol ew h60;omega,by rw[Qa];clear hkz hon osub hany q dp hR60 hkl hol ew;omega,by rw[Qa];clear hkz hon osub hany q dp hR60 hkl hol ew;omega,fun l2 hl2=>?_⟩⟩
 have el:((((ss.map V.str).length:Nat):Int)-0).toNat=ss.length:=by rw[Qa];clear hkz hon osub hany q dp hR60 hkl hol ew h60;omega
 rw[el]
 have sg2:=(Zh hrg (.rng 0 (((ss.map V.str).length:Nat):Int))).trans (Zh hl2 (.lst ((Zx 0 ss.length).map V.int)))
 generalize hG2:upd (upd G1 rg (.rng 0 (((ss.map V.str).length:Nat):Int))) l2 (.lst ((Zx 0 ss.length).map V.int))=G2 at sg2 ⊢
 have hl22:G2 l2=some (.lst ((Zx 0 ss.length).map V.int)):=by rw[← hG2];exact Zb
 clear hG2 el
 refine⟨.list ((Zx 0 ss.length).map PyData.int),.list ((Zx 0 ss.length).map PyData.int),.lst (SqL.of (sg2 _ _ hl1)) (ZbG _),.lst (SqL.of hl22) (ZbG _),Zan _,Zan _,_,rfl,?_⟩
 rw[ZcY]
 refine Zcl ?_
 have s15:ZC H1 G2:=(s5.trans sg1).trans sg2
 have hD2:=sg2 _ _ (sg1 _ _ hE5)
 refine⟨_,rfl,_,rfl,D,ZaS ss out,rfl,SqL.of hD2,by clear hkz hon osub hany q dp hR60 hol ew;omega,fun l3 ks' hl3 hp3 hs3=>?_⟩
 have e3:ks'=ZaS ss out:=Zpf hs3 osrt hp3
 subst e3
 generalize hG3:upd G2 l3 (.lst ((ZaS ss out).map V.str))=G3
 have sg3:ZC G2 G3:=hG3 ▸ Zh hl3 _
 have hl33:G3 l3=some (.lst ((ZaS ss out).map V.str)):=by rw[← hG3];exact Zb
 clear hG3
 refine⟨.list ((ZaS ss out).map PyData.str),.list ((ZaS ss out).map PyData.str),.lst (SqL.of (sg3 _ _ hD2)) (ZfJ _),.lst (SqL.of hl33) (ZfJ _),ZdQ _ hkz,ZdQ _ hkz,_,rfl,?_⟩
 rw[Zmy]
 refine Zcl ?_
 have s13:ZC H1 G3:=s15.trans sg3
 have hI3:=I.same (s1.trans s13)
 have hb3:=s13 _ _ hb
 refine⟨_,rfl,r,rfl,⟨_,SqL.of hI3.ru⟩,fun E0 hE0=>?_⟩
 refine Zbd (K:=K) (a:=r) (xs:=ls.map V.ref) (fun i zs σ H6=>(∃v:Option V,σ=[some (.ref a),some (.ref r),some x,some (.ref b),some (.ref D),v])∧zs=(List.replicate i true).map V.bl∧i≤ls.length∧H6 E0=some (.lst zs)∧ZC G3 H6) ?_ (fun _ _ _ _ h=>SqL.of (h.2.2.2.2 _ _ hI3.ru)) ?_ ?_
 ·exact⟨⟨none,rfl⟩,rfl,Qv _,Zb,Zh hE0 _⟩
 ·rintro i y zs σ H6 hy ⟨⟨v',rfl⟩,rfl,hi,hE6,s6⟩
  rw[Qi]at hy
  cases hn:ls[i]? with
  | none=>rw[hn]at hy;cases hy
  | some li =>
  rw[hn]at hy
  cases hy
  obtain⟨d,hd,hli⟩:=hI3.rd.at hn
  have hil:i<ls.length:=(Qc.mp hn).1
  have hdR:d∈R:=Qo hd
  have hdl:d.length≤60:=by
   have:=(osub d hdR).length_le
   clear hil hi hkz hon osub hany q dp hR60 hkl ew;omega
  have hb6:=s6 _ _ hb3
  have hli6:=s6 _ _ hli
  refine⟨_,rfl,b,rfl,⟨_,SqL.of hb6⟩,fun F hF=>?_⟩
  refine Zkg (K:=K) (a:=b) (xs:=out.map V.int) (fun j ys σ H7=>(∃v:Option V,σ=[some (.ref a),some (.ref r),some x,some (.ref b),some (.ref D),some (.ref li),v])∧ys=((out.take j).filter fun n=>decide (n∈d)).map V.int∧j≤out.length∧H7 F=some (.lst ys)∧ZC H6 H7) ?_ (fun _ _ _ _ h=>SqL.of (h.2.2.2.2 _ _ hb6)) ?_ ?_
  ·exact⟨⟨none,rfl⟩,rfl,Qv _,Zb,Zh hF _⟩
  ·rintro j y ys σ H7 hy ⟨⟨v2,rfl⟩,rfl,hj,hF7,s7⟩
   rw[Qi]at hy
   cases ho:out[j]? with
   | none=>rw[ho]at hy;cases hy
   | some nn =>
   rw[ho]at hy
   cases hy
   have hjl:j<out.length:=(Qc.mp ho).1
   refine⟨_,rfl,_,rfl,li,d.map V.int,rfl,.inl (SqL.of (s7 _ _ hli6)),rfl,by simp[Zeo],_,rfl,?_⟩
   show if inV (V.int nn) (d.map V.int)=true then _ else _
   rw[ZmH]
   have etk:(out.take (j+1)).filter (fun n=>decide (n∈d))=(out.take j).filter (fun n=>decide (n∈d))++(if nn∈d then [nn] else []):=by
    rw[QI,ho,List.filter_append]
    by_cases z:nn∈d<;>simp[z]
   by_cases z:nn∈d
   ·rw[if_pos (decide_eq_true z)]
    rw[if_pos z]at etk
    have hfl:((out.take j).filter fun n=>decide (n∈d)).length≤j:=QJ (List.length_filter_le _ _) (by rw[Qx];clear hj hdl hil hi hkz hon osub hany h60 q dp hR60 hjl hkl hol ew;omega)
    refine⟨_,rfl,hF7,(by rw[Qa,sizeLine_eq];clear hj hdl hil hi hkz hon osub hany q dp hR60 hkl ew;omega),⟨_,rfl⟩,?_,hjl,Zb,fun c o hc=>?_⟩
    ·rw[etk,Qf];rfl
    ·rw[Ze (Zd hc hF)];exact s7 c o hc
   ·rw[if_neg (by rw[decide_eq_false z];decide)]
    rw[if_neg z,QL]at etk
    exact⟨⟨_,rfl⟩,by rw[etk],hjl,hF7,s7⟩
  rintro ys σ H7 ⟨⟨v2,rfl⟩,rfl,_,hF7,s7⟩
  rw[Qa,Qy (Qg _),Zky (osub d hdR) ond]at hF7
  refine⟨_,rfl,.list (d.map PyData.int),.list (d.map PyData.int),.lst (SqL.of hF7) (ZbG _),.lst (SqL.of (s7 _ _ hli6)) (ZbG _),Zan _,Zan _,s7 _ _ hE6,(by rw[Qa,List.length_replicate,sizeLine_eq];have:=hI3.rd.len;omega),⟨_,rfl⟩,?_,hil,Zb,fun c o hc=>?_⟩
  ·rw[ZcY,List.replicate_succ',Qf];rfl
  ·rw[Ze (Zd hc hE0)];exact s7 _ _ (s6 c o hc)
 rintro zs σ H6 ⟨⟨v',rfl⟩,rfl,_,hE6,s6⟩
 refine⟨E0,List.replicate _ true,rfl,SqL.of hE6,?_⟩
 have eall:(List.replicate (ls.map V.ref).length true).all id=true:=by simp
 rw[eall]
 exact q _ ((s1.trans s13).trans s6)
theorem Zfi.but{H H':Hp}{p a r:Addr}{ss:List Str}{ls:List Addr}{R:List (List Int)}(h:Zfi H a r ss ls R)(B:But p H H')(na:a≠p)(nr:r≠p)(nl:p ∉ ls):Zfi H' a r ss ls R :=
 ⟨B _ _ h.th na,h.s60,h.key,B _ _ h.ru nr,Rd.mono (fun x hx o ho=>B _ _ ho fun z=>nl (z ▸ hx)) h.rd,h.rg⟩
theorem TV.but{H H':Hp}{p:Addr}{c:Int}{x:V}{t:PT}(h:TV H x t)(L:ZaF H p c)(B:But p H H'):TV H' x t:=h.mono fun a xs ha=>B _ _ ha fun z=>by
 obtain⟨_,_,hp,_⟩:=L
 rw[z,hp]at ha
 cases ha
theorem Zgi:∀ {l:List Int} {k:Nat} (h:k<l.length),(l[k]::l.eraseIdx k).Perm l
 | a::r,0,_=>.refl _
 | a::r,k+1,h=>by
  have h':k<r.length:=by simpa using h
  show (r[k]::a::r.eraseIdx k).Perm (a::r)
  exact(List.Perm.swap _ _ _).trans ((Zgi h').cons a)
theorem ZcZ:∀ (l:List Int) (k:Nat),(l.map V.int).eraseIdx k=(l.eraseIdx k).map V.int
 | [],_=>rfl
 | a::r,0=>rfl
 | a::r,k+1=>by
  show V.int a::(r.map V.int).eraseIdx k=V.int a::(r.eraseIdx k).map V.int
  rw[ZcZ r k]
theorem Zps(ks:List Int):(Zx 0 ks.length).map (fun k=>ks.getD k.toNat 0)=ks:=by
 refine Qai fun i=>?_
 unfold Zx
 rw[Qi,Qi]
 by_cases h:i<ks.length
 ·rw[Qak h,Qb h]
  simp[List.getD_eq_getElem?_getD,List.getElem?_eq_getElem h]
 ·rw[QH (by rw[Qap];omega),QH (by omega)]
  rfl
theorem ZfA(ss:List Str)(os:List (List Int)):∀ks:List Int,Zao ss os (ks.map PT.leaf) (lvR os ks)
 | []=>.nil
 | k::r=>.cons .leaf (ZfA ss os r)
theorem Zrt(os:List (List Int)):wtR os (Zx 0 os.length)=(os.map List.length).sum:=by
 have e:wtR os (Zx 0 os.length)=((lvR os (Zx 0 os.length)).map List.length).sum:=by unfold wtR lvR;rw[QB];rfl
 rw[e,Zdl]
noncomputable def ZsR(K:PySem.W.Frag):Sp:=fun vs H Q _=>∃ (p a r du:Addr) (c:Int) (ss:List Str) (ls:List Addr) (R:List (List Int)) (due:List Int),vs=[.ref p,.ref a,.ref r,.ref du]∧ZaF H p c∧c<2 ^ 38∧Zfi H a r ss ls R∧a≠p∧r≠p∧du≠p∧p ∉ ls∧Zma ss R∧1≤R.length∧R.length≤12∧H du=some (.lst (due.map V.int))∧ZeR ss due∧due.Perm (Zx 0 ss.length) ∧
 ∀ (c':Int) (H':Hp),ZaF H' p c'→c≤c'→c'≤c+150→But p H H'→Q (.bl true) H'
theorem Zq3(T:Zaf K mg cRow cMerge)(f_l_pick:Df P w K mg base 2 "_law_pick" ["_law_left_here", "_law_many"] ZdT)(f_l_tree:Df P w K mg base 3 "_law_tree" ["_law_left_here", "_law_begin", "_law_end", "_law_ways"] ZsW)(f_merged_by:Df P w K mg base (61+17) "merged_by" ["things", "runs", "tree"] (ZpN 61))(f_l_called:Df P w K mg base (61+1) "_law_called" ["_law_tree_here", "_law_names"] (Zqv 61))(f_l_any_right:Df P w K mg base 79 "_law_any_right" ["_law_things_here", "_law_lists", "_law_tree_here"] (ZmF K)):Df P w K mg base 80 "_law_trees_right" ["_law_left_here", "_law_things_here", "_law_lists", "_law_due"] (ZsR K):=by
 refine T.t_l_trees_right.df Zat (fun vs H Q E h=>?_) (fun cdv f A outer s H vs Q E hr h=>?_)
 ·obtain⟨p,a,r,du,c,ss,ls,R,due,rfl,_⟩:=h
  rfl
 obtain⟨p,a,r,du,c,ss,ls,R,due,rfl,hL,c38,I,nap,nrp,ndp,npl,nr,R1,R12,hdu,dlex,dpm,q⟩:=h
 refine⟨_,#[Zg,#[Zy,4,Zat.nd,(Or.inl rfl),#[ZF,Zac,#[Zi],#[ZB,f_l_pick,hr,#[Za,#[pv,0,(Or.inr (Or.inl rfl))],#[Za,#[Zi],#[Zc]]],(by rfl)]]],#[Zg,#[Zy,5,Zat.nd,(Or.inl rfl),#[ZB,f_l_tree,hr,#[Za,#[pv,0,(Or.inr (Or.inl rfl))],#[Za,#[Zi],#[Za,#[Zk,(ZaR K),(by rfl),T.b.n_len,Qq,#[Za,#[pv,2,(Or.inr (Or.inl rfl))],#[Zc]]],#[Za,‹4›,#[Zc]]]]],(by rfl)]],#[Zg,#[ZZ,#[Zn,(@neD _ K _ hr (by rfl)),#[ZB,f_merged_by,hr,#[Za,#[pv,1,(Or.inr (Or.inl rfl))],#[Za,#[pv,2,(Or.inr (Or.inl rfl))],#[Za,‹5›,#[Zc]]]],(by rfl)],‹3›,(Zs _)],#[Zj,#[Zm,#[Zdo]]],#[ZD]],#[Zg,#[Zy,6,Zat.nd,(Or.inr rfl),#[Z4,Znb,T.b.n_list,boot_list,#[Za,#[Z4,Zq6,T.b.n_range,boot_range,#[Za,#[Zk,(ZaR K),(by rfl),T.b.n_len,Qq,#[Za,#[pv,2,(Or.inr (Or.inl rfl))],#[Zc]]],#[Zc]]],#[Zc]]]],#[Zg,#[Zy,6,Zat.nd,(Or.inr rfl),#[Zav,Zgs,#[Zbu,T.b.n_range,#[Za,#[Zk,(ZaR K),(by rfl),T.b.n_len,Qq,#[Za,#[pv,2,(Or.inr (Or.inl rfl))],#[Zc]]],#[Zc]]],(fun _ _ _ _=>#[cgL,8,Zgs]),(fun _ _ _ _=>(@Zaw _)),(fun _ _ _ _=>(@ZqB K _ _ _ _ _ _ _ _ _ _ _ _ QG PySem.F.slot_list_pop PySem.F.type_list_pop Zng #[cvC,6,Zgs] #[Za,#[ZB,f_l_pick,hr,#[Za,#[cvC,0,Zgs],#[Za,#[Zk,(ZaR K),(ZaY Zgs rfl (by ac_rfl)),T.b.n_len,Qq,#[Za,#[cvC,6,Zgs],#[Zc]]],#[Zc]]],(ZaY Zgs rfl (by ac_rfl))],#[Zc]] (by rfl) (by rfl) (by rfl) (by rfl) (by rfl) (by rfl)))]],#[Zg,#[ZZ,(@ZgL _ _ _ _ #[Zet,#[ZB,f_l_any_right,hr,#[Za,#[pv,1,(Or.inr (Or.inl rfl))],#[Za,#[pv,2,(Or.inr (Or.inl rfl))],#[Za,#[ZB,f_l_called,hr,#[Za,‹5›,#[Za,#[pv,6,(Or.inr (Or.inl rfl))],#[Zc]]],(by rfl)],#[Zc]]]],(by rfl)]]),#[Zj,#[Zm,#[Zdo]]],#[ZD]],#[Zg,#[ZZ,#[Zet,#[Zk,(Zmi K),(by rfl),T.b.n_isinstance,boot_isinstance,#[Za,‹5›,#[Za,#[Zhq,T.b.n_tuple,boot_tuple],#[Zc]]]]],#[Zg,#[Zcy,7,Zat.nd,ZhH,(@iT _ K _ _ _ ‹5› (by rfl)),(fun _ _ _ _=>#[cgL,8,ZhH]),(fun _ _ _ _=>(@Zaw _)),(fun _ _ _ _=>#[ZB,f_merged_by,hr,#[Za,#[cvC,1,ZhH],#[Za,#[cvC,2,ZhH],#[Za,#[cwL,8,ZhH],#[Zc]]]],(ZaY ZhH rfl (by ac_rfl))])],#[Zj,#[Zm,(@ZeU _ _ _ _ _ _ _ _ (@eqD _ K _ hr (by rfl)) #[ZB,f_merged_by,hr,#[Za,#[pv,1,(Or.inr (Or.inl rfl))],#[Za,‹7›,#[Za,#[Z4,Ztn,T.b.n_tuple,boot_tuple,#[Za,#[Z4,Zq6,T.b.n_range,boot_range,#[Za,#[Zk,(ZaR K),(by rfl),T.b.n_len,Qq,#[Za,‹7›,#[Zc]]],#[Zc]]],#[Zc]]],#[Zc]]]],(by rfl)] ‹3› (Zs _))]]],#[ZD]],#[Zj,#[Zm,#[Zdo]]]]]]]]]],?_⟩
 have c0:=hL.ge
 have h60:=I.s60
 have hln:(((ls.map V.ref).length:Nat):Int)=(R.length:Int):=by rw[Qa,I.rd.len]
 refine⟨_,rfl,p,c,5,rfl,hL,by omega,by decide,by decide,fun wv H1 w0 w1 L1 B1=>⟨_,_,rfl,rfl,?_⟩⟩
 have I1:=I.but B1 nap nrp npl
 refine⟨_,rfl,_,rfl,r,_,rfl,.inl (SqL.of I1.ru),_,rfl,p,c+1,2+wv,R.length,(by rw[hln];rfl),L1,by omega,by omega,by omega,R1,by omega,fun x t c2 H2 hx tok tgd tpl tlv tlf L2 b1 b2 B2=>?_⟩
 have I2:=I1.but B2 nap nrp npl
 have hdu2:=B2 _ _ (B1 _ _ hdu ndp) ndp
 have lvp:(tLv t).Perm (Zx 0 R.length):=by rw[tlv]
 obtain⟨ew,hany⟩:=Zk8 nr lvp
 have tdp:tDp t+1≤R.length:=by
  have z:=Zit t tpl
  rw[tlv,ZR]at z
  exact z
 have hone:∀out,ZcD ss R t out→out=due:=fun out ho=>by
  have hp:=ho.srt nr.lex (by rw[tlv,Zdl];exact nr.ap)
  exact Zk5 hp.1 dlex ((hany out ho).1.trans dpm.symm)
 refine⟨_,rfl,_,rfl,_,rfl,xw7 a r ss ls R x t ⟨rfl,I2,hx,tok,tpl,by omega,by clear hone hany ew b2 b1 w1 w0 h60 c0 q npl ndp nrp nap c38 tlf hln R1;omega,fun b out H3 hb0 hb hput s3=>?_⟩⟩
 have eo:=hone out hput
 subst eo
 refine⟨_,rfl,.list (out.map PyData.int),.list (out.map PyData.int),.lst (SqL.of hb) (ZbG _),.lst (SqL.of (s3 _ _ hdu2)) (ZbG _),Zan _,Zan _,_,rfl,?_⟩
 rw[ZcY]
 refine Zcl ?_
 have I3:=I2.same s3
 refine⟨_,rfl,r,_,rfl,.inl (SqL.of I3.ru),_,rfl,fun rg hrg=>⟨rg,0,_,rfl,Zb,by omega,by omega,by rw[hln];clear hone tdp hany ew b2 b1 w1 w0 h60 c0 q npl ndp nrp nap c38 tlf hln R12 R1;omega,by rw[hln];clear hone tdp hany ew b2 b1 w1 w0 h60 c0 q npl ndp nrp nap c38 tlf hln R1;omega,by rw[hln];clear hone tdp hany ew b2 b1 w1 w0 h60 c0 q npl ndp nrp nap c38 tlf hln R1;omega,fun nm hnm=>?_⟩⟩
 have el:((((ls.map V.ref).length:Nat):Int)-0).toNat=R.length:=by rw[hln];omega
 rw[el]
 have s4:=(Zh hrg (.rng 0 (((ls.map V.ref).length:Nat):Int))).trans (Zh hnm (.lst ((Zx 0 R.length).map V.int)))
 generalize hG4:upd (upd H3 rg (.rng 0 (((ls.map V.ref).length:Nat):Int))) nm (.lst ((Zx 0 R.length).map V.int))=H4 at s4 ⊢
 have hn4:H4 nm=some (.lst ((Zx 0 R.length).map V.int)):=by rw[← hG4];exact Zb
 clear hG4 el
 have I4:=I3.same s4
 have L4:=(L2.same s3).same s4
 have hnH3:H3 nm=none:=(Zh hrg (.rng 0 (((ls.map V.ref).length:Nat):Int))).free hnm
 have npn:p≠nm:=by obtain⟨o,ho⟩:=(L2.same s3).here;exact Zd ho hnH3
 refine⟨_,rfl,r,_,rfl,.inl (SqL.of I4.ru),_,rfl,by rw[hln];clear npn hone tdp hany ew b2 b1 w1 w0 h60 c0 q npl ndp nrp nap c38 tlf hln R12 R1;omega,by rw[hln];clear npn hone tdp hany ew b2 b1 w1 w0 h60 c0 q npl ndp nrp nap c38 tlf hln R1;omega,fun D hD=>?_⟩
 rw[show ((((ls.map V.ref).length:Nat):Int)).toNat=R.length by rw[hln];omega]
 have nDn:D≠nm:=fun z=>by rw[z,hn4]at hD;cases hD
 have nDp:p≠D:=by obtain⟨o,ho⟩:=L4.here;exact Zd ho hD
 have hD3:H3 D=none:=s4.free hD
 refine Zcm (fun i ys σ H5=>∃ (ks ns:List Int) (v:Option V) (c3:Int),σ=[some (.ref p),some (.ref a),some (.ref r),some (.ref du),some (.int (2+wv)),some x,some (.ref nm),none,v]∧ys=ks.map V.int∧ks.length=i∧i+ns.length=R.length∧(ks++ns).Perm (Zx 0 R.length)∧H5 nm=some (.lst (ns.map V.int))∧H5 D=some (.lst ys)∧ZaF H5 p c3∧c2≤c3∧c3≤c2+i∧But p H3 H5) ?_ ?_ ?_
 ·refine⟨[],Zx 0 R.length,none,c2,rfl,rfl,rfl,(by rw[ZR];omega),.refl _,(by rw[Ze nDn.symm];exact hn4),Zb,L4.new hD,by omega,by omega,fun b' o hb' _=>?_⟩
  rw[Ze (Zd hb' hD3)];exact s4 _ _ hb'
 ·rintro i ys σ H5 hi ⟨ks,ns,v,c3,rfl,rfl,hkl,hnl,hpm,hn5,hD5,L5,d1,d2,B5⟩
  have hnl':(((ns.map V.int).length:Nat):Int)=(ns.length:Int):=by rw[Qa]
  refine⟨_,rfl,.inl ⟨rfl,_,SqL.of hn5⟩,_,rfl,_,rfl,nm,_,rfl,.inl (SqL.of hn5),p,c3,_,rfl,L5,by clear d1 nDp nDn npn hone tdp hany ew w1 w0 h60 q npl ndp nrp nap hnl' hnl hkl b1 tlf hln c0 R1;omega,by rw[hnl'];clear d2 d1 nDp nDn npn hone tdp hany ew b2 b1 w1 w0 h60 c0 q R12 R1 npl ndp nrp nap c38 hnl' hkl tlf hln;omega,by rw[hnl'];clear hi nDp nDn npn hone tdp hany ew b2 b1 w1 w0 h60 c0 q npl ndp nrp nap c38 hnl' d2 d1 hkl tlf hln R1;omega,fun d H6 e0 e1 L6 B6=>?_⟩
  rw[hnl']at e1
  have hdl:d.toNat<ns.length:=by clear e0 nDp nDn npn hone tdp hany ew b2 b1 w1 w0 h60 c0 q npl ndp nrp nap c38 hnl' d2 d1 hkl tlf hln R12 R1;omega
  have hn6:=B6 _ _ hn5 npn.symm
  refine⟨nm,_,d,d.toNat,.int (ns[d.toNat]'hdl),rfl,rfl,hn6,by omega,by clear hdl e0 nDp nDn npn hone tdp hany ew b2 b1 w1 w0 h60 c0 q npl ndp nrp nap c38 hnl' d2 d1 hkl hi tlf hln R1;omega,?_,?_,?_⟩
  ·rw[Qa];exact seqIndex_of e0 e1
  ·rw[Qi,Qb hdl];rfl
  refine⟨(by rw[Ze nDn];exact B6 _ _ hD5 nDp.symm),(by rw[Qa,sizeLine_eq];clear hdl e1 e0 nDp nDn npn hone tdp hany ew b2 b1 w1 w0 h60 c0 q npl ndp nrp nap c38 hnl' d2 d1 hnl tlf hln R1;omega),ks++[ns[d.toNat]'hdl],ns.eraseIdx d.toNat,_,c3+1,rfl,(by rw[Qf];rfl),(by rw[Qe,hkl];rfl),?_,?_,?_,Zb,(L6.at npn).at nDp,by omega,by omega,fun b' o hb' nb=>?_⟩
  ·rw[List.length_eraseIdx,if_pos hdl];clear hdl e1 e0 d2 d1 nDp nDn npn hone tdp hany ew b2 b1 w1 w0 h60 c0 q R12 R1 npl ndp nrp nap c38 hnl' hkl tlf hln;omega
  ·refine List.Perm.trans ?_ hpm
   rw[Q6]
   exact(Zgi hdl).append_left ks
  ·rw[Ze nDn.symm,Zb,ZcZ]
  ·rw[Ze (Zd hb' hD3),Ze (Zd hb' hnH3)]
   exact B6 _ _ (B5 _ _ hb' nb) nb
 rintro ys σ H5 ⟨ks,ns,v,c3,rfl,rfl,hkl,hnl,hpm,hn5,hD5,L5,d1,d2,B5⟩
 have hns:ns=[]:=List.length_eq_zero_iff.mp (by omega)
 subst hns
 rw[QL]at hpm
 have I5:=I3.but B5 nap nrp npl
 have hx5:TV H5 x t:=(hx.mono (Zcj s3)).but (L2.same s3) B5
 have hkn:ks.length=R.length:=hkl
 have elv:tLv (Zen ks t)=ks:=by rw[Zk3,tlv,← hkn,Zps]
 refine⟨_,rfl,_,rfl,_,rfl,_,rfl,xw4 x D t ks ⟨rfl,hx5,hD5,by rw[hkn];exact tok,tpl,by clear hkn hnl d2 d1 nDp nDn npn hone hany ew b2 b1 w1 w0 h60 c0 q npl ndp nrp nap c38 hkl tlf hln R1;omega,fun y H6 hy s6=>?_⟩⟩
 refine⟨a,r,ss,ls,R,y,Zen ks t,rfl,I5.same s6,nr,by clear hkn hnl d2 d1 nDp nDn npn hone tdp hany ew b2 b1 w1 w0 h60 c0 q npl ndp nrp nap c38 hkl tlf hln R1;omega,hy,ZkQ (fun k hk=>Zh7 (hpm.mem_iff.mp hk)) t (by rw[hkn];exact tok),ZkO ks t tpl,by rw[elv];exact hpm,by rw[Zlc];clear hkn hnl d2 d1 nDp nDn npn hone hany ew b2 b1 w1 w0 h60 c0 q npl ndp nrp nap c38 hkl tlf hln R1;omega,fun H7 s7=>?_⟩
 refine⟨_,rfl,Zcl ?_⟩
 have s57:=s6.trans s7
 have I7:=I5.same s57
 have L7:=L5.same s57
 have B07:But p H H7:=(((B1.trans B2).trans (But.same s3)).trans B5).trans (But.same s57)
 have hx7:=hx5.mono (Zcj s57)
 have hdu7:=s57 _ _ (B5 _ _ (s3 _ _ hdu2) ndp)
 cases hx7 with
 | leaf k =>
  refine⟨_,rfl,_, "tuple",_,_,rfl,.int k,ZhZ K,_,rfl,Zcl ?_⟩
  exact q c3 H7 L7 (by omega) (by clear hone tdp hany ew hkn hnl d1 nDp nDn npn w1 w0 h60 c0 q npl ndp nrp nap c38 tlf hkl b1 hln R1;omega) B07
 | node htp hTs =>
  rename_i tp xs l
  refine⟨_,rfl,_, "tuple",_,_,rfl,.tup htp,ZhE K,_,rfl,ZgW ?_⟩
  have hxl:=hTs.len
  have hl60:l.length≤60:=tpl.2.1
  have hl1:=tpl.1
  have hpls:Zb3 60 l:=tpl.2.2
  have hoks:Zcv R.length l:=tok
  have hwts:wtR R (Zak l)=ss.length:=ew
  have hdps:Zb8 l+1+1≤R.length:=tdp
  refine⟨_,rfl,tp,rfl,⟨_,SqT.of htp⟩,fun W hW=>?_⟩
  refine Zgw (K:=K) (a:=tp) (xs:=xs) (fun i zs σ H8=>(∃v:Option V,σ=[some (.ref p),some (.ref a),some (.ref r),some (.ref du),some (.int (2+wv)),some (.ref tp),some (.ref D),none,v])∧(∃ (bs:List Addr) (os:List (List Int)),zs=bs.map V.ref∧Rd H8 bs os∧Zao ss R (l.take i) os∧W ∉ bs)∧i≤xs.length∧H8 W=some (.lst zs)∧ZC H7 H8) ?_ (fun _ _ _ _ h=>SqT.of (h.2.2.2.2 _ _ htp)) ?_ ?_
  ·exact⟨⟨none,rfl⟩,⟨[],[],rfl,True.intro,.nil,fun h=>by cases h⟩,Qv _,Zb,Zh hW _⟩
  ·rintro i x zs σ H8 hx ⟨⟨v,rfl⟩,⟨bs,os,rfl,hrd,hpt,hDb⟩,hi,hD8,s8⟩
   obtain⟨t,ht,hTV⟩:=hTs.at hx
   have hil:i<xs.length:=(Qc.mp hx).1
   have hbl:bs.length=i:=by rw[hrd.len,hpt.len,Qx];omega
   have w1:=ZoG R ht
   have w2:=ZfN _ _ _ ht
   refine⟨_,rfl,_,rfl,_,rfl,xw7 a r ss ls R x t ⟨rfl,I7.same s8,hTV.mono (Zcj s8),ZfK _ _ _ _ hoks ht,ZfR hpls ht,by omega,by clear w1 hbl hil hi hDb hwts hl1 hl60 hxl hone tdp hany ew hkn hnl d2 d1 nDp nDn npn b2 b1 w0 h60 c0 q npl ndp nrp nap c38 tlf hkl hln R1;omega,fun b out H9 hb0 hb hp s9=>?_⟩⟩
   have hD9:=s9 _ _ hD8
   have nbD:b≠W:=fun z=>by rw[z,hD8]at hb0;cases hb0
   refine⟨hD9,(by rw[Qa,hbl,sizeLine_eq];omega),⟨_,rfl⟩,⟨bs++[b],os++[out],by rw[Qf];rfl,?_,?_,?_⟩,hil,Zb,fun c o hc=>?_⟩
   ·refine Rd.app (Rd.mono (fun c hc o ho=>?_) hrd) ⟨by rw[Ze nbD];exact hb,True.intro⟩
    rw[Ze (fun z:c=W=>hDb (by rw[← z];exact hc))];exact s9 _ _ ho
   ·rw[QI,ht]
    exact hpt.app (.cons hp .nil)
   ·intro h
    rcases Qh.mp h with h|h
    ·exact hDb h
    ·exact nbD (Qd.mp h).symm
   ·rw[Ze (Zd hc hW)];exact s9 _ _ (s8 c o hc)
  rintro zs σ H8 ⟨⟨v,rfl⟩,⟨bs,os,rfl,hrd,hpt,_⟩,_,hD8,s8⟩
  rw[Qy (by omega)]at hpt
  obtain⟨hro,hso⟩:=Zao.ok I7.rg hpt
  have hos:os.length=l.length:=hpt.len
  have hbo:=hrd.len
  have hbl:(((bs.map V.ref).length:Nat):Int)=(os.length:Int):=by rw[Qa,hbo]
  refine⟨_,rfl,_,rfl,_,rfl,W,_,rfl,.inl (SqL.of hD8),_,rfl,fun rg2 hrg2=>⟨rg2,0,_,rfl,Zb,by omega,by omega,by rw[hbl];clear hso hro hdps hwts hone tdp hany ew tlf hkn hnl d2 d1 hkl nDp nDn npn b2 b1 w1 w0 hln h60 c0 q R12 R1 npl ndp nrp nap c38 hbl hbo hos hl1 hl60 hxl;omega,by rw[hbl];clear hso hro hdps hwts hone tdp hany ew tlf hkn hnl d2 d1 hkl nDp nDn npn b2 b1 w1 w0 hln h60 c0 q R12 R1 npl ndp nrp nap c38 hbl hbo hl1 hxl;omega,by rw[hbl];clear hso hro hdps hwts hone tdp hany ew tlf hkn hnl d2 d1 hkl nDp nDn npn b2 b1 w1 w0 hln h60 c0 q R12 R1 npl ndp nrp nap c38 hbl hbo hl1 hxl;omega,fun tl htl=>?_⟩⟩
  have el:((((bs.map V.ref).length:Nat):Int)-0).toNat=os.length:=by rw[hbl];clear hso hro hdps hwts hone tdp hany ew tlf hkn hnl d2 d1 hkl nDp nDn npn b2 b1 w1 w0 hln h60 c0 q R12 R1 npl ndp nrp nap c38 hbl hbo hos hl1 hl60 hxl;omega
  rw[el]
  have s9:=(Zh hrg2 (.rng 0 (((bs.map V.ref).length:Nat):Int))).trans (Zh htl (.tup ((Zx 0 os.length).map V.int)))
  generalize hG9:upd (upd H8 rg2 (.rng 0 (((bs.map V.ref).length:Nat):Int))) tl (.tup ((Zx 0 os.length).map V.int))=H9 at s9 ⊢
  have htl9:H9 tl=some (.tup ((Zx 0 os.length).map V.int)):=by rw[← hG9];exact Zb
  clear hG9 el
  have I9:=I7.same (s8.trans s9)
  obtain⟨i1,_,_⟩:=Zic (n:=os.length) (Zx 0 os.length) (fun v hv=>Zh7 hv)
  obtain⟨i4,i5⟩:=Zid (Zx 0 os.length)
  have plN:tPl 60 (.node ((Zx 0 os.length).map PT.leaf)):=⟨by rw[Qa,ZR,hos];exact hl1,by rw[Qa,ZR,hos];exact hl60,i5⟩
  have lvN:tLv (.node ((Zx 0 os.length).map PT.leaf))=Zx 0 os.length:=i4
  have dpN:=Zit _ plN
  rw[lvN,ZR]at dpN
  refine⟨a,W,ss,bs,os,.ref tl,.node ((Zx 0 os.length).map PT.leaf),rfl,⟨I9.th,h60,I9.key,s9 _ _ hD8,Rd.mono (fun _ _ o ho=>s9 _ _ ho) hrd,hro⟩,.node htl9 (Zh5 _),i1,plN,by rw[lvN,Zrt];omega,by clear hso hro hdps hwts hone tdp hany ew tlf hkn hnl d2 d1 hkl nDp nDn npn b2 b1 w1 w0 hln h60 c0 q R12 R1 npl ndp nrp nap c38 hbl hbo hl1 hxl;omega,fun b2 out2 H10 hb20 hb2 hput2 s10=>?_⟩
  have eo:out2=out:=by
   cases hput2 with
   | node hps hpo =>
    have e:=hps.one (ZfA ss os (Zx 0 os.length))
    rw[e,Zdl]at hpo
    exact(hone out2 (.node hpt hpo)).trans rfl
  subst eo
  have s710:=(s8.trans s9).trans s10
  refine⟨_,rfl,.list (out2.map PyData.int),.list (out2.map PyData.int),.lst (SqL.of hb2) (ZbG _),.lst (SqL.of (s710 _ _ hdu7)) (ZbG _),Zan _,Zan _,?_⟩
  rw[ZcY]
  exact q c3 H10 (L7.same s710) (by omega) (by omega) (B07.trans (But.same s710))
theorem ZoF{ss:List Str}{ns:List Int}(hl:ns.length=ss.length)(hm:∀n∈ns,0≤n∧n<ss.length)(h:Ris ss ns):ZeR ss ns∧ns.Perm (Zx 0 ss.length):=by
 refine⟨h.pw,ZdA (ZqQ h.pw) (fun x hx=>?_) (by rw[ZR];omega)⟩
 have:=hm x hx
 unfold Zx
 exact Qw.mpr ⟨x.toNat,QU.mpr (by omega),by omega⟩
noncomputable def Zlt(K:PySem.W.Frag):Sp:=fun vs H Q _=>∃ (a:Addr) (ns:List Int),vs=[.ref a]∧SqL K H a (ns.map V.int)∧ns.length≤63∧∀H',Q (.bl true) H'
theorem Zq2{f:Addr}{fd:FuncData}(F:Fun K "law" "law" Zda f fd)(T:Zaf K mg cRow cMerge):Zem P w K mg base CX0 90 f fd ["_law_script"] (Zlt K):=by
 have f_l_mix:Df P w K mg base 1 "_law_mix" ["_law_cell", "_law_k"] Zom:=Zru T
 have f_l_left:Df P w K mg base 1 "_law_left" ["_law_script", "_law_k"] (ZnZ K):=Zpv T
 have f_l_pick:Df P w K mg base 2 "_law_pick" ["_law_left_here", "_law_many"] ZdT:=ZpY T f_l_mix
 have f_l_stems:Df P w K mg base 3 "_law_stems" ["_law_left_here"] Zii:=Zow T f_l_pick
 have f_l_key:Df P w K mg base 3 "_law_key" ["_law_left_here", "_law_stems_here"] ZmP:=ZqC T f_l_pick
 have f_alike_from:Df P w K mg base 1 "alike_from" ["one", "other", "far"] ZcB:=Zg5 T
 have f_alike:Df P w K mg base 2 "alike" ["one", "other"] ZfM:=Zor T f_alike_from
 have f_order_at:Df P w K mg base 1 "order_at" ["one", "other", "at"] ZfQ:=ZmQ T
 have f_liken:Df P w K mg base 3 "liken" ["one", "other"] ZeS:=Zn8 T f_alike f_order_at
 have f_liken_from:Df P w K mg base 2 "liken_from" ["one", "other", "far"] ZdG:=Zg3 T f_alike_from f_order_at
 have f_first_break:Df P w K mg base 4 "first_break" ["keys"] (ZnJ K):=Zni T f_liken
 have f_refuse_break:Df P w K mg base 5 "refuse_break" ["number", "keys"] (ZgN K):=ZlS T f_first_break
 have f_alikes:Df P w K mg base 3 "alikes" ["row"] (Zgp K):=Zl9 T f_alike
 have f_halves:Df P w K mg base 1 "halves" ["numbers"] (ZeF K true):=ZlO T
 have f_Row_to_go:=Zpw T (P:=P) (w:=w) (base:=base)
 have f_Row_head:=Zqa T f_Row_to_go
 have f_Row_init:=Zke T f_alikes
 have f_Merge_meet:=ZpR T f_Row_head f_liken_from
 have f_Merge_play:=Zlq T f_Row_head f_halves f_Merge_meet 8
 have f_Merge_play_all:=ZjH T f_Merge_play
 have f_Merge_init:=Zg7 T f_refuse_break f_Row_init f_Merge_play_all
 have f_Merge_coming:=ZlD T f_Row_head
 have f_way_up:Df P w K mg base 2 "way_up" ["numbers", "n"] ZmZ:=ZqO T f_halves
 have f_matches_up:=Zkx T f_way_up
 have f_Merge_play_again:=Zox T f_Merge_meet
 have f_Merge_send_out:=ZoV T f_Row_head f_matches_up f_Merge_play_again
 have f_Merge_take:=Zpr T f_Merge_coming f_Merge_send_out
 have f_Merge_take_few:=ZqM T f_Merge_take
 have f_how_many:=Zji T (P:=P) (w:=w) (base:=base)
 have f_merged:=Zmb T f_Merge_init f_Merge_take_few f_how_many
 have f_is_number:=Zqy T (P:=P) (w:=w) (base:=base)
 have f_merged_by:=Zqq T f_is_number f_merged 61
 have f_l_things:Df P w K mg base 4 "_law_things" ["_law_left_here"] ZjZ:=Zly T f_l_pick f_l_stems f_l_key
 have f_l_room:Df P w K mg base 3 "_law_room" ["_law_left_here"] ZoM:=ZpV T f_l_pick
 have f_l_in_order:Df P w K mg base 1 "_law_in_order" ["_law_things_here"] (Zhe K):=ZiT T
 have f_run_behind:=ZmA T f_liken
 have f_runs_of:=ZoT T f_run_behind
 have f_stretches:=Zie T f_liken
 have f_is_run:=Zl7 T f_is_number
 have f_is_sorted:=ZpX T f_is_run
 have f_least_cut':=fun ns wy=>ZrJ T (P:=P) (w:=w) (base:=base) ns wy
 have f_least_tree':=fun ns wy=>ZnU T ns wy (f_least_cut' ns wy)
 have f_least_grove':=fun ns wy=>ZnG T ns wy (f_least_cut' ns wy)
 have f_least_groves':=fun ns wy=>ZlB T ns wy (f_least_tree' ns wy) (f_least_grove' ns wy)
 have f_near_plan:=ZoX T f_least_groves'
 have f_sort_by:=Zpo T f_runs_of f_near_plan f_merged_by
 have f_l_tree:=ZoQ T f_l_pick
 have f_l_called:=Znn T (P:=P) (w:=w) (base:=base) 61
 have f_l_any_right:=Zp3 T f_merged_by
 have f_l_trees_right:=Zq3 T f_l_pick f_l_tree f_merged_by f_l_called f_l_any_right
 refine F.ok ZdF (fun vs H Q E h=>?_) (fun cdv A outer s H vs Q E hr h=>?_)
 ·obtain⟨a,ns,rfl,_⟩:=h
  rfl
 obtain⟨a,sc,rfl,hS,h63,q⟩:=h
 refine⟨_,#[Zg,#[Zbt,PassesOwn.never,#[Zbu,T.b.n_range,#[Za,#[ZF,Zac,#[Zi],#[Zk,(Zeh rfl),(by rfl),T.b.n_min,boot_min,#[Za,#[Zi],#[Za,#[Zk,(ZaR K),(by rfl),T.b.n_len,Qq,#[Za,‹0›,#[Zc]]],#[Zc]]]]],#[Zc]]],#[ZA,1,ZdF.nd],#[Zg,#[Zy,2,ZdF.nd,(Or.inl rfl),#[ZB,f_l_left,hr,#[Za,‹0›,#[Za,‹1›,#[Zc]]],(by rfl)]],#[Zg,#[Zy,3,ZdF.nd,(Or.inl rfl),#[ZB,f_l_things,hr,#[Za,‹2›,#[Zc]],(by rfl)]],#[Zg,#[Zy,4,ZdF.nd,(Or.inl rfl),#[ZB,f_l_in_order,hr,#[Za,‹3›,#[Zc]],(by rfl)]],#[Zg,#[Zy,5,ZdF.nd,(Or.inl rfl),#[Zk,(Zhf rfl),(by rfl),T.b.n_max,boot_max,#[Za,#[ZB,f_l_room,hr,#[Za,‹2›,#[Zc]],(by rfl)],#[Za,#[ZF,Zac,#[Zi],#[ZF,ZeK,#[Zk,(ZaR K),(by rfl),T.b.n_len,Qq,#[Za,‹3›,#[Zc]]],#[Zi]]],#[Zc]]]]],#[Zg,#[ZZ,(@PW.pt _ _ _ #[Zf2,#[Zn,ZpA,#[ZB,f_is_sorted,hr,#[Za,‹3›,#[Za,‹4›,#[Zc]]],(by rfl)],#[Zdo],(Zs _)],(@Zfl _ _ _ _ #[Zn,(@neD _ K _ hr (by rfl)),#[Zz,(ixT K),#[ZB,f_sort_by,hr,#[Za,‹3›,#[Za,‹5›,#[Za,#[Zi],#[Zc]]]],(by rfl)],#[Zi]],‹4›,(Zs _)])]),#[Zj,#[Zm,#[Zdo]]],#[ZD]],#[Zj,#[Zbt,PassesOwn.never,(@iT _ K _ _ _ #[ZT,#[Za,#[ZB,f_runs_of,hr,#[Za,‹3›,#[Za,‹5›,#[Zc]]],(by rfl)],#[Za,#[ZB,f_stretches,hr,#[Za,‹3›,#[Zc]],(by rfl)],#[Zc]]]] (by rfl)),#[ZA,6,ZdF.nd],#[Zj,#[Zbt,PassesOwn.never,#[Zbu,T.b.n_range,#[Za,#[ZF,ZeB,#[Zi],#[Z4,ZhX,T.b.n_int,boot_int,#[Za,(@Zns _ _ _ _ _ _ _ _ _ _ _ _ Zdq Zdq #[Zi] #[Zk,(ZaR K),(by rfl),T.b.n_len,Qq,#[Za,‹6›,#[Zc]]] #[Zi] (by with_unfolding_all rfl)),#[Zc]]]],#[Zc]]],#[ZA,7,ZdF.nd],#[Zj,#[ZZ,(@ZgL _ _ _ _ #[Zet,#[ZB,f_l_trees_right,hr,#[Za,‹2›,#[Za,‹3›,#[Za,‹6›,#[Za,‹4›,#[Zc]]]]],(by rfl)]]),#[Zj,#[Zm,#[Zdo]]],#[ZD]]]]]]]]]]]]],#[Zj,#[Zm,#[Zdo]]]],?_⟩
 clear f_l_trees_right f_l_any_right f_l_called f_l_tree f_sort_by f_near_plan f_least_groves' f_least_grove' f_least_tree' f_least_cut' f_is_sorted f_is_run f_stretches f_runs_of f_run_behind f_l_in_order f_l_room f_l_things f_merged_by f_is_number f_merged f_how_many f_Merge_take_few f_Merge_take f_Merge_send_out f_Merge_play_again f_matches_up f_way_up f_Merge_coming f_Merge_init f_Merge_play_all f_Merge_play f_Merge_meet f_Row_init f_Row_head f_Row_to_go f_halves f_alikes f_refuse_break f_first_break f_liken_from f_liken f_order_at f_alike f_alike_from f_l_key f_l_stems f_l_pick f_l_left f_l_mix
 have hlen:(sc.map V.int).length=sc.length:=by rw[Qa]
 refine⟨_,rfl,a,_,rfl,.inl hS,_,_,rfl,_,_,rfl,rfl,_,rfl,by split<;>omega,by split<;>omega,?_⟩
 refine Zbb (fun i σ H2=>∃v1 v2 v3 v4 v5 v6 v7:Option V,σ=[some (.ref a),v1,v2,v3,v4,v5,v6,v7]∧ZC H H2) (xw7 _ _ _ _ _ _ _ ⟨rfl,ZC.refl _⟩) ?_ ?_
 ·rintro ii σ H2 hi ⟨v1,v2,v3,v4,v5,v6,v7,rfl,s2⟩
  have hi8:(ii:Int)<65:=by split at hi<;>omega
  clear hi
  refine⟨_,rfl,_,rfl,a,sc,_,rfl,s2.seq hS,h63,by omega,by omega,fun p H3 hp L3 s3=>?_⟩
  have nHp:H p=none:=s2.free hp
  refine⟨_,rfl,p,0,rfl,L3,by decide,fun th ss c4 H4 hth0 hth h60 h28 L4 a1 a2 B4=>?_⟩
  have nthp:th≠p:=fun z=>by obtain⟨o,ho⟩:=L3.here;rw[z,ho]at hth0;cases hth0
  have B04:∀b o,H b=some o→H4 b=some o:=fun b o hb=>B4 b o (s3 b o (s2 b o hb)) (Zd hb nHp)
  have hk1000:∀s∈ss,s.length≤1000∧AZ s:=fun s hs=>⟨by have:=(h28 s hs).1;omega,(h28 s hs).2⟩
  clear B4 hth0 L3 s3 s2 hp h28
  refine⟨_,rfl,th,ss,rfl,SqL.of hth,h60,fun du due H5 hdu0 hdu hdl hdm hris s5=>?_⟩
  obtain⟨dlex,dpm⟩:=ZoF hdl hdm hris
  have L5:=L4.same s5
  have ndp:du≠p:=fun z=>by obtain⟨o,ho⟩:=L4.here;rw[z,ho]at hdu0;cases hdu0
  have B05:∀b o,H b=some o→H5 b=some o:=fun b o hb=>s5 _ _ (B04 b o hb)
  have hth5:=s5 _ _ hth
  refine⟨_,rfl,p,c4,rfl,L5,by omega,fun rm c6 H6 rm1 rm2 L6 b1 b2 B6=>?_⟩
  have hth6:=B6 _ _ hth5 nthp
  have hdu6:=B6 _ _ hdu ndp
  have hll:(((ss.map V.str).length:Nat):Int)=(ss.length:Int):=by rw[Qa]
  refine⟨_,rfl,th,_,rfl,.inl (SqL.of hth6),_,_,rfl,rfl,⟨by decide,by decide⟩,_,_,rfl,rfl,_,_,rfl,?_⟩
  rw[hll]
  generalize hrn:(if 1+(ss.length:Int) / 12>rm then 1+(ss.length:Int) / 12 else rm)=rh
  have rh1:1≤rh:=by rw[← hrn];split<;>omega
  have rh2:rh≤16:=by rw[← hrn];split<;>omega
  clear hrn
  obtain⟨rn,rfl⟩:∃rn:Nat,rh=(rn:Int):=⟨rh.toNat,by omega⟩
  refine⟨_,rfl,_,rfl,xw4 th du ss due ⟨rfl,hth6,h60,hdu6,dlex,dpm,fun H7 s7=>?_⟩⟩
  refine⟨_,_,rfl,rfl,_,rfl,Zm1 rfl ?_⟩
  have hth7:=s7 _ _ hth6
  refine⟨_,rfl,_,rfl,th,ss,rn,2,rfl,hth7,h60,hk1000,by omega,by omega,by omega,by omega,fun tp b out pr R0 H8 htp hb olex opm hres0 _ s8=>?_⟩
  have eo:out=due:=Zk5 olex dlex (opm.trans dpm.symm)
  subst eo
  have hdu8:=s8 _ _ (s7 _ _ hdu6)
  refine⟨tp,_,_,_,rfl,rfl,SqT.of htp,rfl,_,rfl,.list (out.map PyData.int),.list (out.map PyData.int),.lst (SqL.of hb) (ZbG _),.lst (SqL.of hdu8) (ZbG _),Zan _,Zan _,_,rfl,?_⟩
  rw[ZcY]
  refine Zcl ?_
  have s68:=s7.trans s8
  have hth8:=s8 _ _ hth7
  have L8:=L6.same s68
  have B08:∀b o,H b=some o→H8 b=some o:=fun b o hb=>s68 _ _ (B6 _ _ (B05 b o hb) (Zd hb nHp))
  refine⟨_,rfl,_,rfl,th,ss,rn,rfl,SqL.of hth8,h60,fun s hs=>(hk1000 s hs).1,by omega,fun r1 ls1 R1 H9 hr10 hr11 hrl1 hls1 hrd1 hres1 _ _ s9=>?_⟩
  have hth9:=s9 _ _ hth8
  refine⟨_,rfl,th,ss,rfl,SqL.of hth9,by omega,fun s hs=>(hk1000 s hs).1,fun r2 ls2 H10 hr20 hr22 hrl2 hls2 hrd2 s10=>?_⟩
  have nr1:=Zkh (by omega) hres1
  have nr2:=Zkh (Qg 1) (ZgQ ss)
  generalize Zbi (ZbE ss) ss.length=R2 at hrd2 nr2
  refine⟨(by show 2≤sizeLine;decide),fun tq htq=>⟨tq,rfl,⟨_,SqT.of Zb⟩,?_⟩⟩
  have s11:=Zh htq (.tup [V.ref r1,V.ref r2])
  have np:∀ {G:Hp} {q:Addr} {c:Int},ZaF G p c→G q=none→q≠p:=fun {G q c} L h z=>by obtain⟨o,ho⟩:=L.here;rw[z,ho]at h;cases h
  have L9:=L8.same s9
  have s910:=s9.trans s10
  have L10:=L9.same s10
  have I1:Zfi (upd H10 tq (.tup [V.ref r1,V.ref r2])) th r1 ss ls1 R1:=⟨s11 _ _ (s10 _ _ hth9),h60,hk1000,s11 _ _ (s10 _ _ hr11),Rd.mono (fun _ _ o ho=>s11 _ _ (s10 _ _ ho)) hrd1,nr1.rg⟩
  have I2:Zfi (upd H10 tq (.tup [V.ref r1,V.ref r2])) th r2 ss ls2 R2:=⟨s11 _ _ (s10 _ _ hth9),h60,hk1000,s11 _ _ hr22,Rd.mono (fun _ _ o ho=>s11 _ _ ho) hrd2,nr2.rg⟩
  have n1:r1≠p:=np L8 hr10
  have n2:r2≠p:=np L9 hr20
  have m1:p ∉ ls1:=fun z=>np L8 (hls1 _ z) rfl
  have m2:p ∉ ls2:=fun z=>np L9 (hls2 _ z) rfl
  have hdu11:=s11 _ _ (s910 _ _ hdu8)
  have L11:=L10.same s11
  have B11:∀b o,H b=some o→(upd H10 tq (.tup [V.ref r1,V.ref r2])) b=some o:=fun b o hb=>s11 _ _ (s910 _ _ (B08 b o hb))
  have ntp:tq≠p:=np L10 htq
  have htq11:(upd H10 tq (.tup [V.ref r1,V.ref r2])) tq=some (.tup [V.ref r1,V.ref r2]):=Zb
  generalize upd H10 tq (.tup [V.ref r1,V.ref r2])=G at I1 I2 hdu11 L11 B11 htq11 ⊢
  clear s11 np L9 s910 L10 hr10 hr11 hrl1 hls1 hrd1 hres1 s9 hr20 hr22 hrl2 hls2 hrd2 s10 htq hth9 hth8 s68 L8 B08 hdu8 htp hb s8 hth7 s7 hth6 hdu6 B6 L6 hth5 B05 L5 s5 hdu0 hdu hdl hdm hris B04 L4 hth hres0 olex opm
  refine ZoZ (K:=K) (a:=tq) (xs:=[V.ref r1,V.ref r2]) (fun k σ G2=>∃ (v6 v7:Option V) (cc:Int),σ=[some (.ref a),some (.int (0+(ii:Int))),some (.ref p),some (.ref th),some (.ref du),some (.int (rn:Int)),v6,v7]∧But p G G2∧ZaF G2 p cc∧cc≤c6+600*(k:Int)) ⟨_,_,c6,rfl,But.refl _ _,L11,by omega⟩ (fun _ _ _ _ h=>by obtain⟨_,_,_,_,B,_⟩:=h;exact SqT.of (B _ _ htq11 ntp)) ?_ ?_
  ·rintro k y σ G2 hy ⟨u6,u7,cc,rfl,B2,L2,hcc⟩
   have hk2:(k:Int)<2:=by
    have:=(Qc.mp hy).1
    simp at this
    omega
   obtain⟨r,ls,R,rfl,I,n,m,nr⟩:∃ (r:Addr) (ls:List Addr) (R:List (List Int)),y=.ref r∧Zfi G2 th r ss ls R∧r≠p∧p ∉ ls∧Zma ss R:=by
    match k,hy with
    | 0,hy=>cases hy;exact⟨r1,ls1,R1,rfl,I1.but B2 nthp n1 m1,n1,m1,nr1⟩
    | 1,hy=>cases hy;exact⟨r2,ls2,R2,rfl,I2.but B2 nthp n2 m2,n2,m2,nr2⟩
    | k+2,hy=>cases hy
   have hln:(((ls.map V.ref).length:Nat):Int)=(R.length:Int):=by rw[Qa,I.rd.len]
   refine⟨_,rfl,r,_,rfl,.inl (SqL.of I.ru),?_⟩
   have tail:∀kb:Bool,(kb=true→1≤R.length∧R.length≤12)→∀n:Nat,n=(4*(if kb=true then (1:Int) else 0)).toNat→n≤4∧(0<n→1≤R.length∧R.length≤12):=fun kb hk n hn=>by
    cases kb with
    | false=>simp at hn;omega
    | true=>have:=hk rfl;simp at hn;omega
   refine⟨_,_,rfl,rfl,_,rfl,ZaX (fun d=>?_) (fun d=>?_)⟩
   ·have d0:1≤R.length:=by
     have:=of_decide_eq_true d
     rw[hln]at this
     omega
    refine⟨_,_,rfl,rfl,.inr ⟨_,rfl,_,_,rfl,rfl,.inl (by decide),_,rfl,?_,?_,?_⟩⟩
    ·split<;>decide
    ·split<;>decide
    obtain⟨t1,t2⟩:=tail (decide ((((ls.map V.ref).length:Nat):Int)<13)) (fun z=>⟨d0,by have:=of_decide_eq_true z;rw[hln]at this;omega⟩) _ rfl
    refine Zbb (fun i σ G3=>∃ (v7:Option V) (c9:Int),σ=[some (.ref a),some (.int (0+(ii:Int))),some (.ref p),some (.ref th),some (.ref du),some (.int (rn:Int)),some (.ref r),v7]∧But p G2 G3∧ZaF G3 p c9∧c9≤cc+150*(i:Int)) ⟨_,cc,rfl,But.refl _ _,L2,by omega⟩ ?_ ?_
    ·rintro i σ G3 hi ⟨u7',c9,rfl,B3,L3,hc9⟩
     obtain⟨e1,e2⟩:=t2 (Qaf (Qv _) hi)
     have hi4:i<4:=QF hi t1
     refine⟨_,rfl,_,rfl,_,rfl,_,rfl,p,th,r,du,c9,xw4 ss ls R out ⟨rfl,L3,by omega,I.but B3 nthp n m,nthp,n,ndp,m,nr,e1,e2,B3 _ _ (B2 _ _ hdu11 ndp) ndp,dlex,dpm,fun c10 G4 L4 f1 f2 B4=>⟨_,rfl,Zcl ⟨_,c10,rfl,B3.trans B4,L4,by omega⟩⟩⟩⟩
    ·rintro σ G3 ⟨u7',c9,rfl,B3,L3,hc9⟩
     exact⟨_,_,c9,rfl,B2.trans B3,L3,by omega⟩
   ·refine .inr ⟨_,rfl,_,_,rfl,rfl,.inl (by decide),_,rfl,?_,?_,?_⟩
    ·split<;>decide
    ·split<;>decide
    obtain⟨t1,t2⟩:=tail false (fun z=>by cases z) _ rfl
    refine Zbb (fun i σ G3=>∃ (v7:Option V) (c9:Int),σ=[some (.ref a),some (.int (0+(ii:Int))),some (.ref p),some (.ref th),some (.ref du),some (.int (rn:Int)),some (.ref r),v7]∧But p G2 G3∧ZaF G3 p c9∧c9≤cc+150*(i:Int)) ⟨_,cc,rfl,But.refl _ _,L2,by omega⟩ ?_ ?_
    ·rintro i σ G3 hi ⟨u7',c9,rfl,B3,L3,hc9⟩
     exfalso
     exact absurd hi (by simp)
    ·rintro σ G3 ⟨u7',c9,rfl,B3,L3,hc9⟩
     exact⟨_,_,c9,rfl,B2.trans B3,L3,by omega⟩
  ·rintro σ G2 ⟨u6,u7,cc,rfl,B2,L2,hcc⟩
   exact(xw7 _ _ _ _ _ _ _ ⟨rfl,fun b o hb=>B2 _ _ (B11 b o hb) (Zd hb nHp)⟩)
 ·rintro σ H2 ⟨v1,v2,v3,v4,v5,v6,v7,rfl,s2⟩
  exact q H2
end
theorem ZN{K:PySem.W.Frag}{h:Heap}{mg:Str→Option Value}{x:Str}{st:Stmt}{ps:List Str}{f:Addr}{od an:Option Addr}{sl:Array (Option Value)}{oc kV dc pm cd ct:Value}(X:K.In h)(G:h.Ns mainGlobals mg)
  (a:PySem.W.nsIn K mainGlobals x=some (some (.ref f))) (l:K.lookup f=some ⟨oc,od,.func (PySem.W.fnOf x x (Zp st) (Zl st) (Zf st) .none kV dc pm an cd ct),sl⟩) (c:PySem.W.codeIn K cd x=true) (k:PySem.W.keepIn K (.ref f)=true)
  (hb:∀ (kV doc pm:Value) (an:Option Addr) (cdv ct:Value) (us:List Value),us.length=ps.length→bindArgs (PySem.W.fnOf x x (Zp st) (Zl st) (Zf st) .none kV doc pm an cdv ct) ⟨us,[]⟩=pure (ps.zip us)):Top K mg x st ps :=
 ⟨_,_,Z1 (st:=st) l c k,PySem.W.mg_of X G a,(Z1 (st:=st) l c k).binds hb⟩
theorem uc{n:Nat}{us:List Value}(h:us.length=n+1):∃a r,us=a::r∧r.length=n:=by
 obtain⟨a,r,rfl⟩:=List.exists_cons_of_length_eq_add_one h
 exact⟨a,r,rfl,Nat.succ.inj h⟩
theorem ZdI(us:List Value)(h:us.length=1):∃a0,us=[a0]:=List.length_eq_one_iff.mp h
theorem Zc0(us:List Value)(h:us.length=2):∃a0 a1,us=[a0,a1]:=by
 obtain⟨a,r,rfl,g⟩:=uc h
 obtain⟨b,rfl⟩:=ZdI r g
 exact⟨a,b,rfl⟩
theorem ZjP(us:List Value)(h:us.length=3):∃a0 a1 a2,us=[a0,a1,a2]:=by
 obtain⟨a,r,rfl,g⟩:=uc h
 obtain⟨b,c,rfl⟩:=Zc0 r g
 exact⟨a,b,c,rfl⟩
theorem Zo4(us:List Value)(h:us.length=4):∃a0 a1 a2 a3,us=[a0,a1,a2,a3]:=by
 obtain⟨a,r,rfl,g⟩:=uc h
 obtain⟨b,c,d,rfl⟩:=ZjP r g
 exact⟨a,b,c,d,rfl⟩
theorem us5(us:List Value)(h:us.length=5):∃a0 a1 a2 a3 a4,us=[a0,a1,a2,a3,a4]:=by
 obtain⟨a,r,rfl,g⟩:=uc h
 obtain⟨b,c,d,e,rfl⟩:=Zo4 r g
 exact⟨a,b,c,d,e,rfl⟩
theorem all_mk{l:PySem.W.OpenLaw}{w:World}{K:PySem.W.Frag}{h:Heap}{mg:Str→Option Value}{fa:Addr}(X:K.In h)(G:h.Ns mainGlobals mg)(hfa:mg "law" = some (.ref fa))
  {cRow:Addr}
  {cMerge:Addr}
  (aCRow:#[Xns,K,"Row",cRow]) (pgRow:PySem.W.plainGet K cRow Str.empty=true) (hdRow:PySem.W.hasDictIn K cRow=true) (poRow:PySem.W.plainOver K cRow=true) (saRow:PySem.W.findIn K (.ref cRow) "__setattr__" = some (some (.builtin "object.__setattr__"))) (mkRow:PySem.W.makesIn K cRow=true) (kcRow:#[Xki,K,cRow])
  (nARow_all_keys:PySem.W.findIn K (.ref cRow) "all_keys" = some none)
  (nARow_fars:PySem.W.findIn K (.ref cRow) "fars" = some none)
  (nARow_gone:PySem.W.findIn K (.ref cRow) "gone" = some none)
  (aCMerge:#[Xns,K,"Merge",cMerge]) (pgMerge:PySem.W.plainGet K cMerge Str.empty=true) (hdMerge:PySem.W.hasDictIn K cMerge=true) (poMerge:PySem.W.plainOver K cMerge=true) (saMerge:PySem.W.findIn K (.ref cMerge) "__setattr__" = some (some (.builtin "object.__setattr__"))) (mkMerge:PySem.W.makesIn K cMerge=true) (kcMerge:#[Xki,K,cMerge])
  (nAMerge_best:PySem.W.findIn K (.ref cMerge) "best" = some none)
  (nAMerge_likened:PySem.W.findIn K (.ref cMerge) "likened" = some none)
  (nAMerge_looked:PySem.W.findIn K (.ref cMerge) "looked" = some none)
  (nAMerge_next_number:PySem.W.findIn K (.ref cMerge) "next_number" = some none)
  (nAMerge_rows:PySem.W.findIn K (.ref cMerge) "rows" = some none)
  (nAMerge_stays:PySem.W.findIn K (.ref cMerge) "stays" = some none)
  (a0:#[Xns,K,"is_number",f0]) (l0:#[Xlk,K,f0,oc0,od0,"is_number","is_number",ZbF,kV0,dc0,pm0,an0,cd0,ct0,sl0]) (c0:#[Xci,K,cd0,"is_number"]) (k0:#[Xki,K,f0])
  (a1:#[Xns,K,"near_plan",f1]) (l1:#[Xlk,K,f1,oc1,od1,"near_plan","near_plan",Zbz,kV1,dc1,pm1,an1,cd1,ct1,sl1]) (c1:#[Xci,K,cd1,"near_plan"]) (k1:#[Xki,K,f1])
  (a2:#[Xns,K,"least_groves",f2]) (l2:#[Xlk,K,f2,oc2,od2,"least_groves","least_groves",Za1,kV2,dc2,pm2,an2,cd2,ct2,sl2]) (c2:#[Xci,K,cd2,"least_groves"]) (k2:#[Xki,K,f2])
  (a3:#[Xns,K,"least_tree",f3]) (l3:#[Xlk,K,f3,oc3,od3,"least_tree","least_tree",Zbl,kV3,dc3,pm3,an3,cd3,ct3,sl3]) (c3:#[Xci,K,cd3,"least_tree"]) (k3:#[Xki,K,f3])
  (a4:#[Xns,K,"least_grove",f4]) (l4:#[Xlk,K,f4,oc4,od4,"least_grove","least_grove",Za4,kV4,dc4,pm4,an4,cd4,ct4,sl4]) (c4:#[Xci,K,cd4,"least_grove"]) (k4:#[Xki,K,f4])
  (a5:#[Xns,K,"least_cut",f5]) (l5:#[Xlk,K,f5,oc5,od5,"least_cut","least_cut",Za9,kV5,dc5,pm5,an5,cd5,ct5,sl5]) (c5:#[Xci,K,cd5,"least_cut"]) (k5:#[Xki,K,f5])
  (a6:#[Xns,K,"alike",f6]) (l6:#[Xlk,K,f6,oc6,od6,"alike","alike",Zdw,kV6,dc6,pm6,an6,cd6,ct6,sl6]) (c6:#[Xci,K,cd6,"alike"]) (k6:#[Xki,K,f6])
  (a7:#[Xns,K,"liken",f7]) (l7:#[Xlk,K,f7,oc7,od7,"liken","liken",Zdx,kV7,dc7,pm7,an7,cd7,ct7,sl7]) (c7:#[Xci,K,cd7,"liken"]) (k7:#[Xki,K,f7])
  (a8:#[Xns,K,"liken_from",f8]) (l8:#[Xlk,K,f8,oc8,od8,"liken_from","liken_from",Zbr,kV8,dc8,pm8,an8,cd8,ct8,sl8]) (c8:#[Xci,K,cd8,"liken_from"]) (k8:#[Xki,K,f8])
  (a9:#[Xns,K,"alike_from",f9]) (l9:#[Xlk,K,f9,oc9,od9,"alike_from","alike_from",Zbn,kV9,dc9,pm9,an9,cd9,ct9,sl9]) (c9:#[Xci,K,cd9,"alike_from"]) (k9:#[Xki,K,f9])
  (a10:#[Xns,K,"order_at",f10]) (l10:#[Xlk,K,f10,oc10,od10,"order_at","order_at",Zb1,kV10,dc10,pm10,an10,cd10,ct10,sl10]) (c10:#[Xci,K,cd10,"order_at"]) (k10:#[Xki,K,f10])
  (a11:#[Xns,K,"stretches",f11]) (l11:#[Xlk,K,f11,oc11,od11,"stretches","stretches",ZbH,kV11,dc11,pm11,an11,cd11,ct11,sl11]) (c11:#[Xci,K,cd11,"stretches"]) (k11:#[Xki,K,f11])
  (a12:#[Xns,K,"runs_of",f12]) (l12:#[Xlk,K,f12,oc12,od12,"runs_of","runs_of",ZbU,kV12,dc12,pm12,an12,cd12,ct12,sl12]) (c12:#[Xci,K,cd12,"runs_of"]) (k12:#[Xki,K,f12])
  (a13:#[Xns,K,"run_behind",f13]) (l13:#[Xlk,K,f13,oc13,od13,"run_behind","run_behind",Zbk,kV13,dc13,pm13,an13,cd13,ct13,sl13]) (c13:#[Xci,K,cd13,"run_behind"]) (k13:#[Xki,K,f13])
  (a14:#[Xns,K,"is_run",f14]) (l14:#[Xlk,K,f14,oc14,od14,"is_run","is_run",ZcI,kV14,dc14,pm14,an14,cd14,ct14,sl14]) (c14:#[Xci,K,cd14,"is_run"]) (k14:#[Xki,K,f14])
  (a15:#[Xns,K,"halves",f15]) (l15:#[Xlk,K,f15,oc15,od15,"halves","halves",Zc7,kV15,dc15,pm15,an15,cd15,ct15,sl15]) (c15:#[Xci,K,cd15,"halves"]) (k15:#[Xki,K,f15])
  (a16:#[Xns,K,"way_up",f16]) (l16:#[Xlk,K,f16,oc16,od16,"way_up","way_up",ZcT,kV16,dc16,pm16,an16,cd16,ct16,sl16]) (c16:#[Xci,K,cd16,"way_up"]) (k16:#[Xki,K,f16])
  (a17:#[Xns,K,"first_break",f17]) (l17:#[Xlk,K,f17,oc17,od17,"first_break","first_break",Za8,kV17,dc17,pm17,an17,cd17,ct17,sl17]) (c17:#[Xci,K,cd17,"first_break"]) (k17:#[Xki,K,f17])
  (a18:#[Xns,K,"alikes",f18]) (l18:#[Xlk,K,f18,oc18,od18,"alikes","alikes",ZcM,kV18,dc18,pm18,an18,cd18,ct18,sl18]) (c18:#[Xci,K,cd18,"alikes"]) (k18:#[Xki,K,f18])
  (a19:#[Xns,K,"refuse_break",f19]) (l19:#[Xlk,K,f19,oc19,od19,"refuse_break","refuse_break",Za0,kV19,dc19,pm19,an19,cd19,ct19,sl19]) (c19:#[Xci,K,cd19,"refuse_break"]) (k19:#[Xki,K,f19])
  (a20:#[Xns,K,"matches_up",f20]) (l20:#[Xlk,K,f20,oc20,od20,"matches_up","matches_up",Zbm,kV20,dc20,pm20,an20,cd20,ct20,sl20]) (c20:#[Xci,K,cd20,"matches_up"]) (k20:#[Xki,K,f20])
  (a21:#[Xns,K,"merged",f21]) (l21:#[Xlk,K,f21,oc21,od21,"merged","merged",Zci,kV21,dc21,pm21,an21,cd21,ct21,sl21]) (c21:#[Xci,K,cd21,"merged"]) (k21:#[Xki,K,f21])
  (a22:#[Xns,K,"how_many",f22]) (l22:#[Xlk,K,f22,oc22,od22,"how_many","how_many",Zbw,kV22,dc22,pm22,an22,cd22,ct22,sl22]) (c22:#[Xci,K,cd22,"how_many"]) (k22:#[Xki,K,f22])
  (a23:#[Xns,K,"merged_by",f23]) (l23:#[Xlk,K,f23,oc23,od23,"merged_by","merged_by",ZaC,kV23,dc23,pm23,an23,cd23,ct23,sl23]) (c23:#[Xci,K,cd23,"merged_by"]) (k23:#[Xki,K,f23])
  (a24:#[Xns,K,"sort_by",f24]) (l24:#[Xlk,K,f24,oc24,od24,"sort_by","sort_by",ZbS,kV24,dc24,pm24,an24,cd24,ct24,sl24]) (c24:#[Xci,K,cd24,"sort_by"]) (k24:#[Xki,K,f24])
  (a25:#[Xns,K,"is_sorted",f25]) (l25:#[Xlk,K,f25,oc25,od25,"is_sorted","is_sorted",ZbC,kV25,dc25,pm25,an25,cd25,ct25,sl25]) (c25:#[Xci,K,cd25,"is_sorted"]) (k25:#[Xki,K,f25])
  (a26:#[Xns,K,"_law_mix",f26]) (l26:#[Xlk,K,f26,oc26,od26,"_law_mix","_law_mix",ZdX,kV26,dc26,pm26,an26,cd26,ct26,sl26]) (c26:#[Xci,K,cd26,"_law_mix"]) (k26:#[Xki,K,f26])
  (a27:#[Xns,K,"_law_left",f27]) (l27:#[Xlk,K,f27,oc27,od27,"_law_left","_law_left",Zc5,kV27,dc27,pm27,an27,cd27,ct27,sl27]) (c27:#[Xci,K,cd27,"_law_left"]) (k27:#[Xki,K,f27])
  (a28:#[Xns,K,"_law_pick",f28]) (l28:#[Xlk,K,f28,oc28,od28,"_law_pick","_law_pick",ZcV,kV28,dc28,pm28,an28,cd28,ct28,sl28]) (c28:#[Xci,K,cd28,"_law_pick"]) (k28:#[Xki,K,f28])
  (a29:#[Xns,K,"_law_stems",f29]) (l29:#[Xlk,K,f29,oc29,od29,"_law_stems","_law_stems",ZbO,kV29,dc29,pm29,an29,cd29,ct29,sl29]) (c29:#[Xci,K,cd29,"_law_stems"]) (k29:#[Xki,K,f29])
  (a30:#[Xns,K,"_law_key",f30]) (l30:#[Xlk,K,f30,oc30,od30,"_law_key","_law_key",ZcX,kV30,dc30,pm30,an30,cd30,ct30,sl30]) (c30:#[Xci,K,cd30,"_law_key"]) (k30:#[Xki,K,f30])
  (a31:#[Xns,K,"_law_things",f31]) (l31:#[Xlk,K,f31,oc31,od31,"_law_things","_law_things",Zb0,kV31,dc31,pm31,an31,cd31,ct31,sl31]) (c31:#[Xci,K,cd31,"_law_things"]) (k31:#[Xki,K,f31])
  (a32:#[Xns,K,"_law_room",f32]) (l32:#[Xlk,K,f32,oc32,od32,"_law_room","_law_room",ZcR,kV32,dc32,pm32,an32,cd32,ct32,sl32]) (c32:#[Xci,K,cd32,"_law_room"]) (k32:#[Xki,K,f32])
  (a33:#[Xns,K,"_law_in_order",f33]) (l33:#[Xlk,K,f33,oc33,od33,"_law_in_order","_law_in_order",ZaK,kV33,dc33,pm33,an33,cd33,ct33,sl33]) (c33:#[Xci,K,cd33,"_law_in_order"]) (k33:#[Xki,K,f33])
  (a34:#[Xns,K,"_law_tree",f34]) (l34:#[Xlk,K,f34,oc34,od34,"_law_tree","_law_tree",ZcU,kV34,dc34,pm34,an34,cd34,ct34,sl34]) (c34:#[Xci,K,cd34,"_law_tree"]) (k34:#[Xki,K,f34])
  (a35:#[Xns,K,"_law_called",f35]) (l35:#[Xlk,K,f35,oc35,od35,"_law_called","_law_called",Zbv,kV35,dc35,pm35,an35,cd35,ct35,sl35]) (c35:#[Xci,K,cd35,"_law_called"]) (k35:#[Xki,K,f35])
  (a36:#[Xns,K,"_law_any_right",f36]) (l36:#[Xlk,K,f36,oc36,od36,"_law_any_right","_law_any_right",Zau,kV36,dc36,pm36,an36,cd36,ct36,sl36]) (c36:#[Xci,K,cd36,"_law_any_right"]) (k36:#[Xki,K,f36])
  (a37:#[Xns,K,"_law_trees_right",f37]) (l37:#[Xlk,K,f37,oc37,od37,"_law_trees_right","_law_trees_right",Z9,kV37,dc37,pm37,an37,cd37,ct37,sl37]) (c37:#[Xci,K,cd37,"_law_trees_right"]) (k37:#[Xki,K,f37])
  (a38:#[Xns,K,"law",f38]) (l38:#[Xlk,K,f38,oc38,od38,"law","law",Zda,kV38,dc38,pm38,an38,cd38,ct38,sl38]) (c38:#[Xci,K,cd38,"law"]) (k38:#[Xki,K,f38])
  (a39:#[Xfi,K,cRow,"__init__",f39]) (i39:#[Xif,K,f39]) (l39:#[Xlk,K,f39,oc39,od39,"__init__","Row.__init__",Za6,kV39,dc39,pm39,an39,cd39,ct39,sl39]) (c39:#[Xci,K,cd39,"Row.__init__"]) (k39:#[Xki,K,f39])
  (a40:#[Xfi,K,cRow,"to_go",f40]) (i40:#[Xif,K,f40]) (l40:#[Xlk,K,f40,oc40,od40,"to_go","Row.to_go",ZaU,kV40,dc40,pm40,an40,cd40,ct40,sl40]) (c40:#[Xci,K,cd40,"Row.to_go"]) (k40:#[Xki,K,f40])
  (a41:#[Xfi,K,cRow,"head",f41]) (i41:#[Xif,K,f41]) (l41:#[Xlk,K,f41,oc41,od41,"head","Row.head",Za7,kV41,dc41,pm41,an41,cd41,ct41,sl41]) (c41:#[Xci,K,cd41,"Row.head"]) (k41:#[Xki,K,f41])
  (a42:#[Xfi,K,cMerge,"__init__",f42]) (i42:#[Xif,K,f42]) (l42:#[Xlk,K,f42,oc42,od42,"__init__","Merge.__init__",ZaM,kV42,dc42,pm42,an42,cd42,ct42,sl42]) (c42:#[Xci,K,cd42,"Merge.__init__"]) (k42:#[Xki,K,f42])
  (a43:#[Xfi,K,cMerge,"coming",f43]) (i43:#[Xif,K,f43]) (l43:#[Xlk,K,f43,oc43,od43,"coming","Merge.coming",Zah,kV43,dc43,pm43,an43,cd43,ct43,sl43]) (c43:#[Xci,K,cd43,"Merge.coming"]) (k43:#[Xki,K,f43])
  (a44:#[Xfi,K,cMerge,"take",f44]) (i44:#[Xif,K,f44]) (l44:#[Xlk,K,f44,oc44,od44,"take","Merge.take",ZaG,kV44,dc44,pm44,an44,cd44,ct44,sl44]) (c44:#[Xci,K,cd44,"Merge.take"]) (k44:#[Xki,K,f44])
  (a45:#[Xfi,K,cMerge,"take_few",f45]) (i45:#[Xif,K,f45]) (l45:#[Xlk,K,f45,oc45,od45,"take_few","Merge.take_few",Z2,kV45,dc45,pm45,an45,cd45,ct45,sl45]) (c45:#[Xci,K,cd45,"Merge.take_few"]) (k45:#[Xki,K,f45])
  (a46:#[Xfi,K,cMerge,"looks",f46]) (i46:#[Xif,K,f46]) (l46:#[Xlk,K,f46,oc46,od46,"looks","Merge.looks",ZaP,kV46,dc46,pm46,an46,cd46,ct46,sl46]) (c46:#[Xci,K,cd46,"Merge.looks"]) (k46:#[Xki,K,f46])
  (a47:#[Xfi,K,cMerge,"play_all",f47]) (i47:#[Xif,K,f47]) (l47:#[Xlk,K,f47,oc47,od47,"play_all","Merge.play_all",Z0,kV47,dc47,pm47,an47,cd47,ct47,sl47]) (c47:#[Xci,K,cd47,"Merge.play_all"]) (k47:#[Xki,K,f47])
  (a48:#[Xfi,K,cMerge,"play",f48]) (i48:#[Xif,K,f48]) (l48:#[Xlk,K,f48,oc48,od48,"play","Merge.play",ZaL,kV48,dc48,pm48,an48,cd48,ct48,sl48]) (c48:#[Xci,K,cd48,"Merge.play"]) (k48:#[Xki,K,f48])
  (a49:#[Xfi,K,cMerge,"send_out",f49]) (i49:#[Xif,K,f49]) (l49:#[Xlk,K,f49,oc49,od49,"send_out","Merge.send_out",Z3,kV49,dc49,pm49,an49,cd49,ct49,sl49]) (c49:#[Xci,K,cd49,"Merge.send_out"]) (k49:#[Xki,K,f49])
  (a50:#[Xfi,K,cMerge,"play_again",f50]) (i50:#[Xif,K,f50]) (l50:#[Xlk,K,f50,oc50,od50,"play_again","Merge.play_again",ZS,kV50,dc50,pm50,an50,cd50,ct50,sl50]) (c50:#[Xci,K,cd50,"Merge.play_again"]) (k50:#[Xki,K,f50])
  (a51:#[Xfi,K,cMerge,"meet",f51]) (i51:#[Xif,K,f51]) (l51:#[Xlk,K,f51,oc51,od51,"meet","Merge.meet",ZaI,kV51,dc51,pm51,an51,cd51,ct51,sl51]) (c51:#[Xci,K,cd51,"Merge.meet"]) (k51:#[Xki,K,f51])
  (z0:PySem.W.nsIn K mainGlobals "abs" = some none) (z1:PySem.W.nsIn K mainGlobals "all" = some none) (z2:PySem.W.nsIn K mainGlobals "bool" = some none) (z3:PySem.W.nsIn K mainGlobals "enumerate" = some none) (z4:PySem.W.nsIn K mainGlobals "int" = some none) (z5:PySem.W.nsIn K mainGlobals "isinstance" = some none) (z6:PySem.W.nsIn K mainGlobals "len" = some none) (z7:PySem.W.nsIn K mainGlobals "list" = some none) (z8:PySem.W.nsIn K mainGlobals "max" = some none) (z9:PySem.W.nsIn K mainGlobals "min" = some none) (z10:PySem.W.nsIn K mainGlobals "range" = some none) (z11:PySem.W.nsIn K mainGlobals "sorted" = some none) (z12:PySem.W.nsIn K mainGlobals "sum" = some none) (z13:PySem.W.nsIn K mainGlobals "tuple" = some none) :
  ∃fd:FuncData,(∀ (s:Shared) (v:Value),BindsTo s fd ⟨[v],[]⟩ [("_law_script",v)])∧∀base:Heap,K.In base→base.Ns mainGlobals mg→Zem l.prog w K mg base CX0 90 fa fd ["_law_script"] (Zlt K):=by
 have e:=hfa.symm.trans (PySem.W.mg_of X G a38)
 cases e
 have T:Zaf K mg cRow cMerge:=⟨⟨QS X G z0,QS X G z1,QS X G z2,QS X G z3,QS X G z4,QS X G z5,QS X G z6,QS X G z7,QS X G z8,QS X G z9,QS X G z10,QS X G z11,QS X G z12,QS X G z13⟩,ZN X G a0 l0 c0 k0 (fun _ _ _ _ _ _ us hl=>by obtain⟨_,rfl⟩:=ZdI us hl;exact rfl),ZN X G a1 l1 c1 k1 (fun _ _ _ _ _ _ us hl=>by obtain⟨_,_,rfl⟩:=Zc0 us hl;exact rfl),ZN X G a2 l2 c2 k2 (fun _ _ _ _ _ _ us hl=>by obtain⟨_,_,rfl⟩:=Zc0 us hl;exact rfl),ZN X G a3 l3 c3 k3 (fun _ _ _ _ _ _ us hl=>by obtain⟨_,_,_,_,_,rfl⟩:=us5 us hl;exact rfl),ZN X G a4 l4 c4 k4 (fun _ _ _ _ _ _ us hl=>by obtain⟨_,_,_,_,_,rfl⟩:=us5 us hl;exact rfl),ZN X G a5 l5 c5 k5 (fun _ _ _ _ _ _ us hl=>by obtain⟨_,_,_,_,rfl⟩:=Zo4 us hl;exact rfl),ZN X G a6 l6 c6 k6 (fun _ _ _ _ _ _ us hl=>by obtain⟨_,_,rfl⟩:=Zc0 us hl;exact rfl),ZN X G a7 l7 c7 k7 (fun _ _ _ _ _ _ us hl=>by obtain⟨_,_,rfl⟩:=Zc0 us hl;exact rfl),ZN X G a8 l8 c8 k8 (fun _ _ _ _ _ _ us hl=>by obtain⟨_,_,_,rfl⟩:=ZjP us hl;exact rfl),ZN X G a9 l9 c9 k9 (fun _ _ _ _ _ _ us hl=>by obtain⟨_,_,_,rfl⟩:=ZjP us hl;exact rfl),ZN X G a10 l10 c10 k10 (fun _ _ _ _ _ _ us hl=>by obtain⟨_,_,_,rfl⟩:=ZjP us hl;exact rfl),ZN X G a11 l11 c11 k11 (fun _ _ _ _ _ _ us hl=>by obtain⟨_,rfl⟩:=ZdI us hl;exact rfl),ZN X G a12 l12 c12 k12 (fun _ _ _ _ _ _ us hl=>by obtain⟨_,_,rfl⟩:=Zc0 us hl;exact rfl),ZN X G a13 l13 c13 k13 (fun _ _ _ _ _ _ us hl=>by obtain⟨_,_,_,rfl⟩:=ZjP us hl;exact rfl),ZN X G a14 l14 c14 k14 (fun _ _ _ _ _ _ us hl=>by obtain⟨_,_,rfl⟩:=Zc0 us hl;exact rfl),ZN X G a15 l15 c15 k15 (fun _ _ _ _ _ _ us hl=>by obtain⟨_,rfl⟩:=ZdI us hl;exact rfl),ZN X G a16 l16 c16 k16 (fun _ _ _ _ _ _ us hl=>by obtain⟨_,_,rfl⟩:=Zc0 us hl;exact rfl),ZN X G a17 l17 c17 k17 (fun _ _ _ _ _ _ us hl=>by obtain⟨_,rfl⟩:=ZdI us hl;exact rfl),ZN X G a18 l18 c18 k18 (fun _ _ _ _ _ _ us hl=>by obtain⟨_,rfl⟩:=ZdI us hl;exact rfl),ZN X G a19 l19 c19 k19 (fun _ _ _ _ _ _ us hl=>by obtain⟨_,_,rfl⟩:=Zc0 us hl;exact rfl),ZN X G a20 l20 c20 k20 (fun _ _ _ _ _ _ us hl=>by obtain⟨_,_,rfl⟩:=Zc0 us hl;exact rfl),ZN X G a21 l21 c21 k21 (fun _ _ _ _ _ _ us hl=>by obtain⟨_,rfl⟩:=ZdI us hl;exact rfl),ZN X G a22 l22 c22 k22 (fun _ _ _ _ _ _ us hl=>by obtain⟨_,rfl⟩:=ZdI us hl;exact rfl),ZN X G a23 l23 c23 k23 (fun _ _ _ _ _ _ us hl=>by obtain⟨_,_,_,rfl⟩:=ZjP us hl;exact rfl),ZN X G a24 l24 c24 k24 (fun _ _ _ _ _ _ us hl=>by obtain⟨_,_,_,rfl⟩:=ZjP us hl;exact rfl),ZN X G a25 l25 c25 k25 (fun _ _ _ _ _ _ us hl=>by obtain⟨_,_,rfl⟩:=Zc0 us hl;exact rfl),ZN X G a26 l26 c26 k26 (fun _ _ _ _ _ _ us hl=>by obtain⟨_,_,rfl⟩:=Zc0 us hl;exact rfl),ZN X G a27 l27 c27 k27 (fun _ _ _ _ _ _ us hl=>by obtain⟨_,_,rfl⟩:=Zc0 us hl;exact rfl),ZN X G a28 l28 c28 k28 (fun _ _ _ _ _ _ us hl=>by obtain⟨_,_,rfl⟩:=Zc0 us hl;exact rfl),ZN X G a29 l29 c29 k29 (fun _ _ _ _ _ _ us hl=>by obtain⟨_,rfl⟩:=ZdI us hl;exact rfl),ZN X G a30 l30 c30 k30 (fun _ _ _ _ _ _ us hl=>by obtain⟨_,_,rfl⟩:=Zc0 us hl;exact rfl),ZN X G a31 l31 c31 k31 (fun _ _ _ _ _ _ us hl=>by obtain⟨_,rfl⟩:=ZdI us hl;exact rfl),ZN X G a32 l32 c32 k32 (fun _ _ _ _ _ _ us hl=>by obtain⟨_,rfl⟩:=ZdI us hl;exact rfl),ZN X G a33 l33 c33 k33 (fun _ _ _ _ _ _ us hl=>by obtain⟨_,rfl⟩:=ZdI us hl;exact rfl),ZN X G a34 l34 c34 k34 (fun _ _ _ _ _ _ us hl=>by obtain⟨_,_,_,_,rfl⟩:=Zo4 us hl;exact rfl),ZN X G a35 l35 c35 k35 (fun _ _ _ _ _ _ us hl=>by obtain⟨_,_,rfl⟩:=Zc0 us hl;exact rfl),ZN X G a36 l36 c36 k36 (fun _ _ _ _ _ _ us hl=>by obtain⟨_,_,_,rfl⟩:=ZjP us hl;exact rfl),ZN X G a37 l37 c37 k37 (fun _ _ _ _ _ _ us hl=>by obtain⟨_,_,_,_,rfl⟩:=Zo4 us hl;exact rfl),⟨_,_,Z1 (st:=Za6) l39 c39 k39,⟨mkRow,a39,i39,kcRow⟩,(Z1 (st:=Za6) l39 c39 k39).binds (ps:=["self", "keys"]) (fun _ _ _ _ _ _ us hl=>by obtain⟨_,_,rfl⟩:=Zc0 us hl;exact rfl),PySem.W.mg_of X G aCRow⟩,⟨_,_,Z1 (st:=ZaU) l40 c40 k40,⟨a40,i40,k40⟩,(Z1 (st:=ZaU) l40 c40 k40).binds (ps:=["self"]) (fun _ _ _ _ _ _ us hl=>by obtain⟨_,rfl⟩:=ZdI us hl;exact rfl)⟩,⟨_,_,Z1 (st:=Za7) l41 c41 k41,⟨a41,i41,k41⟩,(Z1 (st:=Za7) l41 c41 k41).binds (ps:=["self"]) (fun _ _ _ _ _ _ us hl=>by obtain⟨_,rfl⟩:=ZdI us hl;exact rfl)⟩,⟨_,_,Z1 (st:=ZaM) l42 c42 k42,⟨mkMerge,a42,i42,kcMerge⟩,(Z1 (st:=ZaM) l42 c42 k42).binds (ps:=["self", "rows"]) (fun _ _ _ _ _ _ us hl=>by obtain⟨_,_,rfl⟩:=Zc0 us hl;exact rfl),PySem.W.mg_of X G aCMerge⟩,⟨_,_,Z1 (st:=Zah) l43 c43 k43,⟨a43,i43,k43⟩,(Z1 (st:=Zah) l43 c43 k43).binds (ps:=["self"]) (fun _ _ _ _ _ _ us hl=>by obtain⟨_,rfl⟩:=ZdI us hl;exact rfl)⟩,⟨_,_,Z1 (st:=ZaG) l44 c44 k44,⟨a44,i44,k44⟩,(Z1 (st:=ZaG) l44 c44 k44).binds (ps:=["self"]) (fun _ _ _ _ _ _ us hl=>by obtain⟨_,rfl⟩:=ZdI us hl;exact rfl)⟩,⟨_,_,Z1 (st:=Z2) l45 c45 k45,⟨a45,i45,k45⟩,(Z1 (st:=Z2) l45 c45 k45).binds (ps:=["self", "many"]) (fun _ _ _ _ _ _ us hl=>by obtain⟨_,_,rfl⟩:=Zc0 us hl;exact rfl)⟩,⟨_,_,Z1 (st:=ZaP) l46 c46 k46,⟨a46,i46,k46⟩,(Z1 (st:=ZaP) l46 c46 k46).binds (ps:=["self"]) (fun _ _ _ _ _ _ us hl=>by obtain⟨_,rfl⟩:=ZdI us hl;exact rfl)⟩,⟨_,_,Z1 (st:=Z0) l47 c47 k47,⟨a47,i47,k47⟩,(Z1 (st:=Z0) l47 c47 k47).binds (ps:=["self"]) (fun _ _ _ _ _ _ us hl=>by obtain⟨_,rfl⟩:=ZdI us hl;exact rfl)⟩,⟨_,_,Z1 (st:=ZaL) l48 c48 k48,⟨a48,i48,k48⟩,(Z1 (st:=ZaL) l48 c48 k48).binds (ps:=["self", "numbers"]) (fun _ _ _ _ _ _ us hl=>by obtain⟨_,_,rfl⟩:=Zc0 us hl;exact rfl)⟩,⟨_,_,Z1 (st:=Z3) l49 c49 k49,⟨a49,i49,k49⟩,(Z1 (st:=Z3) l49 c49 k49).binds (ps:=["self", "number"]) (fun _ _ _ _ _ _ us hl=>by obtain⟨_,_,rfl⟩:=Zc0 us hl;exact rfl)⟩,⟨_,_,Z1 (st:=ZS) l50 c50 k50,⟨a50,i50,k50⟩,(Z1 (st:=ZS) l50 c50 k50).binds (ps:=["self", "meeting", "comer"]) (fun _ _ _ _ _ _ us hl=>by obtain⟨_,_,_,rfl⟩:=ZjP us hl;exact rfl)⟩,⟨_,_,Z1 (st:=ZaI) l51 c51 k51,⟨a51,i51,k51⟩,(Z1 (st:=ZaI) l51 c51 k51).binds (ps:=["self", "one", "other", "far"]) (fun _ _ _ _ _ _ us hl=>by obtain⟨_,_,_,_,rfl⟩:=Zo4 us hl;exact rfl)⟩,⟨pgRow,hdRow,poRow,saRow⟩,nARow_all_keys,nARow_fars,nARow_gone,⟨pgMerge,hdMerge,poMerge,saMerge⟩,nAMerge_best,nAMerge_likened,nAMerge_looked,nAMerge_next_number,nAMerge_rows,nAMerge_stays⟩
 exact⟨PySem.W.fnOf "law" "law" (Zp Zda) (Zl Zda) (Zf Zda) .none kV38 dc38 pm38 an38 cd38 ct38,fun s v=>.of_eq rfl,fun base _ _=>Zq2 (Z1 (st:=Zda) l38 c38 k38) T⟩
theorem walk{l:PySem.W.OpenLaw}{q:Program}{loose:List Str}{XP:(Str→Option Value)→Heap→Prop}{YP:World→Heap→Prop}{d:DefRec}{K:Params→PySem.W.Frag}(hn:l.most=some 63)(hdf:d.params.defaults=[])
  (hY:∀ (w:World) (h:Heap),YP w h→(K w.params).In h)
  (F:∀ (w:World) (mg:Str→Option Value) (fa:Addr) (h:Heap),(K w.params).In h→h.Ns mainGlobals mg→mg d.name=some (.ref fa) →
   ∃fd:FuncData,(∀ (s:Shared) (u:Value),BindsTo s fd ⟨[u],[]⟩ [("_law_script",u)])∧∀base:Heap,(K w.params).In base→base.Ns mainGlobals mg→Zem l.prog w (K w.params) mg base CX0 90 fa fd ["_law_script"] (Zlt (K w.params))) :
  PySem.W.WalkO q loose XP YP l.row.toRowW d [] (fun f vs=>PySem.call f vs) :=
 L2.walk_of (n:=63) (k:=90) (x := "_law_script") (CX:=fun _=>CX0) (sp:=fun w=>Zlt (K w.params)) hn (by decide) hdf ⟨rfl,by decide,by decide,rfl⟩ hY F (fun _ _ a ns hl _ hS=>⟨a,ns,rfl,hS,hl,fun _=>rfl⟩) fun _ _ _ _ _ z=>z
end My
open PySem PySem.W PyProof.Rows
namespace PySem.W.Fast
noncomputable def tw12007019400622836286:=0
noncomputable def tw7600196482717688574:=0
noncomputable def tw10167671928338331655:=0
noncomputable def tw16655258336739349704:=0
noncomputable def tw16815567284387442984:=0
noncomputable def tw9758117085013654714:=0
noncomputable def tw8700571517650652995:=0
noncomputable def tw17985144497346482198:=0
noncomputable def tw4383374170464320444:=0
noncomputable def tw8400786246581367420:=0
noncomputable def tw7954230554574175077:=0
noncomputable def tw14526663674869280910:=0
noncomputable def tw18234713378837435224:=0
noncomputable def tw14933984447972556024:=0
noncomputable def tw9218350556451427288:=0
noncomputable def tw16628880996253789153:=0
noncomputable def tw16896711025979432586:=0
noncomputable def tw8501127721368960509:=0
noncomputable def tw9239196046988909702:=0
noncomputable def tw1909574806181359179:=0
noncomputable def tw4353814492735945131:=0
noncomputable def tw12844991128510207051:=0
noncomputable def tw17627101220775966419:=0
noncomputable def tw15175804797775554192:=0
noncomputable def tw11057838470557022112:=0
noncomputable def tw10780072659335746058:=0
noncomputable def tw6833503806363363845:=0
noncomputable def tw3469753469278999333:=0
noncomputable def tw7520025982567325192:=0
noncomputable def tw6273589512495641259:=0
noncomputable def tw5229802714311057532:=0
noncomputable def tw435550496270397429:=0
noncomputable def tw15729644699183288210:=0
noncomputable def tw11281663464303129498:=0
noncomputable def tw8743657404078708152:=0
noncomputable def tw411530222538105110:=0
noncomputable def tw3555832066626589791:=0
noncomputable def tw3160885216653581814:=0
noncomputable def tw9346199951241653110:=0
noncomputable def tw185552980055366406:=0
noncomputable def tw13584805891043748582:=0
noncomputable def tw1743922196284363924:=0
noncomputable def tw13687115654863927930:=0
noncomputable def tw16870175988525673502:=0
noncomputable def tw10902813585118979728:=0
noncomputable def tw12820180955853573501:=0
noncomputable def tw1359283535260350827:=0
noncomputable def tw15359234631822751184:=0
noncomputable def tw10157845113872336956:=0
noncomputable def tw6903648534675569311:=0
noncomputable def tw2172716630436011999:=0
noncomputable def tw10987631475737168319:=0
noncomputable def tw3221814145429485324:=0
noncomputable def tw12063672116670920955:=0
noncomputable def tw11631606264856303414:=0
noncomputable def tw3752157102767192127:=0
noncomputable def tw16468769066796736526:=0
noncomputable def tw13752605626743966130:=0
noncomputable def tw18220874065452501046:=0
noncomputable def tw15370141045195751629:=0
noncomputable def tw15134672661870534056:=0
noncomputable def tw16562596461713934197:=0
noncomputable def tw13797792183747888107:=0
noncomputable def tw13435184646683389669:=0
noncomputable def tw9527287690368666108:=0
noncomputable def tw9636065837861611039:=0
noncomputable def tw13248513072284011553:=0
noncomputable def tw4363761776714799142:=0
noncomputable def tw3203997219822044491:=0
noncomputable def tw3928584739889196077:=0
noncomputable def tw3860109256144474658:=0
noncomputable def tw17980451840767157063:=0
noncomputable def tw5637316571546282508:=0
noncomputable def tw11386683500874976211:=0
noncomputable def tw9325010727639066880:=0
noncomputable def tw16174294543009120939:=0
noncomputable def tw10688917487575024610:=0
noncomputable def tw4100889817967791734:=0
noncomputable def tw12277464860580644036:=0
noncomputable def tw17656356936353655310:=0
noncomputable def tw6710535789121411419:=0
noncomputable def tw6629220526352281107:=0
noncomputable def tw17225888012477767998:=0
noncomputable def tw16273806603522157631:=0
noncomputable def tw788976067522380000:=0
noncomputable def tw17077725639269781983:=0
noncomputable def tw11291223138439275847:=0
noncomputable def tw11693892346347766544:=0
noncomputable def tw2493992170391596513:=0
noncomputable def tw14434039423602216539:=0
noncomputable def tw16252856900400738830:=0
noncomputable def tw7403856340349201193:=0
noncomputable def tw7163814451104547822:=0
noncomputable def tw14684347259549631040:=0
noncomputable def tw16332334817176750487:=0
noncomputable def tw1317856007099974378:=0
noncomputable def tw12722000382721378965:=0
noncomputable def tw9716607084340927253:=0
noncomputable def tw2047173624907841548:=0
noncomputable def tw13392959619544451013:=0
noncomputable def tw5224848738145892471:=0
noncomputable def tw5596752503038016872:=0
noncomputable def tw2902990655061320951:=0
noncomputable def tw5713490075706750626:=0
noncomputable def tw15870050046547607211:=0
noncomputable def tw8860202669576912016:=0
noncomputable def tw12646621152448454260:=0
noncomputable def tw3614415734992383937:=0
noncomputable def tw3257400959760584985:=0
noncomputable def tw8761560914673156504:=0
noncomputable def tw2257004909992619602:=0
noncomputable def tw15210847176421645901:=0
noncomputable def tw8648467750897697306:=0
noncomputable def tw3083400301530537501:=0
noncomputable def tw14442159150354642502:=0
noncomputable def tw7053888467246946275:=0
noncomputable def tw8767589287280902831:=0
noncomputable def tw3538509503975163860:=0
noncomputable def tw15176106944109234632:=0
noncomputable def tw16138437247848277502:=0
noncomputable def tw2826563838034334742:=0
noncomputable def tw13834258239788290085:=0
noncomputable def tw10004663062810525601:=0
noncomputable def tw3096476570688985415:=0
noncomputable def tw13662150777025754983:=0
noncomputable def tw13696999924658693997:=0
noncomputable def tw13903734295817138944:=0
noncomputable def tw12547902022815171966:=0
noncomputable def tw12903222886696039526:=0
noncomputable def tw1158940041581794422:=0
noncomputable def tw3736261677924855183:=0
noncomputable def tw16204403196483903219:=0
noncomputable def tw17514349924979747971:=0
noncomputable def tw3742402298846378877:=0
noncomputable def tw664574466833324798:=0
noncomputable def tw13238977344873345435:=0
noncomputable def tw15731558733467422984:=0
noncomputable def tw16992306872766021360:=0
noncomputable def tw15095729486579330904:=0
noncomputable def tw17411407750618745915:=0
noncomputable def tw1617191312730365437:=0
noncomputable def tw11559788314752242143:=0
noncomputable def tw4570398856075617047:=0
noncomputable def tw17239833726317716335:=0
noncomputable def tw17275456299530131001:=0
noncomputable def tw6809404243907370318:=0
noncomputable def tw12643333451601003762:=0
noncomputable def tw6819608318326874307:=0
noncomputable def tw14527900492867376320:=0
noncomputable def tw8978164056861648698:=0
noncomputable def tw4118944229265131612:=0
noncomputable def tw10102220023269021115:=0
noncomputable def tw434383332423505023:=0
noncomputable def tw16600689757444675576:=0
noncomputable def tw13177446437167832578:=0
noncomputable def tw15338318160295247095:=0
noncomputable def tw11268889752760933100:=0
noncomputable def tw9925703799322947252:=0
noncomputable def tw2041097754178989721:=0
noncomputable def tw4063684697386568571:=0
noncomputable def tw17175763316927997288:=0
noncomputable def tw10955133454771472850:=0
noncomputable def tw1845245745559115631:=0
noncomputable def tw148397056099771712:=0
noncomputable def tw13986938074001748218:=0
noncomputable def tw14673106846307008369:=0
noncomputable def tw2368981866856919502:=0
noncomputable def tw17988721335280829849:=0
noncomputable def tw2114454390453452380:=0
noncomputable def tw17900729108795884318:=0
noncomputable def tw2976974500054631543:=0
noncomputable def tw15307250275091822233:=0
noncomputable def tw7275972789604399984:=0
noncomputable def tw11623726124126429792:=0
noncomputable def tw10910135413633630153:=0
noncomputable def tw9215139293319815578:=0
noncomputable def tw10089184703319310497:=0
noncomputable def tw16696545907095451997:=0
noncomputable def tw9686695846515574221:=0
noncomputable def tw3303904712003232002:=0
noncomputable def tw3071169371324956113:=0
noncomputable def tw4451748112297812260:=0
noncomputable def tw10821643083678692029:=0
noncomputable def tw14321278104482991965:=0
noncomputable def tw3662764829066169633:=0
noncomputable def tw17137432938584769922:=0
noncomputable def tw7367892984494557162:=0
noncomputable def tw1671786784302721285:=0
noncomputable def tw14195508581712219579:=0
noncomputable def tw5107238351753303655:=0
noncomputable def tw1933531898323199073:=0
noncomputable def tw11408174557747573131:=0
noncomputable def tw1567305863251037065:=0
noncomputable def tw3151059549490182259:=0
noncomputable def tw6905054849956240050:=0
noncomputable def tw16302470128238987133:=0
noncomputable def tw651575884858705908:=0
noncomputable def tw13357084507434334491:=0
noncomputable def tw9746230593387287881:=0
noncomputable def tw15676632456186109480:=0
noncomputable def tw8999664836939717840:=0
noncomputable def tw16700584308026197615:=0
noncomputable def tw5080568652424919376:=0
noncomputable def tw4819456652878755934:=0
noncomputable def tw16027148336186017164:=0
noncomputable def tw15344603316779222167:=0
noncomputable def tw17147687987398891017:=0
noncomputable def tw10497726285546327886:=0
noncomputable def tw6266486177809528151:=0
noncomputable def tw6988194068251748315:=0
noncomputable def tw16450419742411586097:=0
noncomputable def tw2546301947211773528:=0
noncomputable def tw15308686269301442031:=0
noncomputable def tw2992650514001476586:=0
noncomputable def tw14590950956122146423:=0
noncomputable def tw16867977857830816247:=0
noncomputable def tw4608676292395015076:=0
noncomputable def tw8309451270591663199:=0
noncomputable def tw752190158439903416:=0
noncomputable def tw12000881655760621150:=0
noncomputable def tw845766298849698522:=0
noncomputable def tw15832030316599824871:=0
noncomputable def tw10684116764409082344:=0
noncomputable def tw13647363856327379278:=0
noncomputable def tw8915150111141026300:=0
noncomputable def tw2135971571205766969:=0
noncomputable def tw4159944746632097135:=0
noncomputable def tw9021244865242270558:=0
noncomputable def tw5500135043808732673:=0
noncomputable def tw9426737474965648520:=0
noncomputable def tw4518185599241569844:=0
noncomputable def tw15717352681752579595:=0
noncomputable def tw5673168646208260737:=0
noncomputable def tw4924026931359093913:=0
noncomputable def tw3420357625578023087:=0
noncomputable def tw2371428392113413621:=0
noncomputable def tw15220142296187930459:=0
noncomputable def tw12164885927028388087:=0
noncomputable def tw8593041904964423163:=0
noncomputable def tw2495805085433933227:=0
noncomputable def tw16640153339667304753:=0
noncomputable def tw17074345234485438953:=0
noncomputable def tw13961170148197962558:=0
noncomputable def tw4778500589765308845:=0
noncomputable def tw9233341941612389434:=0
noncomputable def tw10554526344635685160:=0
noncomputable def tw14146192679953623223:=0
noncomputable def tw2505850095660083232:=0
noncomputable def tw2094223449963633331:=0
noncomputable def tw9435542042151759333:=0
noncomputable def tw16342588158832851984:=0
noncomputable def tw16979447939276468875:=0
noncomputable def tw17930419511337372592:=0
noncomputable def tw233191664856813604:=0
noncomputable def tw13220314733382445063:=0
noncomputable def tw13889319539848849178:=0
noncomputable def tw4875896375702539925:=0
noncomputable def tw5523693565882866553:=0
noncomputable def tw2369221890240126683:=0
noncomputable def tw9371141806736444576:=0
noncomputable def tw13210445939709823012:=0
noncomputable def tw7932770332477642904:=0
noncomputable def tw11944615296547441827:=0
noncomputable def tw9033487085780682195:=0
noncomputable def tw17840663913844454640:=0
noncomputable def tw17394219657459565713:=0
noncomputable def tw16413589196905046893:=0
noncomputable def tw15401744925797177649:=0
noncomputable def tw5470114455444567100:=0
noncomputable def tw3871883784543371284:=0
noncomputable def tw3125632766653804217:=0
noncomputable def tw5512216072737070320:=0
noncomputable def tw12722505037365626510:=0
noncomputable def tw10990120719874438286:=0
noncomputable def tw14402271253505199675:=0
noncomputable def tw8387613085940821908:=0
noncomputable def tw9765455126120951962:=0
noncomputable def tw16467653085884655415:=0
noncomputable def tw7780570829837609041:=0
noncomputable def tw543128306400286634:=0
noncomputable def tw10427172101274988390:=0
noncomputable def tw9425337293021951631:=0
noncomputable def tw16777808239340657754:=0
noncomputable def tw15490236452240350768:=0
noncomputable def tw6116903804517045902:=0
noncomputable def tw13449087012125943191:=0
noncomputable def tw16120031288209722417:=0
noncomputable def tw14743480153220302938:=0
noncomputable def tw4667285552878346292:=0
noncomputable def tw3994730639090632431:=0
noncomputable def tw12323112001822706017:=0
noncomputable def tw8648595696872714504:=0
noncomputable def tw3860654294256370210:=0
noncomputable def tw1255419990011475521:=0
noncomputable def tw13172869071043361868:=0
noncomputable def tw8788271731697533968:=0
noncomputable def tw10367984466818148583:=0
noncomputable def tw17502399071947774229:=0
noncomputable def tw15323817447777294475:=0
noncomputable def tw14604440937038360177:=0
noncomputable def tw16017971208176852216:=0
noncomputable def tw12300884479883388776:=0
noncomputable def tw12470703798950127541:=0
noncomputable def tw11515313831358466972:=0
noncomputable def tw7088332376067006437:=0
noncomputable def tw5193022905654289224:=0
noncomputable def tw5588961341045971459:=0
noncomputable def tw8801989654944266889:=0
noncomputable def tw13323906172169154030:=0
noncomputable def tw9195197605125732363:=0
noncomputable def tw13702946198233428781:=0
noncomputable def tw1565624900591905987:=0
noncomputable def tw5180538394320259398:=0
noncomputable def tw2330241528670057627:=0
noncomputable def tw4036898005850221623:=0
noncomputable def tw13358077147621654394:=0
noncomputable def tw16026035888166923388:=0
noncomputable def tw9525206177250929064:=0
noncomputable def tw8138948930377399468:=0
noncomputable def tw9805325987510536629:=0
noncomputable def tw16109128217072068737:=0
noncomputable def tw1140325838182879848:=0
noncomputable def tw3722412715325823506:=0
noncomputable def tw14870272986099766646:=0
noncomputable def tw1942903132649075176:=0
noncomputable def tw12150081700239933596:=0
noncomputable def tw4739136374222004748:=0
noncomputable def tw16508000431418225433:=0
noncomputable def tw17142506154757474563:=0
noncomputable def tw15859861812495552150:=0
noncomputable def tw10961029258314754867:=0
noncomputable def tw3114126191019029529:=0
noncomputable def tw3423459789790069384:=0
noncomputable def tw14104487699046720525:=0
noncomputable def tw15607040255748763153:=0
noncomputable def tw934045323791823869:=0
noncomputable def tw4679840897567685542:=0
noncomputable def tw7899732218681771611:=0
noncomputable def tw7352754795838783236:=0
noncomputable def tw6126977548036632159:=0
noncomputable def tw13333860525673916173:=0
noncomputable def tw339232765145056369:=0
noncomputable def tw18380142237576828424:=0
noncomputable def tw7584335759955370720:=0
noncomputable def tw18182692347168470465:=0
noncomputable def tw4620003831718835481:=0
noncomputable def tw8629507082534425654:=0
noncomputable def tw8096292734922452894:=0
noncomputable def tw3142067442763896424:=0
noncomputable def tw10692016935496420461:=0
noncomputable def tw3880082860617540729:=0
noncomputable def tw10316113673489863889:=0
noncomputable def tw16850497900573288461:=0
noncomputable def tw5307607416742545309:=0
noncomputable def tw16534580289218148526:=0
noncomputable def tw6644763164125192233:=0
noncomputable def tw9855633484010077160:=0
noncomputable def tw13280871110371194013:=0
noncomputable def tw10188469203508343302:=0
noncomputable def tw8276865309473132874:=0
noncomputable def tw14902477708122776413:=0
noncomputable def tw7478202246770999661:=0
noncomputable def tw12793131829684500990:=0
noncomputable def tw10053709932653486368:=0
noncomputable def tw218718226692653129:=0
noncomputable def tw14113727940176808137:=0
noncomputable def tw11374203203517062544:=0
noncomputable def tw17521459520790650027:=0
noncomputable def tw6979266935927779053:=0
noncomputable def tw17702552062799411118:=0
noncomputable def tw18395279396603510374:=0
noncomputable def tw15994392985380282187:=0
noncomputable def tw11877292468422743066:=0
noncomputable def tw11375095900397739926:=0
noncomputable def tw15127828254647690563:=0
noncomputable def tw2589204925594390053:=0
noncomputable def tw3573568499518344085:=0
noncomputable def tw14069792693046309809:=0
noncomputable def tw5587023577994566367:=0
noncomputable def tw13721821216047496275:=0
noncomputable def tw5440901747200405448:=0
noncomputable def tw13207609271258204576:=0
noncomputable def tw95441337189928650:=0
noncomputable def tw13581741231152459231:=0
noncomputable def tw3283083597888012863:=0
noncomputable def tw18031214375040934671:=0
noncomputable def tw18213627954732377032:=0
noncomputable def tw7472022825845986848:=0
noncomputable def tw13710220931642495587:=0
noncomputable def tw921284558750079840:=0
noncomputable def tw7305138853332778485:=0
noncomputable def tw15606512569191759520:=0
noncomputable def tw11662106852238073906:=0
noncomputable def tw18149848991367526188:=0
noncomputable def tw4390795429665407697:=0
noncomputable def tw12997849501390559861:=0
noncomputable def tw18127780021949278436:=0
noncomputable def tw411843275382837592:=0
noncomputable def tw6589420251366014570:=0
noncomputable def tw9011576823203529459:=0
noncomputable def tw13810766667833624040:=0
noncomputable def tw9619784239844972579:=0
noncomputable def tw4374848917688845960:=0
noncomputable def tw7653644275188789907:=0
noncomputable def tw13058012631626218016:=0
noncomputable def tw4991224908442349653:=0
noncomputable def tw16408264726137718906:=0
noncomputable def tw1863792734352288893:=0
noncomputable def tw15067269240458532116:=0
noncomputable def tw9316084244782762614:=0
noncomputable def tw12852394597492584364:=0
noncomputable def tw674870143788086512:=0
noncomputable def tw6506366898820254045:=0
noncomputable def tw16459384924163153239:=0
noncomputable def tw7940479617014528475:=0
noncomputable def tw17751631895811049896:=0
noncomputable def tw13663967308938344374:=0
noncomputable def tw10135316851396239175:=0
noncomputable def tw8234827859675161282:=0
noncomputable def tw3359807796029032676:=0
noncomputable def tw5765080508394189677:=0
noncomputable def tw7150802390721723933:=0
noncomputable def tw4880850603051978192:=0
noncomputable def tw10491682721120474798:=0
noncomputable def tw3535432788685943716:=0
noncomputable def tw18231317901516391414:=0
noncomputable def tw16420947285092343990:=0
noncomputable def tw3246082307470456188:=0
noncomputable def tw11654480411083427241:=0
noncomputable def tw3878253288522115061:=0
noncomputable def tw886746699615476470:=0
noncomputable def tw14651318328674343529:=0
noncomputable def tw7134643960848128636:=0
noncomputable def tw1632534122164308625:=0
noncomputable def tw17286384922768589232:=0
noncomputable def tw1847619724542597025:=0
noncomputable def tw8939551376112240873:=0
noncomputable def tw15012753295285100435:=0
noncomputable def tw16152153100376799900:=0
noncomputable def tw6486597373480135715:=0
noncomputable def tw7021942887974155745:=0
noncomputable def tw7768268553159287356:=0
noncomputable def tw3073904056967818186:=0
noncomputable def tw1226976324868433590:=0
noncomputable def tw6957483001457514071:=0
noncomputable def tw12926734916143335217:=0
noncomputable def tw4110840697196210103:=0
noncomputable def tw7472110699962089413:=0
noncomputable def tw17776235702953461886:=0
noncomputable def tw16834428723790263380:=0
noncomputable def tw17465130095217535122:=0
noncomputable def tw14758345568526332395:=0
noncomputable def tw6775632786840234777:=0
noncomputable def tw2960369761000575673:=0
noncomputable def tw17020919735846427098:=0
noncomputable def tw5693654684855577578:=0
noncomputable def tw4694126050350022678:=0
noncomputable def tw4070874561806542322:=0
noncomputable def tw12183063057420200794:=0
noncomputable def tw15600514821151698877:=0
noncomputable def tw18356287876145686019:=0
noncomputable def tw5865099020514958557:=0
noncomputable def tw6876175091670053915:=0
end PySem.W.Fast
set_option maxRecDepth 100000 in
set_option maxHeartbeats 0 in
theorem PySem.Challenge.cw_mergetree_k72_whole_runs_merged_by_any_t_holds : PySem.Challenge.rw_mergetree_k72_whole_runs_merged_by_any_t.Holds := by
 w_on;o_law;k_head;(case hw=>w_witness2)
 k_fill
 refine My.walk (l:=PySem.Challenge.rw_mergetree_k72_whole_runs_merged_by_any_t) rfl rfl (fun w h Y=>PySem.W.kIn_of Y) ?F
 case F =>
  intro w mg fa h KX G hmg
  refine' My.all_mk KX G hmg ?aCRow ?pgRow ?hdRow ?poRow ?saRow ?mkRow ?kcRow ?nARow_all_keys ?nARow_fars ?nARow_gone ?aCMerge ?pgMerge ?hdMerge ?poMerge ?saMerge ?mkMerge ?kcMerge ?nAMerge_best ?nAMerge_likened ?nAMerge_looked ?nAMerge_next_number ?nAMerge_rows ?nAMerge_stays ?a0 ?l0 ?c0 ?k0 ?a1 ?l1 ?c1 ?k1 ?a2 ?l2 ?c2 ?k2 ?a3 ?l3 ?c3 ?k3 ?a4 ?l4 ?c4 ?k4 ?a5 ?l5 ?c5 ?k5 ?a6 ?l6 ?c6 ?k6 ?a7 ?l7 ?c7 ?k7 ?a8 ?l8 ?c8 ?k8 ?a9 ?l9 ?c9 ?k9 ?a10 ?l10 ?c10 ?k10 ?a11 ?l11 ?c11 ?k11 ?a12 ?l12 ?c12 ?k12 ?a13 ?l13 ?c13 ?k13 ?a14 ?l14 ?c14 ?k14 ?a15 ?l15 ?c15 ?k15 ?a16 ?l16 ?c16 ?k16 ?a17 ?l17 ?c17 ?k17 ?a18 ?l18 ?c18 ?k18 ?a19 ?l19 ?c19 ?k19 ?a20 ?l20 ?c20 ?k20 ?a21 ?l21 ?c21 ?k21 ?a22 ?l22 ?c22 ?k22 ?a23 ?l23 ?c23 ?k23 ?a24 ?l24 ?c24 ?k24 ?a25 ?l25 ?c25 ?k25 ?a26 ?l26 ?c26 ?k26 ?a27 ?l27 ?c27 ?k27 ?a28 ?l28 ?c28 ?k28 ?a29 ?l29 ?c29 ?k29 ?a30 ?l30 ?c30 ?k30 ?a31 ?l31 ?c31 ?k31 ?a32 ?l32 ?c32 ?k32 ?a33 ?l33 ?c33 ?k33 ?a34 ?l34 ?c34 ?k34 ?a35 ?l35 ?c35 ?k35 ?a36 ?l36 ?c36 ?k36 ?a37 ?l37 ?c37 ?k37 ?a38 ?l38 ?c38 ?k38 ?a39 ?i39 ?l39 ?c39 ?k39 ?a40 ?i40 ?l40 ?c40 ?k40 ?a41 ?i41 ?l41 ?c41 ?k41 ?a42 ?i42 ?l42 ?c42 ?k42 ?a43 ?i43 ?l43 ?c43 ?k43 ?a44 ?i44 ?l44 ?c44 ?k44 ?a45 ?i45 ?l45 ?c45 ?k45 ?a46 ?i46 ?l46 ?c46 ?k46 ?a47 ?i47 ?l47 ?c47 ?k47 ?a48 ?i48 ?l48 ?c48 ?k48 ?a49 ?i49 ?l49 ?c49 ?k49 ?a50 ?i50 ?l50 ?c50 ?k50 ?a51 ?i51 ?l51 ?c51 ?k51 ?z0 ?z1 ?z2 ?z3 ?z4 ?z5 ?z6 ?z7 ?z8 ?z9 ?z10 ?z11 ?z12 ?z13
  (case aCRow=>k_is)
  (case pgRow=>k_is)
  (case hdRow=>k_is)
  (case poRow=>k_is)
  (case saRow=>k_is)
  (case mkRow=>k_is)
  (case kcRow=>k_is)
  (case nARow_all_keys=>k_is)
  (case nARow_fars=>k_is)
  (case nARow_gone=>k_is)
  (case aCMerge=>k_is)
  (case pgMerge=>k_is)
  (case hdMerge=>k_is)
  (case poMerge=>k_is)
  (case saMerge=>k_is)
  (case mkMerge=>k_is)
  (case kcMerge=>k_is)
  (case nAMerge_best=>k_is)
  (case nAMerge_likened=>k_is)
  (case nAMerge_looked=>k_is)
  (case nAMerge_next_number=>k_is)
  (case nAMerge_rows=>k_is)
  (case nAMerge_stays=>k_is)
  (case a0|l0|c0|k0=>k_is)
  (case a1|l1|c1|k1=>k_is)
  (case a2|l2|c2|k2=>k_is)
  (case a3|l3|c3|k3=>k_is)
  (case a4|l4|c4|k4=>k_is)
  (case a5|l5|c5|k5=>k_is)
  (case a6|l6|c6|k6=>k_is)
  (case a7|l7|c7|k7=>k_is)
  (case a8|l8|c8|k8=>k_is)
  (case a9|l9|c9|k9=>k_is)
  (case a10|l10|c10|k10=>k_is)
  (case a11|l11|c11|k11=>k_is)
  (case a12|l12|c12|k12=>k_is)
  (case a13|l13|c13|k13=>k_is)
  (case a14|l14|c14|k14=>k_is)
  (case a15|l15|c15|k15=>k_is)
  (case a16|l16|c16|k16=>k_is)
  (case a17|l17|c17|k17=>k_is)
  (case a18|l18|c18|k18=>k_is)
  (case a19|l19|c19|k19=>k_is)
  (case a20|l20|c20|k20=>k_is)
  (case a21|l21|c21|k21=>k_is)
  (case a22|l22|c22|k22=>k_is)
  (case a23|l23|c23|k23=>k_is)
  (case a24|l24|c24|k24=>k_is)
  (case a25|l25|c25|k25=>k_is)
  (case a26|l26|c26|k26=>k_is)
  (case a27|l27|c27|k27=>k_is)
  (case a28|l28|c28|k28=>k_is)
  (case a29|l29|c29|k29=>k_is)
  (case a30|l30|c30|k30=>k_is)
  (case a31|l31|c31|k31=>k_is)
  (case a32|l32|c32|k32=>k_is)
  (case a33|l33|c33|k33=>k_is)
  (case a34|l34|c34|k34=>k_is)
  (case a35|l35|c35|k35=>k_is)
  (case a36|l36|c36|k36=>k_is)
  (case a37|l37|c37|k37=>k_is)
  (case a38|l38|c38|k38=>k_is)
  (case a39|i39|l39|c39|k39=>k_is)
  (case a40|i40|l40|c40|k40=>k_is)
  (case a41|i41|l41|c41|k41=>k_is)
  (case a42|i42|l42|c42|k42=>k_is)
  (case a43|i43|l43|c43|k43=>k_is)
  (case a44|i44|l44|c44|k44=>k_is)
  (case a45|i45|l45|c45|k45=>k_is)
  (case a46|i46|l46|c46|k46=>k_is)
  (case a47|i47|l47|c47|k47=>k_is)
  (case a48|i48|l48|c48|k48=>k_is)
  (case a49|i49|l49|c49|k49=>k_is)
  (case a50|i50|l50|c50|k50=>k_is)
  (case a51|i51|l51|c51|k51=>k_is)
  (case z0=>k_is)
  (case z1=>k_is)
  (case z2=>k_is)
  (case z3=>k_is)
  (case z4=>k_is)
  (case z5=>k_is)
  (case z6=>k_is)
  (case z7=>k_is)
  (case z8=>k_is)
  (case z9=>k_is)
  (case z10=>k_is)
  (case z11=>k_is)
  (case z12=>k_is)
  (case z13=>k_is)
