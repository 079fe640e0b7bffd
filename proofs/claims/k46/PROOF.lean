import PyProof.Rows.All
import Wide.All
import OpenK.AllK
import Wide.FinOn
import Lean
import PyProof.EqAt
import PyProof.EqKinds
import PyProof.TupleCall
import PyProof.AttrMissHeap
import KE.KEqDict
import KE.KItemsList
import PyProof.WalksMore
import PySem.Challenge.RW_mergetree_k46_runs_merged_by_a_tree
set_option maxHeartbeats 4000000
set_option maxRecDepth 100000
set_option Elab.async false
set_option linter.all false
local macro_rules|`(tactic|ac_rfl)=>`(tactic|decide +kernel)
abbrev Qa:=@List.getElem?_eq_getElem
abbrev Qb:=@List.length_map
abbrev Qc:=@PySem.Heap.get?_push_of_some
abbrev Qd:=@List.getElem?_eq_some_iff
abbrev Qe:=@List.map_append
abbrev Qf:=@Nat.le_refl
abbrev Qg:=@List.length_append
abbrev Qh:=@List.map_cons
abbrev Qi:=@List.mem_singleton
abbrev Qj:=@List.getElem?_map
abbrev Qk:=@List.mem_append
abbrev Ql:=@List.length_singleton
abbrev Qm:=@Option.some.inj
abbrev Qn:=@List.mem_map_of_mem
abbrev Qo:=@List.getD_eq_getElem?_getD
abbrev Qp:=@List.mem_of_getElem?
abbrev Qq:=@Nat.zero_le
abbrev Qr:=@List.size_toArray
abbrev Qs:=@List.mem_cons_of_mem
abbrev Qt:=@Bool.false_ne_true
abbrev Qu:=@PySem.Heap.get?_push_size
abbrev Qv:=@PySem.Heap.lt_size
abbrev Qw:=@List.take_of_length_le
abbrev Qx:=@PySem.boot_len
abbrev Qy:=@List.length_take
abbrev Qz:=@List.mem_append_right
abbrev QA:=@PySem.F.plainAttrs_list
abbrev QB:=@List.mem_map
abbrev QC:=@List.map_map
abbrev QD:=@List.mem_append_left
abbrev QE:=@List.length_cons
abbrev QF:=@List.take_add_one
abbrev QG:=@Nat.lt_of_lt_of_le
abbrev QH:=@Nat.ne_of_lt
abbrev QI:=@PySem.F.slot_list_append
abbrev QJ:=@PySem.F.type_list_append
abbrev QK:=@PySem.W.mg_none_of
abbrev QL:=@List.sum_cons
abbrev QM:=@Nat.le_trans
abbrev QN:=@List.getElem?_eq_none
abbrev QO:=@List.mem_cons
abbrev QP:=@List.length_drop
abbrev QR:=@List.mem_of_mem_erase
abbrev QS:=@List.map_congr_left
abbrev QT:=@List.nodup_append
abbrev QU:=@List.nodup_cons
abbrev QV:=@List.getElem_mem
abbrev QW:=@List.getElem?_append_left
abbrev QX:=@Bool.and_eq_true
abbrev QY:=@List.getElem?_append_right
abbrev QZ:=@PySem.W.kia_one
abbrev Q0:=@PySem.W.kia_tup
abbrev Q1:=@PySem.Heap.get?_update_of_ne
abbrev Q3:=@List.filterMap_cons
abbrev Q4:=@PyProof.Rows.callWith_type1
abbrev Q5:=@Nat.ne_of_gt
abbrev Q6:=@List.length_pos_of_mem
abbrev Q7:=@List.length_replicate
abbrev Q8:=@List.mem_cons_self
abbrev Q9:=@Nat.lt_of_le_of_lt
abbrev Qaa:=@Nat.lt_irrefl
abbrev Qab:=@List.mem_range
abbrev Qac:=@PySem.Heap.size_push
abbrev Qad:=@List.eq_nil_of_length_eq_zero
abbrev Qae:=@List.getElem?_of_mem
abbrev Qaf:=@Int.toNat_natCast
abbrev Qag:=@List.append_nil
abbrev Qah:=@List.sum_append
abbrev Qai:=@PySem.mem_of_lookup
abbrev Qaj:=@Nat.add_lt_add_left
abbrev Qak:=@List.zip_cons_cons
abbrev Qal:=@List.getElem?_toArray
abbrev Qam:=@List.take_append_drop
abbrev Qan:=@List.getLastD_eq_getLast?
abbrev Qao:=@Nat.le_succ
abbrev Qap:=@List.length_erase_of_mem
abbrev Qaq:=@List.eraseIdxIfInBounds_toArray
abbrev Qar:=@Nat.le_add_right
abbrev Qas:=@Nat.lt_add_of_pos_right
abbrev Qat:=@List.map_nil
abbrev Qau:=@List.find?_cons_of_neg
abbrev Qav:=@Nat.add_sub_cancel
abbrev Qaw:=@List.reverse_cons
abbrev Qax:=@List.append_assoc
abbrev Qay:=@List.nodup_nil
abbrev Qaz:=@List.mem_of_mem_take
abbrev QaA:=@List.mem_of_mem_drop
abbrev QaB:=@Nat.succ_le_succ
abbrev QaC:=@List.lookup_cons
abbrev QaD:=@List.getElem?_eq_none_iff
abbrev QaE:=@Array.length_toList
abbrev QaF:=@List.getElem?_range
abbrev QaG:=@List.any_cons
abbrev QaH:=@List.getLast?_eq_getLast
abbrev QaI:=@Bool.eq_iff_iff
abbrev QaJ:=@List.find?_cons
abbrev QaK:=@Int.emod_lt_of_pos
abbrev QaL:=@List.eraseIdx_cons_succ
abbrev QaM:=@List.getElem?_set_self
abbrev QaN:=@PySem.W.kitx_list
abbrev QaO:=@PySem.W.kitx_dict
abbrev QaP:=@Option.map_eq_some_iff
abbrev QaQ:=@List.length_range
abbrev QaR:=@List.Pairwise.map
abbrev QaS:=@List.length_eq_one_iff
abbrev QaT:=@Int.add_zero
abbrev QaU:=@List.Perm.refl
abbrev QaX:=@List.all_eq_true
abbrev QaY:=@List.mem_reverse
namespace L2
open PySem PySem.Spec PyProof.Rows
abbrev Key:=Sum Int Str
def Zfp:Key→Value→Bool
 | .inl k,v=>Value.isInt k v
 | .inr x,v=>Value.isStrOf x v
def Zst(w:World):Key→Int
 | .inl k=>hashInt k
 | .inr x=>hashStr w x
theorem Zai:∀ {k:Key} {v:Value},Zfp k v=true→(∃i t,k=Sum.inl i∧v=Value.int i t)∨(∃x t,k=Sum.inr x∧v=Value.str x t)
 | .inl i,v,h=>by
  obtain⟨t,e⟩:=Value.isInt_shape (k:=i) (v:=v) h
  exact .inl ⟨i,t,rfl,e⟩
 | .inr x,v,h=>by
  obtain⟨t,e⟩:=Value.isStrOf_shape (x:=x) (v:=v) h
  exact .inr ⟨x,t,rfl,e⟩
theorem ZkV(i:Int)(t:Tok):Zfp (.inl i) (.int i t)=true:=by simp[Zfp,Value.isInt]
theorem Zls(x:Str)(t:Tok):Zfp (.inr x) (.str x t)=true:=by simp[Zfp,Value.isStrOf]
theorem ZpU(a b:Int):decide ((Sum.inl a:Key)=Sum.inl b)=(a == b):=by
 by_cases e:a=b
 ·subst e;simp
 ·have h:¬ (Sum.inl a:Key)=Sum.inl b:=fun q=>e (Sum.inl.inj q)
  rw[decide_eq_false h]
  exact(beq_eq_false_iff_ne.mpr e).symm
theorem ZpS(a b:Str):decide ((Sum.inr a:Key)=Sum.inr b)=decide (a=b):=by
 by_cases e:a=b
 ·subst e;simp
 ·have h:¬ (Sum.inr a:Key)=Sum.inr b:=fun q=>e (Sum.inr.inj q)
  rw[decide_eq_false h,decide_eq_false e]
theorem Zp6(a:Int)(b:Str):decide ((Sum.inl a:Key)=Sum.inr b)=false:=decide_eq_false (fun q=>nomatch q)
theorem ZpK(a:Str)(b:Int):decide ((Sum.inr a:Key)=Sum.inl b)=false:=decide_eq_false (fun q=>nomatch q)
def Zan(prog:Program)(w:World):PySem.KeyKind prog w Key where
 is:=Zfp
 hash:=Zst w
 inj:=fun v a b ha hb=>by
  rcases Zai ha with⟨i,t,rfl,rfl⟩|⟨x,t,rfl,rfl⟩
  ·rcases Zai hb with⟨j,u,rfl,e⟩|⟨y,u,rfl,e⟩
   ·injection e with e1 _;rw[e1]
   ·exact nomatch e
  ·rcases Zai hb with⟨j,u,rfl,e⟩|⟨y,u,rfl,e⟩
   ·exact nomatch e
   ·injection e with e1 _;rw[e1]
 byValue:=fun k v h=>by
  rcases Zai h with⟨i,t,rfl,rfl⟩|⟨x,t,rfl,rfl⟩<;>rfl
 pyHash:=fun hv h=>by
  rcases Zai hv with⟨i,t,rfl,rfl⟩|⟨x,t,rfl,rfl⟩
  ·exact wpAny_pyHash_int h
  ·exact wpAny_pyHash_str h
 eqBool:=fun hu hv h=>by
  rcases Zai hu with⟨i,t,rfl,rfl⟩|⟨x,t,rfl,rfl⟩
  ·rcases Zai hv with⟨j,u,rfl,rfl⟩|⟨y,u,rfl,rfl⟩
   ·rw[ZpU]at h;exact wpAny_eqBool_int h
   ·rw[Zp6]at h;exact SeqAt.EqAt.int_str i t y u _ _ _ _ h
  ·rcases Zai hv with⟨j,u,rfl,rfl⟩|⟨y,u,rfl,rfl⟩
   ·rw[ZpK]at h;exact SeqAt.EqAt.str_int x t j u _ _ _ _ h
   ·rw[ZpS]at h;exact wpAny_eqBool_str h
 «strs»:=fun k x t v h=>by
  rcases Zai h with⟨i,u,rfl,e⟩|⟨y,u,rfl,e⟩
  ·exact nomatch e
  ·injection e with e1 _
   subst e1
   cases v<;>rfl
theorem Zjl(prog:Program)(w:World)(k:Key)(v:Value):(Zan prog w).is k v=Zfp k v:=rfl
theorem Zip(prog:Program)(w:World)(i:Int)(t:Tok):(Zan prog w).is (.inl i) (.int i t)=true:=ZkV i t
theorem Zic(prog:Program)(w:World)(x:Str)(t:Tok):(Zan prog w).is (.inr x) (.str x t)=true:=Zls x t
inductive V where
 | non|bl (b:Bool)|int (i:Int)|str (x:Str)|byt (b:Array UInt8)|flt (b:UInt64)|ref (a:Addr)|ty (n:String)
 deriving DecidableEq
def Zx:V→Value→Prop
 | .non,u=>u=Value.none
 | .bl b,u=>u=Value.bool b
 | .int i,u=>∃t,u=Value.int i t
 | .str x,u=>∃t,u=Value.str x t
 | .byt b,u=>∃t,u=Value.bytes b t
 | .flt b,u=>∃t,u=Value.float b t
 | .ref a,u=>u=Value.ref a
 | .ty n,u=>u=Value.type n
abbrev Zv:List V→List Value→Prop:=Paired Zx
theorem Zv.length{xs:List V}{us:List Value}(r:Zv xs us):xs.length=us.length:=Paired.length r
theorem Zv.get:∀ {xs:List V} {us:List Value} {i:Nat} {x:V},Zv xs us→xs[i]? = some x→∃u,us[i]? = some u∧Zx x u
 | _,_,_,_,.nil,e=>by simp at e
 | _,_,0,_,.cons r _,e=>by simp at e;subst e;exact⟨_,rfl,r⟩
 | _,_,i+1,x,.cons _ t,e=>by
  obtain⟨u,h1,h2⟩:=Zv.get (i:=i) (x:=x) t (by simpa using e)
  exact⟨u,by simpa using h1,h2⟩
theorem Zv.set{x:V}{u:Value}(r:Zx x u):∀ {xs:List V} {us:List Value} (i:Nat),Zv xs us→Zv (xs.set i x) (us.set i u)
 | _,_,_,.nil=>.nil
 | _,_,0,.cons _ t=>.cons r t
 | _,_,i+1,.cons q t=>.cons q (Zv.set r i t)
theorem Zv.append:∀ {xs ys:List V} {us ws:List Value},Zv xs us→Zv ys ws→Zv (xs++ys) (us++ws)
 | _,_,_,_,.nil,s=>s
 | _,_,_,_,.cons r t,s=>.cons r (Zv.append t s)
theorem Zv.take:∀ {xs:List V} {us:List Value} (n:Nat),Zv xs us→Zv (xs.take n) (us.take n)
 | _,_,0,_=>.nil
 | _,_,_+1,.nil=>.nil
 | _,_,n+1,.cons r t=>.cons r (Zv.take n t)
theorem Zv.drop:∀ {xs:List V} {us:List Value} (n:Nat),Zv xs us→Zv (xs.drop n) (us.drop n)
 | _,_,0,r=>r
 | _,_,_+1,.nil=>.nil
 | _,_,n+1,.cons _ t=>Zv.drop n t
def ZcU:Option V→Option Value→Prop
 | some v,some u=>Zx v u
 | none,none=>True
 | _,_=>False
def KV{κ:Type}:List (κ×V)→List (κ×Value)→Prop:=Paired fun (p:κ×V) (q:κ×Value)=>p.1=q.1∧Zx p.2 q.2
def kV:Key→V
 | .inl i=>.int i
 | .inr x=>.str x
inductive HO where
  | lst (xs:List V)
  | tup (xs:List V)
  | dK (kvs:List (Key×V))|dT (kvs:List (List Key×V))
  | set (S:Int→Bool) (n:Nat)
  | ins (C dx:Addr) (fs:List (Str×V))
  | own (x:Addr)
  | xd (fs:List (Str×V))
  | met (f x:Addr)
  | rng (lo hi:Int)
  | frz (o:Obj) (u:HO)
  | tbl (ps:Array Value)
  | ext (φ:Heap→Prop)
abbrev Hp:=Addr→Option HO
def upd(H:Hp)(a:Addr)(o:HO):Hp:=fun b=>if b=a then some o else H b
theorem Zc{H:Hp}{a:Addr}{o:HO}:upd H a o a=some o:=by unfold upd;rw[if_pos rfl]
theorem Zd{H:Hp}{a b:Addr}{o:HO}(h:b≠a):upd H a o b=H b:=by unfold upd;rw[if_neg h]
theorem ZoS{H:Hp}{a b:Addr}{o u:HO}(h:H a=some o)(h':H b=some u)(d:o≠u):a≠b:=by
 intro e;subst e;rw[h]at h';exact d (Qm h')
theorem Zb{H:Hp}{a b:Addr}{o:HO}(h:H a=some o)(h':H b=none):a≠b:=by
 intro e;subst e;rw[h]at h';cases h'
section
variable (P:Program) (w:World)
def Zac(H:Hp)(h:Heap)(a:Addr):HO→Prop
 | .lst xs=>xs.length≤sizeLine∧∃ (its:List Value) (n:Nat),Zv xs its∧h.get? a=some { cls:=.type "list",data:=.seq its.toArray n }
 | .tup xs=>xs.length≤sizeLine∧∃its:List Value,Zv xs its∧IsTup h a its.toArray
 | .dK kvs=>kvs.length≤sizeLine∧(a == sysModules)=false∧∃vs,KV kvs vs∧h.DictOf (Zan P w) a vs
 | .dT kvs=>kvs.length≤sizeLine∧(a == sysModules)=false∧∃xs:List (List Key×Addr×Value),
   Paired (fun (p:List Key×V) (q:List Key×Addr×Value)=>p.1=q.1∧H q.2.1=some (.tup (p.1.map kV))∧Zx p.2 q.2.2) kvs xs ∧
   ∃o es ep,h.get? a=some o∧o.ExactDict∧o.data=.dict es ep∧es.toList=xs.map (entryOfKey (tupleKind (Zan P w)))∧(xs.map (·.1)).Nodup
 | .set S n=>h.SetOf (intKind P w) a S n
 | .ins C dx fs=>H dx=some (.own a)∧fs.length≤1000∧dx≠a∧h.get? a=some (PySem.W.instObj C dx) ∧
   ∃mA,h.Ns1 dx mA∧(∀f,ZcU (fs.lookup f) (mA f))∧PySem.Within mA (fs.map (·.1))
 | .own _=>∃o,h.get? a=some o
 | .xd fs=>∃mA,h.Ns1 a mA∧∀f,ZcU (fs.lookup f) (mA f)
 | .rng lo hi=>∃t u v,h.get? a=some { cls:=.type "range",data:=.fields #[.int lo t,.int hi u,.int 1 v] }
 | .frz o u=>h.get? a=some o∧Zac H h a u
 | .tbl ps=>h.get? a=some { cls:=.none,data:=.fields ps }
 | .met f x=>h.get? a=some (PySem.W.methodObj (.ref f) (.ref x))
 | .ext φ=>φ h∧(∃o,h.get? a=some o)∧∀h1 h2:Heap,φ h1→(∀o,h1.get? a=some o→h2.get? a=some o)→φ h2
def HOk(H:Hp)(h:Heap):Prop:=∀a o,H a=some o→Zac P w H h a o
end
section
variable {P:Program} {w:World} {H H':Hp} {h h':Heap} {a:Addr} {o:HO}
theorem Zac.lt(x:Zac P w H h a o):a<h.objs.size:=by
 cases o with
 | lst xs=>obtain⟨_,_,_,_,e⟩:=x;exact Qv e
 | tup xs=>obtain⟨_,_,_,p⟩:=x;exact p.lt
 | dK kvs=>obtain⟨_,_,_,_,o,_,_,e,_⟩:=x;exact Qv e
 | dT kvs=>obtain⟨_,_,_,_,o,_,_,e,_⟩:=x;exact Qv e
 | set S n=>obtain⟨o,_,_,_,e,_⟩:=x;exact Qv e
 | ins C dx fs=>obtain⟨_,_,_,e,_⟩:=x;exact Qv e
 | own y=>obtain⟨_,e⟩:=x;exact Qv e
 | xd fs=>obtain⟨_,⟨_,_,_,e,_⟩,_⟩:=x;exact Qv e
 | rng lo hi=>obtain⟨_,_,_,e⟩:=x;exact Qv e
 | frz ob u=>obtain⟨e,_⟩:=x;exact Qv e
 | tbl ps=>exact Qv (show h.get? a=some _ from x)
 | met f y=>exact Qv (show h.get? a=some _ from x)
 | ext φ=>obtain⟨_,⟨_,e⟩,_⟩:=x;exact Qv e
theorem Paired.mapP{α β:Type}{F G:α→β→Prop}:∀ {l₁:List α} {l₂:List β},Paired F l₁ l₂→(∀a b,F a b→G a b)→Paired G l₁ l₂
 | _,_,.nil,_=>.nil
 | _,_,.cons r t,f=>.cons (f _ _ r) (Paired.mapP t f)
theorem Zac.stay(x:Zac P w H h a o)(k:∀b u,(b=a∨H b=some (.own a))→h.get? b=some u→h'.get? b=some u)
  (ho:∀b,H b=some (.own a)→H' b=some (.own a)) (ht:∀b xs,H b=some (.tup xs)→H' b=some (.tup xs)):Zac P w H' h' a o:=by
 induction o with
 | lst xs=>obtain⟨z,its,n,r,e⟩:=x;exact⟨z,its,n,r,k _ _ (.inl rfl) e⟩
 | tup xs=>obtain⟨z,its,r,ob,e,c⟩:=x;exact⟨z,its,r,ob,k _ _ (.inl rfl) e,c⟩
 | dK kvs=>obtain⟨z,y,vs,r,ob,es,ep,e,c⟩:=x;exact⟨z,y,vs,r,ob,es,ep,k _ _ (.inl rfl) e,c⟩
 | dT kvs =>
  obtain⟨z,y,xs,r,ob,es,ep,e,c⟩:=x
  exact⟨z,y,xs,Paired.mapP r fun p q z=>⟨z.1,ht _ _ z.2.1,z.2.2⟩,ob,es,ep,k _ _ (.inl rfl) e,c⟩
 | set S n=>obtain⟨ob,es,ep,t,e,c⟩:=x;exact⟨ob,es,ep,t,k _ _ (.inl rfl) e,c⟩
 | ins C dx fs =>
  obtain⟨d,z,ne,e,mA,⟨od,es,ep,e2,c⟩,r⟩:=x
  exact⟨ho _ d,z,ne,k _ _ (.inl rfl) e,mA,⟨od,es,ep,k _ _ (.inr d) e2,c⟩,r⟩
 | own y=>obtain⟨ob,e⟩:=x;exact⟨ob,k _ _ (.inl rfl) e⟩
 | xd fs=>obtain⟨mA,⟨od,es,ep,e,c⟩,r⟩:=x;exact⟨mA,⟨od,es,ep,k _ _ (.inl rfl) e,c⟩,r⟩
 | rng lo hi=>obtain⟨t,u,v,e⟩:=x;exact⟨t,u,v,k _ _ (.inl rfl) e⟩
 | frz ob u ih=>obtain⟨e,q⟩:=x;exact⟨k _ _ (.inl rfl) e,ih q⟩
 | tbl ps =>
  have e:h.get? a=some { cls:=.none,data:=.fields ps }:=x
  show h'.get? a=some { cls:=.none,data:=.fields ps }
  exact k a _ (.inl rfl) e
 | met f y =>
  have e:h.get? a=some (PySem.W.methodObj (.ref f) (.ref y)):=x
  show h'.get? a=some (PySem.W.methodObj (.ref f) (.ref y))
  exact k a _ (.inl rfl) e
 | ext φ=>obtain⟨p,⟨o,e⟩,st⟩:=x;exact⟨st _ _ p fun o q=>k _ _ (.inl rfl) q,⟨o,k _ _ (.inl rfl) e⟩,st⟩
theorem HOk.lt(x:HOk P w H h)(e:H a=some o):a<h.objs.size:=(x a o e).lt
theorem HOk.fresh(x:HOk P w H h)(e:h.objs.size≤a):H a=none:=by
 cases q:H a with
 | none=>rfl
 | some u=>exact absurd (QG (x.lt q) e) (Qaa _)
theorem HOk.kept(x:HOk P w H h)(k:∀b u,h.get? b=some u→h'.get? b=some u):HOk P w H h':=fun a o e =>
 (x a o e).stay (fun b u _ q=>k b u q) (fun _ q=>q) fun _ _ q=>q
theorem HOk.laid(x:HOk P w H h)(k:∀b u,h.get? b=some u→h'.get? b=some u)(hp:h.objs.size≤a)(new:Zac P w (upd H a o) h' a o):HOk P w (upd H a o) h':=fun b u e=>by
 have hn:=x.fresh hp
 by_cases hb:b=a
 ·subst hb;rw[Zc]at e;cases e;exact new
 ·rw[Zd hb]at e
  exact(x b u e).stay (fun c v _ q=>k c v q) (fun c q=>by rw[Zd (Zb q hn)];exact q) fun c xs q=>by rw[Zd (Zb q hn)];exact q
end
def Rd(H:Hp)(a:Addr)(u:HO):Prop:=H a=some u∨∃o,H a=some (.frz o u)
theorem Rd.ok{P:Program}{w:World}{H:Hp}{h:Heap}{a:Addr}{u:HO}(r:Rd H a u)(x:HOk P w H h):Zac P w H h a u:=by
 rcases r with r|⟨o,r⟩
 ·exact x a u r
 ·obtain⟨_,q⟩:=x a _ r
  exact q
def Mut:Option HO→Prop
 | some (.lst _)=>True
 | some (.dK _)=>True
 | some (.dT _)=>True
 | some (.set _ _)=>True
 | some (.ins _ _ _)=>True
 | some (.ext _)=>True
 | _=>False
section
variable {P:Program} {w:World} {H:Hp} {h h':Heap} {x e:Addr} {o':HO}
theorem HOk.write(ok:HOk P w H h)(mu:Mut (H x))(he:e=x∨H e=some (.own x))(k:∀b u,b≠e→h.get? b=some u→h'.get? b=some u)(heo:∃u,h'.get? e=some u)
  (new:Zac P w (upd H x o') h' x o'):HOk P w (upd H x o') h':=fun b u q=>by
 have nown:∀c y,H c=some (.own y)→c≠x:=fun c y r z=>by subst z;rw[r]at mu;exact mu
 have ntup:∀c xs,H c=some (.tup xs)→c≠x:=fun c xs r z=>by subst z;rw[r]at mu;exact mu
 by_cases hb:b=x
 ·subst hb;rw[Zc]at q;cases q;exact new
 ·rw[Zd hb]at q
  by_cases hbe:b=e
  ·have q':H b=some (.own x):=by
    rcases he with z|z
    ·exact absurd (hbe.trans z) hb
    ·rw[hbe];exact z
   rw[q]at q';cases q'
   obtain⟨v,hv⟩:=heo
   exact⟨v,by rw[hbe];exact hv⟩
  ·refine(ok b u q).stay (fun c v hc r=>k c v ?_ r) (fun c r=>by rw[Zd (nown c b r)];exact r) fun c xs r=>by rw[Zd (ntup c xs r)];exact r
   rcases hc with rfl|hc
   ·exact hbe
   ·rintro rfl
    rcases he with z|z
    ·exact nown c b hc z
    ·rw[hc]at z;cases z;exact hb rfl
end
structure Un (fs ex:List Addr) (H H':Hp) (h h':Heap):Prop where
 keep:∀b o,h.get? b=some o→H b=none→b ∉ fs→b ∉ ex→h'.get? b=some o
 slot:∀b o,h.get? b=some o→H b=none→b∈fs→b ∉ ex→∃sl,h'.get? b=some { o with slots:=sl }
 free:∀b o,h.get? b=some o→H b=none→b ∉ ex→H' b=none
 there:∀b o,h.get? b=some o→b ∉ ex→∃o',h'.get? b=some o'
 tups:∀b xs,H b=some (.tup xs)→H' b=some (.tup xs)
 frzs:∀b o u,H b=some (.frz o u)→H' b=some (.frz o u)
 tbls:∀b ps,H b=some (.tbl ps)→∃more,H' b=some (.tbl (ps++more))
section
variable {fs fs' ex ex':List Addr} {H H1 H2:Hp} {h h1 h2 h':Heap} {a x e:Addr} {o:HO}
theorem Un.any(u:Un fs ex H H1 h h1){b:Addr}{ob:Obj}(q:h.get? b=some ob)(n:H b=none)(hx:b ∉ ex):∃sl,h1.get? b=some { ob with slots:=sl }:=by
 by_cases hb:b∈fs
 ·exact u.slot b ob q n hb hx
 ·exact⟨ob.slots,u.keep b ob q n hb hx⟩
theorem Un.kept(k:∀b u,h.get? b=some u→h'.get? b=some u):Un fs ex H H h h' :=
 ⟨fun b ob q _ _ _=>k b ob q,fun b ob q _ _ _=>⟨ob.slots,k b ob q⟩,fun _ _ _ n _=>n,fun b ob q _=>⟨ob,k b ob q⟩,fun _ _ q=>q,fun _ _ _ q=>q,fun _ ps q=>⟨#[],by rw[q];simp⟩⟩
theorem Un.refl:Un fs ex H H h h:=Un.kept fun _ _ q=>q
theorem Un.laid(k:∀b u,h.get? b=some u→h'.get? b=some u)(hp:h.objs.size≤a)(hn:H a=none):Un fs ex H (upd H a o) h h' where
 keep:=fun b u q _ _ _=>k b u q
 slot:=fun b u q _ _ _=>⟨u.slots,k b u q⟩
 free:=fun b u q n _=>by rw[Zd (QH (QG (Qv q) hp))];exact n
 there:=fun b u q _=>⟨u,k b u q⟩
 tups:=fun b xs q=>by rw[Zd (Zb q hn)];exact q
 frzs:=fun b u xs q=>by rw[Zd (Zb q hn)];exact q
 tbls:=fun b ps q=>⟨#[],by rw[Zd (Zb q hn),q];simp⟩
theorem Un.write(mu:Mut (H x))(he:e=x∨H e=some (.own x))(k:∀b u,b≠e→h.get? b=some u→h'.get? b=some u)(heo:∃u,h'.get? e=some u):Un fs ex H (upd H x o) h h':=by
 have hx:∀b,H b=none→b≠x:=fun b n z=>by subst z;rw[n]at mu;exact mu
 have hb:∀b,H b=none→b≠e:=fun b n z=>by
  subst z
  rcases he with r|r
  ·exact hx b n r
  ·rw[n]at r;cases r
 have hm:∀b u,H b=some u→¬ Mut (some u)→b≠x:=fun b u q nm z=>by subst z;rw[q]at mu;exact nm mu
 refine⟨fun b u q n _ _=>k b u (hb b n) q,fun b u q n _ _=>⟨u.slots,k b u (hb b n) q⟩,fun b u q n _=>by rw[Zd (hx b n)];exact n,fun b u q _=>?_,
  fun b xs q=>by rw[Zd (hm b _ q fun z=>z)];exact q,fun b u xs q=>by rw[Zd (hm b _ q fun z=>z)];exact q,fun b ps q=>⟨#[],by rw[Zd (hm b _ q fun z=>z),q];simp⟩⟩
 by_cases hbe:b=e
 ·subst hbe;exact heo
 ·exact⟨u,k b u hbe q⟩
end
def trk(h:Heap)(H:Hp):List Addr:=(List.range h.objs.size).filter fun a=>(H a).isSome
def Zhb(h:Heap)(H:Hp):Heap:=PySem.W.hideAll h (trk h H)
theorem Zku(h:Heap)(H:Hp):(Zhb h H).objs.size=h.objs.size:=PySem.W.hideAll_size _ _
theorem Znc{h:Heap}{H:Hp}{b:Addr}{o:Obj}(e:h.get? b=some o)(n:H b=none):(Zhb h H).get? b=some o :=
 PySem.W.hideAll_get _ e fun hm=>by
  have q:(H b).isSome=true:=(List.mem_filter.mp hm).2
  rw[n]at q;simp at q
theorem ZnP{h:Heap}{H:Hp}{b:Addr}{o:Obj}(e:(Zhb h H).get? b=some o):h.get? b=some o∧H b=none:=by
 have e':h.get? b=some o:=PySem.W.of_hideAll (trk h H) e
 refine⟨e',?_⟩
 cases q:H b with
 | none=>rfl
 | some x =>
  have hm:b∈trk h H:=List.mem_filter.mpr ⟨Qab.mpr (Qv e'),by simp[q]⟩
  have z:(Zhb h H).get? b=none:=PySem.W.hideAll_none (trk h H) hm
  rw[z]at e;cases e
def ZnM(g h:Heap)(L:Addr):List (Addr×Obj):=(List.range h.objs.size).filterMap fun a=>if a=L∨(g.get? a).isSome=true then none else (h.get? a).map fun o=>(a,o)
def rest(g h:Heap)(L d:Addr):List (Addr×Obj):=(ZnM g h L).filter fun p=>decide (p.1≠d)
structure Mod (K:PySem.W.Frag) (mg:Str→Option Value) (base:Heap):Prop where
 kin:K.In base
 glob:base.Ns mainGlobals mg
 blt:∃mb,base.Ns builtinsNs mb∧∀x:Str,x ≠ "__name__"→mb x=bootBuiltins x
 nolimit:base.NoLimit
structure Cx where
 prog:Program
 w:World
 K:PySem.W.Frag
 mg:Str→Option Value
 base:Heap
 A:Around
 N:List Str
 s₀:Shared
 H₀:Hp
 env:Env
 outer:List Env
 stack:List Env
 ex:List Addr
 fn:Str→Bool
 calm:Bool
 pn:List (Addr×Obj)
 xe:Value→Shared→Prop
def frs(l:List Env):List Addr:=l.filterMap (·.frame)
abbrev Cx.fs(X:Cx):List Addr:=frs X.outer
def Vis(sc:Scope)(x:Str):Prop:=sc.names.lookup x=some .local∨sc.names.lookup x=some .cell∨sc.names.lookup x=some .free
def Loc(sc:Scope)(x:Str):Prop:=sc.names.lookup x=some .local∨sc.names.lookup x=some .cell
def Zsl(env:Env)(h:Heap)(m:Str→Option Value)(x:Str)(u:Value):Prop :=
 (env.kindOf x=some .local∧m x=some u)∨((env.kindOf x=some .cell∨env.kindOf x=some .free)∧∃c,env.cells.lookup x=some c∧h.IsCell c (some u))
structure Cx.Ok (X:Cx):Prop where
 mod:Mod X.K X.mg X.base
 kind:X.env.scope.kind=.function
 glob:X.env.globals=mainGlobals
 blt:X.env.builtins=builtinsNs
 above:X.s₀.heap.objs.size≤X.env.locals
 inj:∀x y c,X.env.cells.lookup x=some c→X.env.cells.lookup y=some c→x=y
 has:∀x,(X.env.kindOf x=some .cell∨X.env.kindOf x=some .free)→∃c,X.env.cells.lookup x=some c
 cab:∀x c,X.fn x=true→X.env.cells.lookup x=some c→X.s₀.heap.objs.size≤c
 hd:X.calm=true→X.A.handled=none
 frames:X.A.frames=some X.stack
 stk:X.stack=X.outer∨(X.stack=X.env::X.outer∧X.env.frame=some X.env.locals)
 exf:∀b∈X.ex,b≠X.env.locals∧∀x c,X.env.cells.lookup x=some c→c≠b
 bs:∀b o,X.base.get? b=some o→X.s₀.heap.get? b=some o∧X.H₀ b=none
 bsz:X.base.objs.size≤X.s₀.heap.objs.size
 noex:∀b o,X.base.get? b=some o→b ∉ X.ex
 exfs:∀b∈X.ex,b ∉ X.fs
 funs:X.s₀.heap.FunFrames X.base X.outer
 frf:∀b∈X.fs,X.H₀ b=none
structure Inv (X:Cx) (pins:List (Addr×Obj)) (σ:List (Option V)) (H:Hp) (s:Shared):Prop where
 ok:X.Ok
 os:s.os=X.s₀.os
 bare:AllBare s.gens
 base:Un X.fs X.ex X.H₀ H X.s₀.heap s.heap
 loc:∃m,s.heap.Ns X.env.locals m∧∀ (i:Nat) (x:Str) (v:V),X.N[i]? = some x→σ[i]? = some (some v)→Vis X.env.scope x→∃u,Zx v u∧Zsl X.env s.heap m x u
 cell:∀x c,X.env.cells.lookup x=some c→∃v,s.heap.IsCell c v
 free:H X.env.locals=none
 freeC:∀x c,X.env.cells.lookup x=some c→H c=none
 pin:∀p∈X.pn++pins,s.heap.get? p.1=some p.2∧H p.1=none∧p.1≠X.env.locals∧p.1 ∉ X.fs∧∀v,p.2.data≠.cell v
 hok:HOk X.prog X.w H s.heap
 len:σ.length=X.N.length
section
variable {X:Cx} {pins:List (Addr×Obj)} {σ:List (Option V)} {H H':Hp} {s:Shared} {h':Heap}
theorem Cx.Ok.nofr(ok:X.Ok){b:Addr}{o:Obj}(e:X.base.get? b=some o):b ∉ X.fs:=fun hb=>by
 have:=(ok.funs.mem hb).1
 rw[e]at this;cases this
theorem Inv.bs(I:Inv X pins σ H s):∀b o,X.base.get? b=some o→s.heap.get? b=some o∧H b=none:=fun b o e =>
 ⟨I.base.keep b o (I.ok.bs b o e).1 (I.ok.bs b o e).2 (I.ok.nofr e) (I.ok.noex b o e),I.base.free b o (I.ok.bs b o e).1 (I.ok.bs b o e).2 (I.ok.noex b o e)⟩
theorem Inv.bk(I:Inv X pins σ H s):∀b o,X.base.get? b=some o→s.heap.get? b=some o:=fun b o e=>(I.bs b o e).1
theorem Inv.mod(I:Inv X pins σ H s):Mod X.K X.mg X.base:=I.ok.mod
theorem Inv.kIn(I:Inv X pins σ H s):X.K.In s.heap:=I.ok.mod.kin.keeps I.bk
theorem Inv.lt(I:Inv X pins σ H s):X.env.locals<s.heap.objs.size:=let ⟨_,hn,_⟩:=I.loc;hn.lt
theorem Inv.sz(I:Inv X pins σ H s):X.s₀.heap.objs.size≤s.heap.objs.size:=QM I.ok.above (Nat.le_of_lt I.lt)
theorem Inv.nofs(I:Inv X pins σ H s){a:Addr}(h:s.heap.objs.size≤a):a ∉ X.fs:=fun hb=>by
 obtain⟨_,o,ho,_⟩:=I.ok.funs.mem hb
 exact absurd (QG (Qv ho) (QM I.sz h)) (Qaa _)
theorem Inv.cne(I:Inv X pins σ H s):∀x c,X.env.cells.lookup x=some c→c≠X.env.locals:=fun x c e z=>by
 obtain⟨v,o,ho,hd⟩:=I.cell x c e
 obtain⟨m,⟨o',es,ep,ho',hd',_⟩,_⟩:=I.loc
 rw[z,ho']at ho;cases ho;rw[hd']at hd;cases hd
theorem Inv.funs(I:Inv X pins σ H s):s.heap.FunFrames X.base X.outer:=by
 have all:∀ (l:List Env),(∀b∈frs l,b∈X.fs)→X.s₀.heap.FunFrames X.base l→s.heap.FunFrames X.base l:=by
  intro l
  induction l with
  | nil=>intro _ _;trivial
  | cons env r ih =>
   intro hs hl
   obtain⟨hk,⟨L,o,hf,hn,ho,hd⟩,hr⟩:=hl
   have hL:L∈X.fs:=hs L (by unfold frs;rw[Q3,hf];exact Q8)
   obtain⟨sl,e⟩:=I.base.slot L o ho (I.ok.frf L hL) hL fun z=>I.ok.exfs L z hL
   exact⟨hk,⟨L,_,hf,hn,e,hd⟩,ih (fun b hb=>hs b (by unfold frs;rw[Q3,hf];exact Qs _ hb)) hr⟩
 exact all X.outer (fun _ hb=>hb) I.ok.funs
theorem Inv.stack(I:Inv X pins σ H s):s.heap.FunFrames X.base X.stack:=by
 rcases I.ok.stk with e|⟨e,hf⟩
 ·rw[e];exact I.funs
 ·rw[e]
  obtain⟨m,hn,_⟩:=I.loc
  refine .cons (by rw[I.ok.kind];decide) hf hn ?_ I.funs
  exact Heap.get?_none_of_le (QM I.ok.bsz I.ok.above)
theorem Inv.stkSub(I:Inv X pins σ H s):∀b∈frs X.stack,b∈X.env.locals::X.fs:=fun b hb=>by
 rcases I.ok.stk with e|⟨e,hf⟩
 ·rw[e]at hb;exact Qs _ hb
 ·rw[e]at hb
  unfold frs at hb
  rw[Q3,hf]at hb
  exact hb
theorem Inv.stkFree(I:Inv X pins σ H s):∀b∈frs X.stack,H b=none:=fun b hb=>by
 rcases QO.mp (I.stkSub b hb) with e|hb
 ·rw[e];exact I.free
 ·obtain⟨_,o,ho,_⟩:=I.ok.funs.mem hb
  exact I.base.free b o ho (I.ok.frf b hb) fun z=>I.ok.exfs b z hb
theorem Inv.step{g':Array GenState}{t':Nat}{d':Drawn}{ch:List Addr}(I:Inv X pins σ H s)
  (hch:∀b∈ch,(b∈X.ex∨X.s₀.heap.objs.size≤b)∧b≠X.env.locals∧(∀x c,X.env.cells.lookup x=some c→c≠b)∧∀p∈X.pn++pins,p.1≠b)
  (keep:∀b o,b≠X.env.locals→b ∉ X.fs→b ∉ ch→s.heap.get? b=some o→H b=none→h'.get? b=some o)
  (slot:∀b o,b≠X.env.locals→b∈X.fs→b ∉ ch→s.heap.get? b=some o→H b=none→∃sl,h'.get? b=some { o with slots:=sl }) (free:∀b o,b ∉ ch→s.heap.get? b=some o→H b=none→H' b=none)
  (there:∀b o,b ∉ ch→s.heap.get? b=some o→∃o',h'.get? b=some o')
  (tups:∀b xs,H b=some (.tup xs)→H' b=some (.tup xs)) (frzs:∀b o u,H b=some (.frz o u)→H' b=some (.frz o u)) (tbls:∀b ps,H b=some (.tbl ps)→∃more,H' b=some (.tbl (ps++more)))
  (ns:∀m,s.heap.Ns X.env.locals m→h'.Ns X.env.locals m) (hok:HOk X.prog X.w H' h') (hg:AllBare g') :
  Inv X pins σ H' { s with heap:=h',gens:=g',drawn:=d',toks:=t' }:=by
 have neL:∀b o,X.s₀.heap.get? b=some o→b≠X.env.locals:=fun b o e=>QH (QG (Qv e) I.ok.above)
 have neC:∀b o,X.s₀.heap.get? b=some o→b ∉ X.ex→b ∉ ch:=fun b o e hx hb=>by
  rcases(hch b hb).1 with z|z
  ·exact hx z
  ·exact absurd (QG (Qv e) z) (Qaa _)
 have cellK:∀x c,X.env.cells.lookup x=some c→∀v,s.heap.IsCell c v→h'.IsCell c v:=fun x c e v ⟨o,ho,hd⟩=>by
  have nch:c ∉ ch:=fun z=>(hch c z).2.2.1 x c e rfl
  by_cases hc:c∈X.fs
  ·obtain⟨sl,q⟩:=slot c o (I.cne x c e) hc nch ho (I.freeC x c e)
   exact⟨_,q,hd⟩
  ·exact⟨o,keep c o (I.cne x c e) hc nch ho (I.freeC x c e),hd⟩
 refine⟨I.ok,I.os,hg,⟨fun b o e n hb hx=>?_,fun b o e n hb hx=>?_,fun b o e n hx=>?_,fun b o e hx=>?_,fun b xs e=>tups b xs (I.base.tups b xs e),fun b o xs e=>frzs b o xs (I.base.frzs b o xs e),fun b ps e=>?_⟩,?_,fun x c e=>?_,?_,fun x c e=>?_,fun p hp=>?_,hok,I.len⟩
 ·exact keep b o (neL b o e) hb (neC b o e hx) (I.base.keep b o e n hb hx) (I.base.free b o e n hx)
 ·obtain⟨sl,e1⟩:=I.base.slot b o e n hb hx
  obtain⟨sl',e2⟩:=slot b _ (neL b o e) hb (neC b o e hx) e1 (I.base.free b o e n hx)
  exact⟨sl',e2⟩
 ·obtain⟨o',e1⟩:=I.base.there b o e hx
  exact free b o' (neC b o e hx) e1 (I.base.free b o e n hx)
 ·obtain⟨o',e1⟩:=I.base.there b o e hx
  exact there b o' (neC b o e hx) e1
 ·obtain⟨m1,e1⟩:=I.base.tbls b ps e
  obtain⟨m2,e2⟩:=tbls b _ e1
  exact⟨m1++m2,by rw[e2,Array.append_assoc]⟩
 ·obtain⟨m,hn,hl⟩:=I.loc
  refine⟨m,ns m hn,fun i x v e1 e2 e3=>?_⟩
  obtain⟨u,r,l⟩:=hl i x v e1 e2 e3
  refine⟨u,r,?_⟩
  rcases l with l|⟨k,c,e,z⟩
  ·exact .inl l
  ·exact .inr ⟨k,c,e,cellK x c e _ z⟩
 ·obtain⟨v,z⟩:=I.cell x c e
  exact⟨v,cellK x c e v z⟩
 ·obtain⟨m,⟨o,_,_,ho,_⟩,_⟩:=I.loc
  exact free _ o (fun z=>(hch _ z).2.1 rfl) ho I.free
 ·obtain⟨v,o,ho,hd⟩:=I.cell x c e
  exact free c o (fun z=>(hch c z).2.2.1 x c e rfl) ho (I.freeC x c e)
 ·obtain⟨e,n,ne,nf,d⟩:=I.pin p hp
  have nch:p.1 ∉ ch:=fun z=>(hch p.1 z).2.2.2 p hp rfl
  exact⟨keep p.1 p.2 ne nf nch e n,free p.1 p.2 nch e n,ne,nf,d⟩
theorem Inv.un{t':Nat}(I:Inv X pins σ H s)(u:Un X.fs [] H H' s.heap h')(hok:HOk X.prog X.w H' h'):Inv X pins σ H' { s with heap:=h',toks:=t' }:=by
 obtain⟨m,⟨o,es,ep,ho,r⟩,_⟩:=id I.loc
 obtain⟨sl,hL⟩:=u.any ho I.free (by simp)
 exact I.step (g':=s.gens) (d':=s.drawn) (ch:=[]) (fun _ z=>nomatch z) (fun b o _ hb _ e n=>u.keep b o e n hb (by simp)) (fun b o _ hb _ e n=>u.slot b o e n hb (by simp)) (fun b o _ e n=>u.free b o e n (by simp)) (fun b o _ e=>u.there b o e (by simp)) u.tups u.frzs u.tbls (fun m' hm=>by
  obtain⟨o',es',ep',ho',r'⟩:=hm
  rw[ho]at ho';cases ho'
  exact⟨_,es',ep',hL,r'⟩) hok I.bare
theorem Inv.call{g':Array GenState}{t':Nat}{d':Drawn}{ch:List Addr}(I:Inv X pins σ H s)(u:Un (frs X.stack) ch H H' s.heap h')(hok:HOk X.prog X.w H' h')(hg:AllBare g')
  (hch:∀b∈ch,(b∈X.ex∨X.s₀.heap.objs.size≤b)∧b≠X.env.locals∧(∀x c,X.env.cells.lookup x=some c→c≠b)∧∀p∈X.pn++pins,p.1≠b) :
  Inv X pins σ H' { s with heap:=h',gens:=g',drawn:=d',toks:=t' }:=by
 obtain⟨m,⟨o,es,ep,ho,r⟩,_⟩:=id I.loc
 obtain⟨sl,hL⟩:=u.any ho I.free fun z=>(hch _ z).2.1 rfl
 exact I.step (ch:=ch) hch (fun b o hL hb hc e n=>u.keep b o e n (fun z=>(QO.mp (I.stkSub b z)).elim hL hb) hc) (fun b o _ _ hc e n=>u.any e n hc) (fun b o hc e n=>u.free b o e n hc) (fun b o hc e=>u.there b o e hc) u.tups u.frzs u.tbls (fun m' hm=>by
  obtain⟨o',es',ep',ho',r'⟩:=hm
  rw[ho]at ho';cases ho'
  exact⟨_,es',ep',hL,r'⟩) hok hg
theorem Inv.turned{t':Nat}{it:Addr}(I:Inv X pins σ H s)(k:∀b o,b≠it→s.heap.get? b=some o→h'.get? b=some o)(hn:H it=none)(hL:it≠X.env.locals)
  (h1:it∈X.ex∨X.s₀.heap.objs.size≤it) (h2:∀x c,X.env.cells.lookup x=some c→c≠it) (h3:∀p∈X.pn++pins,p.1≠it):Inv X pins σ H { s with heap:=h',toks:=t' }:=by
 have nit:∀b u,H b=some u→b≠it:=fun b u e z=>by rw[z,hn]at e;cases e
 refine I.step (g':=s.gens) (d':=s.drawn) (ch:=[it]) (fun b hb=>?_) (fun b o _ _ hc e _=>k b o (fun z=>hc (by simp[z])) e) (fun b o _ _ hc e _=>⟨o.slots,k b o (fun z=>hc (by simp[z])) e⟩) (fun _ _ _ _ n=>n)
  (fun b o hc e=>⟨o,k b o (fun z=>hc (by simp[z])) e⟩) (fun _ _ e=>e) (fun _ _ _ e=>e) (fun b ps e=>⟨#[],by rw[e];simp⟩) (fun m hm=>?_) (fun b u e=>?_) I.bare
 ·have e:b=it:=by simpa using hb
  subst e
  exact⟨h1,hL,h2,h3⟩
 ·obtain⟨o,es,ep,ho,r⟩:=hm
  exact⟨o,es,ep,k _ o (Ne.symm hL) ho,r⟩
 ·refine(I.hok b u e).stay (fun c v hc q=>k c v ?_ q) (fun _ q=>q) fun _ _ q=>q
  rcases hc with z|z
  ·rw[z];exact nit b u e
  ·exact nit c _ z
theorem Inv.tok(I:Inv X pins σ H s)(t:Nat):Inv X pins σ H { s with toks:=t }:=I.un (h':=s.heap) (t':=t) Un.refl I.hok
theorem Inv.kept{t':Nat}(I:Inv X pins σ H s)(k:∀b u,s.heap.get? b=some u→h'.get? b=some u):Inv X pins σ H { s with heap:=h',toks:=t' }:=I.un (Un.kept k) (I.hok.kept k)
theorem Inv.laid{a:Addr}{o:HO}{t':Nat}(I:Inv X pins σ H s)(k:∀b u,s.heap.get? b=some u→h'.get? b=some u)(hp:s.heap.objs.size≤a)(new:Zac X.prog X.w (upd H a o) h' a o) :
  Inv X pins σ (upd H a o) { s with heap:=h',toks:=t' }:=I.un (Un.laid k hp (I.hok.fresh hp)) (I.hok.laid k hp new)
theorem Inv.write{x e:Addr}{o:HO}{t':Nat}(I:Inv X pins σ H s)(mu:Mut (H x))(he:e=x∨H e=some (.own x))(k:∀b u,b≠e→s.heap.get? b=some u→h'.get? b=some u)(heo:∃u,h'.get? e=some u)
  (new:Zac X.prog X.w (upd H x o) h' x o):Inv X pins σ (upd H x o) { s with heap:=h',toks:=t' }:=I.un (Un.write mu he k heo) (I.hok.write mu he k heo new)
theorem Inv.pins_of{pins':List (Addr×Obj)}(I:Inv X pins σ H s)(h:∀p∈pins',s.heap.get? p.1=some p.2∧H p.1=none∧p.1≠X.env.locals∧p.1 ∉ X.fs∧∀v,p.2.data≠.cell v):Inv X pins' σ H s :=
 ⟨I.ok,I.os,I.bare,I.base,I.loc,I.cell,I.free,I.freeC,fun p hp=>(Qk.mp hp).elim (fun z=>I.pin p (QD _ z)) (h p),I.hok,I.len⟩
theorem ZhC{N:List Str}(hN:N.Nodup){i j:Nat}{x:Str}(a:N[i]? = some x)(b:N[j]? = some x):i=j:=by
 obtain⟨h1,e1⟩:=Qd.mp a
 obtain⟨h2,e2⟩:=Qd.mp b
 exact(List.getElem_inj hN).mp (e1.trans e2.symm)
theorem Zgy{M:Model}{A:Around}{E:Value→Shared→Prop}{i:Nat}{x:Str}{v:V}{u:Value}{Q:Unit→Shared→Prop}(I:Inv X pins σ H s)(hN:X.N.Nodup)(hi:X.N[i]? = some x)(hx:Loc X.env.scope x)(r:Zx v u)
  (h:∀s',Inv X pins (σ.set i (some v)) H s'→(∃a,Heap.SameBut a s.heap s'.heap∧(a=X.env.locals∨X.env.cells.lookup x=some a))→Q () s') (hf:X.fn x=true∨X.env.scope.names.lookup x=some .local:=by first|exact .inl rfl|exact .inr rfl|assumption):wpAny M A (storeName X.env x u) Q E s:=by
 obtain⟨m,hn,hl⟩:=id I.loc
 have hcls:(X.env.scope.kind == .class||(X.env.scope.kind == .module&&X.env.locals != X.env.globals))=false:=by rw[I.ok.kind];rfl
 have hiσ:i<σ.length:=by rw[I.len];exact(Qd.mp hi).1
 have cne:=I.cne
 have tracked:∀ {a:Addr} {h':Heap},(∃o,s.heap.get? a=some o∧H a=none)→Heap.SameBut a s.heap h'→HOk X.prog X.w H h':=fun {a h'} ha hs b ob e=>by
  obtain⟨_,_,hfree⟩:=ha
  refine(I.hok b ob e).stay (fun c w' hc q=>(hs.2 c ?_).trans q) (fun _ q=>q) fun _ _ q=>q
  rintro rfl
  rcases hc with rfl|hc
  ·rw[hfree]at e;cases e
  ·rw[hfree]at hc;cases hc
 rcases hx with hk|hk
 ·refine wpAny_storeName_local hk hn (fun h' hn' hs=>?_) hcls
  obtain⟨oL,_,_,hoL,_⟩:=id hn
  refine h _ ⟨I.ok,I.os,I.bare,⟨fun b o e n hb hx=>?_,fun b o e n hb hx=>?_,I.base.free,fun b o e hx=>?_,I.base.tups,I.base.frzs,I.base.tbls⟩,⟨_,hn',fun j y v' e1 e2 e3=>?_⟩,fun y c e=>?_,I.free,I.freeC,fun p hp=>?_,tracked ⟨oL,hoL,I.free⟩ hs,by simpa using I.len⟩ ⟨_,hs,.inl rfl⟩
  ·exact(hs.2 b (QH (QG (Qv e) I.ok.above))).trans (I.base.keep b o e n hb hx)
  ·obtain⟨sl,e1⟩:=I.base.slot b o e n hb hx
   exact⟨sl,(hs.2 b (QH (QG (Qv e) I.ok.above))).trans e1⟩
  ·obtain⟨o',e1⟩:=I.base.there b o e hx
   exact⟨o',(hs.2 b (QH (QG (Qv e) I.ok.above))).trans e1⟩
  ·by_cases hj:j=i
   ·subst hj
    rw[hi]at e1;cases e1
    rw[QaM hiσ]at e2
    cases e2
    exact⟨u,r,.inl ⟨hk,by simp⟩⟩
   ·rw[List.getElem?_set_ne (Ne.symm hj)]at e2
    obtain⟨u',r',q⟩:=hl j y v' e1 e2 e3
    refine⟨u',r',?_⟩
    rcases q with⟨k,e⟩|⟨k,c,e,z⟩
    ·refine .inl ⟨k,?_⟩
     have:y≠x:=fun e=>hj (ZhC hN e1 (e ▸ hi))
     simp[this,e]
    ·exact .inr ⟨k,c,e,z.sameBut hs (cne y c e)⟩
  ·obtain⟨w',z⟩:=I.cell y c e
   exact⟨w',z.sameBut hs (cne y c e)⟩
  ·obtain⟨e,n,ne,nf,d⟩:=I.pin p hp
   exact⟨(hs.2 p.1 ne).trans e,n,ne,nf,d⟩
 ·have hfn:X.fn x=true:=by
   rcases hf with z|z
   ·exact z
   ·rw[z]at hk;cases hk
  obtain⟨c,hc⟩:=I.ok.has x (.inl hk)
  obtain⟨w',z⟩:=I.cell x c hc
  refine wpAny_storeName_cell I.ok.kind hk hc z (fun h' hc' hs=>?_)
  obtain⟨oc,hoc,hocd⟩:=id z
  refine h { s with heap:=h' } ⟨I.ok,I.os,I.bare,⟨fun b o e n hb hx=>?_,fun b o e n hb hx=>?_,I.base.free,fun b o e hx=>?_,I.base.tups,I.base.frzs,I.base.tbls⟩,⟨m,hn.sameBut hs (Ne.symm (cne x c hc)),fun j y v' e1 e2 e3=>?_⟩,fun y c' e=>?_,I.free,I.freeC,fun p hp=>?_,tracked ⟨oc,hoc,I.freeC x c hc⟩ hs,by simpa using I.len⟩ ⟨c,hs,.inr hc⟩
  ·exact(hs.2 b (QH (QG (Qv e) (I.ok.cab x c hfn hc)))).trans (I.base.keep b o e n hb hx)
  ·obtain⟨sl,e1⟩:=I.base.slot b o e n hb hx
   exact⟨sl,(hs.2 b (QH (QG (Qv e) (I.ok.cab x c hfn hc)))).trans e1⟩
  ·obtain⟨o',e1⟩:=I.base.there b o e hx
   exact⟨o',(hs.2 b (QH (QG (Qv e) (I.ok.cab x c hfn hc)))).trans e1⟩
  ·by_cases hj:j=i
   ·subst hj
    rw[hi]at e1;cases e1
    rw[QaM hiσ]at e2
    cases e2
    exact⟨u,r,.inr ⟨.inl hk,c,hc,hc'⟩⟩
   ·rw[List.getElem?_set_ne (Ne.symm hj)]at e2
    obtain⟨u',r',q⟩:=hl j y v' e1 e2 e3
    refine⟨u',r',?_⟩
    rcases q with q|⟨k,c',e,z'⟩
    ·exact .inl q
    ·refine .inr ⟨k,c',e,z'.sameBut hs ?_⟩
     rintro rfl
     exact hj (ZhC hN e1 (I.ok.inj _ _ _ e hc ▸ hi))
  ·by_cases hcc:c'=c
   ·subst hcc;exact⟨_,hc'⟩
   ·obtain⟨w2,z2⟩:=I.cell y c' e
    exact⟨w2,z2.sameBut hs hcc⟩
  ·obtain⟨e,n,ne,nf,d⟩:=I.pin p hp
   refine⟨(hs.2 p.1 ?_).trans e,n,ne,nf,d⟩
   intro q
   rw[q,hoc]at e
   have q':oc=p.2:=Qm e
   exact d w' (by rw[← q'];exact hocd)
theorem Zc6{M:Model}{A:Around}{E:Value→Shared→Prop}{i:Nat}{x:Str}{v:V}{u:Value}{Q:Unit→Shared→Prop}(I:Inv X pins σ H s)(hN:X.N.Nodup)(hi:X.N[i]? = some x)(hx:Loc X.env.scope x)(r:Zx v u)
  (h:∀s',Inv X pins (σ.set i (some v)) H s'→Q () s') (hf:X.fn x=true∨X.env.scope.names.lookup x=some .local:=by first|exact .inl rfl|exact .inr rfl|assumption):wpAny M A (storeName X.env x u) Q E s :=
 Zgy I hN hi hx r (fun s' I' _=>h s' I') hf
theorem Inv.call'{s':Shared}{ch:List Addr}(I:Inv X pins σ H s)(ho:s'.os=s.os)(u:Un (frs X.stack) ch H H' s.heap s'.heap)(hok:HOk X.prog X.w H' s'.heap)(hg:AllBare s'.gens)
  (hch:∀b∈ch,(b∈X.ex∨X.s₀.heap.objs.size≤b)∧b≠X.env.locals∧(∀x c,X.env.cells.lookup x=some c→c≠b)∧∀p∈X.pn++pins,p.1≠b):Inv X pins σ H' s':=by
 obtain⟨h',g',d',t',o'⟩:=s'
 have e:o'=s.os:=ho
 subst e
 exact I.call (g':=g') (t':=t') (d':=d') u hok hg hch
end
abbrev XK:=Value→Option Addr→Hp→Prop
abbrev St:=List (Option V)
abbrev VK:=V→Hp→Prop
abbrev TE:=St→Hp→VK→Prop
abbrev TT:=St→Hp→(Bool→Hp→Prop)→Prop
abbrev TA:=St→Hp→(List V→Hp→Prop)→Prop
structure ZeN where
 nx:St→Hp→Prop
 rt:VK
 bk:St→Hp→Prop:=fun _ _=>False
 ct:St→Hp→Prop:=fun _ _=>False
abbrev TS:=ZeN→St→Hp→Prop
def EP(X:Cx)(pins:List (Addr×Obj))(σ:St)(Q:VK)(u:Value)(s':Shared):Prop:=∃v H',Inv X pins σ H' s'∧Zx v u∧Q v H'
def TP(X:Cx)(pins:List (Addr×Obj))(σ:St)(Q:Bool→Hp→Prop)(b:Bool)(s':Shared):Prop:=∃H',Inv X pins σ H' s'∧Q b H'
def AP(X:Cx)(pins:List (Addr×Obj))(σ:St)(Q:List V→Hp→Prop)(us:List Value)(s':Shared):Prop:=∃vs H',Inv X pins σ H' s'∧Zv vs us∧Q vs H'
def SP(X:Cx)(pins:List (Addr×Obj))(D:ZeN)(f:Flow)(s':Shared):Prop :=
 match f with
 | .next=>∃σ' H',Inv X pins σ' H' s'∧D.nx σ' H'
 | .brk=>∃σ' H',Inv X pins σ' H' s'∧D.bk σ' H'
 | .cont=>∃σ' H',Inv X pins σ' H' s'∧D.ct σ' H'
 | .ret u=>∃v σ' H',Inv X pins σ' H' s'∧Zx v u∧D.rt v H'
def PE(X:Cx)(e:Expr)(t:TE):Prop :=
 ∀ (pins:List (Addr×Obj)) (s:Shared) (σ:St) (H:Hp) (Q:VK),Inv X pins σ H s→t σ H Q→wpAny (model X.prog X.w) X.A (eval e X.env) (EP X pins σ Q) X.xe s
def PT(X:Cx)(e:Expr)(t:TT):Prop :=
 ∀ (pins:List (Addr×Obj)) (s:Shared) (σ:St) (H:Hp) (Q:Bool→Hp→Prop),Inv X pins σ H s→t σ H Q→wpAny (model X.prog X.w) X.A (isTrue e X.env (eval e X.env)) (TP X pins σ Q) X.xe s
def PW(X:Cx)(e:Expr)(t:TT):Prop :=
 ∀ (whole:Sem Value) (pins:List (Addr×Obj)) (s:Shared) (σ:St) (H:Hp) (Q:Bool→Hp→Prop),Inv X pins σ H s→t σ H Q→wpAny (model X.prog X.w) X.A (isTrue e X.env whole) (TP X pins σ Q) X.xe s
theorem PW.pt{X:Cx}{e:Expr}{t:TT}(h:PW X e t):PT X e t:=h _
def PA(X:Cx)(es:List Expr)(t:TA):Prop :=
 ∀ (pos:Pos) (pins:List (Addr×Obj)) (s:Shared) (σ:St) (H:Hp) (Q:List V→Hp→Prop),Inv X pins σ H s→t σ H Q→wpAny (model X.prog X.w) X.A (spliced (backTo pos (starEach es X.env))) (AP X pins σ Q) X.xe s
def PS(X:Cx)(st:Stmt)(t:TS):Prop :=
 ∀ (pins:List (Addr×Obj)) (s:Shared) (σ:St) (H:Hp) (D:ZeN),Inv X pins σ H s→t D σ H→wpAny (model X.prog X.w) X.A (exec st X.env) (SP X pins D) X.xe s
def PSs(X:Cx)(st:List Stmt)(t:TS):Prop :=
 ∀ (pins:List (Addr×Obj)) (s:Shared) (σ:St) (H:Hp) (D:ZeN),Inv X pins σ H s→t D σ H→wpAny (model X.prog X.w) X.A (execs st X.env) (SP X pins D) X.xe s
theorem thn{α:Type}{t:Sem α}{Q Q':α→Shared→Prop}{M:Model}{A:Around}{E:Value→Shared→Prop}{s:Shared}(h:wpAny M A t Q E s)(hQ:∀a s,Q a s→Q' a s):wpAny M A t Q' E s:=wpAny_mono h hQ fun _ _ x=>x
section
variable {X:Cx}
def Zoz(i:Nat):TE:=fun σ H Q=>∃v,σ[i]? = some (some v)∧Q v H
def tC(v:V):TE:=fun _ H Q=>Q v H
theorem Zjk{i:Nat}{x:Str}{pos:Pos}(hN:X.N[i]? = some x)(hv:Vis X.env.scope x)(hd:(x == ("__debug__" : Str))=false:=by decide)(hcd:(x == ("__classdict__" : Str))=false:=by decide):PE X (.Name x pos) (Zoz i):=by
 intro pins s σ H Q I h
 obtain⟨v,e,h⟩:=h
 obtain⟨m,hn,hl⟩:=I.loc
 obtain⟨u,r,l⟩:=hl i x v hN e hv
 have fin:EP X pins σ Q u s:=⟨v,H,I,r,h⟩
 rcases l with⟨hk,hm⟩|⟨hk,c,hc,hcell⟩
 ·exact wpAny_Name (wpAny_loadName_local I.ok.kind hk hn hm fin) hd
 ·rcases hk with hk|hk
  ·exact wpAny_Name (wpAny_loadName_cell I.ok.kind hk hc hcell fin) hd
  ·exact wpAny_Name (wpAny_loadName_free I.ok.kind hk hc hcell fin hcd) hd
theorem Zi{i j pos}:PE X (.Constant (.int i) j pos) (tC (.int i)):=fun _ _ _ H _ I h=>wpAny_Constant_int ⟨.int i,H,I.tok _,⟨_,rfl⟩,h⟩
theorem Zl5{b j pos}:PE X (.Constant (.bool b) j pos) (tC (.bl b)):=fun _ _ _ H _ I h=>Constant_bool ⟨.bl b,H,I,rfl,h⟩
theorem Zay{j pos}:PE X (.Constant .none j pos) (tC .non):=fun _ _ _ H _ I h=>Constant_none ⟨.non,H,I,rfl,h⟩
theorem Zbl{x j pos}:PE X (.Constant (.str x) j pos) (tC (.str x)):=fun _ _ _ H _ I h=>Calls.Constant_str ⟨.str x,H,I.tok _,⟨_,rfl⟩,h⟩
def Gl(X:Cx)(x:Str):Prop:=X.env.kindOf x=some .globalImplicit
theorem ZjI{E:Value→Shared→Prop}{pins:List (Addr×Obj)}{s:Shared}{σ:St}{H:Hp}{x:Str}{u:Value}{pos:Pos}{Q:Value→Shared→Prop}(I:Inv X pins σ H s)(hg:Gl X x)(hm:X.mg x=some u)(h:Q u s)
  (hd:(x == ("__debug__" : Str))=false:=by decide):wpAny (model X.prog X.w) X.A (eval (.Name x pos) X.env) Q E s :=
 Calls.Name_function_global I.ok.kind hg (Calls.loadGlobal_global (by rw[I.ok.glob];exact I.mod.glob.keeps I.bk) hm h) hd
theorem ZdQ{E:Value→Shared→Prop}{pins:List (Addr×Obj)}{s:Shared}{σ:St}{H:Hp}{x:Str}{u:Value}{pos:Pos}{Q:Value→Shared→Prop}(I:Inv X pins σ H s)(hg:Gl X x)(hm:X.mg x=none)(hv:bootBuiltins x=some u)(h:Q u s)
  (hn:x ≠ "__name__":=by decide) (hd:(x == ("__debug__" : Str))=false:=by decide):wpAny (model X.prog X.w) X.A (eval (.Name x pos) X.env) Q E s:=by
 obtain⟨mb,h1,h2⟩:=I.mod.blt
 exact Calls.Name_function_global I.ok.kind hg (Calls.loadGlobal_builtin (by rw[I.ok.glob];exact I.mod.glob.keeps I.bk) hm (by rw[I.ok.blt];exact h1.keeps I.bk) ((h2 x hn).trans hv) h) hd
theorem Zod{x:Str}{v:V}{u:Value}{pos:Pos}(hg:Gl X x)(hm:X.mg x=none)(hv:bootBuiltins x=some u)(r:Zx v u)(hn:x ≠ "__name__":=by decide)(hd:(x == ("__debug__" : Str))=false:=by decide):PE X (.Name x pos) (tC v) :=
 fun _ _ _ H _ I h=>ZdQ I hg hm hv ⟨v,H,I,r,h⟩ hn hd
def t2I(ta tb:TE)(k:Int→Int→Hp→Prop):St→Hp→Prop:=fun σ H=>ta σ H fun x H1=>tb σ H1 fun y H2=>∃i j,x=.int i∧y=.int j∧k i j H2
def tAdd(ta tb:TE):TE:=fun σ H Q=>t2I ta tb (fun i j H2=>Q (.int (i+j)) H2) σ H
def tSub(ta tb:TE):TE:=fun σ H Q=>t2I ta tb (fun i j H2=>Q (.int (i-j)) H2) σ H
def tMul(ta tb:TE):TE:=fun σ H Q=>t2I ta tb (fun i j H2=>(-(2 ^ 64)<i∧i<2 ^ 64)∧Q (.int (i*j)) H2) σ H
variable {a b:Expr} {ta tb:TE} {pos:Pos}
def PC(X:Cx)(op:CmpOp)(a b:Expr)(t:TE):Prop :=
 ∀ (pins:List (Addr×Obj)) (s:Shared) (σ:St) (H:Hp) (Q:VK),Inv X pins σ H s→t σ H Q →
  wpAny (model X.prog X.w) X.A (eval a X.env) (fun v s₁=>wpAny (model X.prog X.w) X.A (eval b X.env) (fun u s₂=>wpAny (model X.prog X.w) X.A (compareOp op v u) (EP X pins σ Q) X.xe s₂) X.xe s₁) X.xe s
def ZkG(p:Int→Int→Bool)(ta tb:TE):TE:=fun σ H Q=>t2I ta tb (fun i j H2=>Q (.bl (p i j)) H2) σ H
abbrev tLt:TE→TE→TE:=ZkG fun i j=>decide (i<j)
abbrev tLe:TE→TE→TE:=ZkG fun i j=>decide (i≤j)
abbrev tGt:TE→TE→TE:=ZkG fun i j=>decide (j<i)
abbrev tGe:TE→TE→TE:=ZkG fun i j=>decide (j≤i)
abbrev tEqI:TE→TE→TE:=ZkG fun i j=>decide (i=j)
abbrev tNeI:TE→TE→TE:=ZkG fun i j=>!decide (i=j)
def tIsN(ta:TE):TE:=fun σ H Q=>ta σ H fun x H1=>Q (.bl (decide (x=.non))) H1
def tNotN(ta:TE):TE:=fun σ H Q=>ta σ H fun x H1=>Q (.bl (!decide (x=.non))) H1
def tB(t:TE):TT:=fun σ H Q=>t σ H fun x H1=>∃c,x=.bl c∧Q c H1
theorem ZdM{e:Expr}{t:TE}(h:PE X e t)(he:∀whole,isTrue e X.env whole=(do let v ← whole;standAt e.pos;holding [v] (truthy v)):=by intro _;rfl):PT X e (tB t):=by
 intro pins s σ H Q I hw
 refine isTrue_plain (thn (h pins s σ H _ I hw) ?_) (he _)
 rintro v s1 ⟨x,H1,I1,r1,q1⟩
 obtain⟨d,rfl,q⟩:=q1
 cases r1
 exact wpAny_truthy_bool ⟨H1,I1,q⟩
variable {tA tB':TT} {rest:List Expr}
def ZsE(t u:TT):TT:=fun σ H Q=>t σ H fun c H1=>if c=true then u σ H1 Q else Q false H1
def tOr(t u:TT):TT:=fun σ H Q=>t σ H fun c H1=>if c=true then Q true H1 else u σ H1 Q
def Zr9(t:TT):TT:=fun σ H Q=>t σ H fun c H1=>Q (!c) H1
theorem Zd3(ha:PT X a tA):PW X (.BoolOp .And [a] pos) tA:=by
 intro wh pins s σ H Q I h
 refine isTrue_and (thn (ha pins s σ H Q I h) fun c s1 e=>?_)
 cases c with
 | true=>exact isTrue_and_nil e
 | false=>exact e
theorem Zhg(ha:PT X a tA):PW X (.BoolOp .Or [a] pos) tA:=by
 intro wh pins s σ H Q I h
 refine isTrue_or (thn (ha pins s σ H Q I h) fun c s1 e=>?_)
 cases c with
 | false=>exact isTrue_or_nil e
 | true=>exact e
theorem ZeH(ha:PT X a tA)(hb:PW X (.BoolOp .And (b::rest) pos) tB'):PW X (.BoolOp .And (a::b::rest) pos) (ZsE tA tB'):=by
 intro wh pins s σ H Q I h
 refine isTrue_and (thn (ha pins s σ H _ I h) ?_)
 rintro c s1 ⟨H1,I1,q1⟩
 cases c with
 | true=>exact hb wh pins s1 σ H1 Q I1 q1
 | false=>exact⟨H1,I1,q1⟩
theorem Zj4(ha:PT X a tA)(hb:PW X (.BoolOp .Or (b::rest) pos) tB'):PW X (.BoolOp .Or (a::b::rest) pos) (tOr tA tB'):=by
 intro wh pins s σ H Q I h
 refine isTrue_or (thn (ha pins s σ H _ I h) ?_)
 rintro c s1 ⟨H1,I1,q1⟩
 cases c with
 | true=>exact⟨H1,I1,q1⟩
 | false=>exact hb wh pins s1 σ H1 Q I1 q1
theorem Zjo(ha:PT X a tA):PT X (.UnaryOp .Not a pos) (Zr9 tA):=by
 intro pins s σ H Q I h
 exact isTrue_not (ha pins s σ H (fun c H1=>Q (!c) H1) I h)
def Zry(ta tb:TE):TE:=fun σ H Q=>ta σ H fun x H1=>∃c,x=.bl c∧if c=true then tb σ H1 Q else Q (.bl false) H1
def tOrV(ta tb:TE):TE:=fun σ H Q=>ta σ H fun x H1=>∃c,x=.bl c∧if c=true then Q (.bl true) H1 else tb σ H1 Q
def ZrH(ta:TE):TE:=fun σ H Q=>ta σ H fun x H1=>∃c,x=.bl c∧Q (.bl (!c)) H1
theorem Zfu{op}{t:TE}(h:PE X a t):PE X (.BoolOp op [a] pos) t:=fun pins s σ H Q I hw=>BoolOp_one (h pins s σ H Q I hw)
theorem Zex(ha:PE X a ta)(hb:PE X (.BoolOp .And (b::rest) pos) tb):PE X (.BoolOp .And (a::b::rest) pos) (Zry ta tb):=by
 intro pins s σ H Q I h
 refine BoolOp_and (thn (ha pins s σ H _ I h) ?_)
 rintro v s1 ⟨x,H1,I1,r1,q1⟩
 obtain⟨c,rfl,q1⟩:=q1
 cases r1
 refine wpAny_truthy_bool ?_
 cases c with
 | true=>exact hb pins s1 σ H1 Q I1 q1
 | false=>exact⟨.bl false,H1,I1,rfl,q1⟩
theorem Zmb(ha:PE X a ta):PE X (.UnaryOp .Not a pos) (ZrH ta):=by
 intro pins s σ H Q I h
 refine UnaryOp_ (thn (ha pins s σ H _ I h) ?_)
 rintro v s1 ⟨x,H1,I1,r1,q1⟩
 obtain⟨c,rfl,q1⟩:=q1
 cases r1
 exact not_of (wpAny_truthy_bool ⟨.bl (!c),H1,I1,rfl,q1⟩)
def tIf(t:TT)(ta tb:TE):TE:=fun σ H Q=>t σ H fun c H1=>if c=true then ta σ H1 Q else tb σ H1 Q
theorem Zby{c:Expr}(hc:PT X c tA)(ha:PE X a ta)(hb:PE X b tb):PE X (.IfExp c a b pos) (tIf tA ta tb):=by
 intro pins s σ H Q I h
 refine wpAny_IfExp (thn (hc pins s σ H _ I h) ?_)
 rintro d s1 ⟨H1,I1,q1⟩
 cases d with
 | true=>exact ha pins s1 σ H1 Q I1 q1
 | false=>exact hb pins s1 σ H1 Q I1 q1
end
def SqL(K:PySem.W.Frag)(H:Hp)(a:Addr)(xs:List V):Prop :=
 Rd H a (.lst xs) ∨
  ∃ (o:Obj) (its:Array Value) (n:Nat),K.lookup a=some o∧o.cls=.type "list"∧o.dict=none∧o.data=.seq its n∧its.size≤sizeLine∧Zv xs its.toList
def SqT(K:PySem.W.Frag)(H:Hp)(a:Addr)(xs:List V):Prop :=
 Rd H a (.tup xs) ∨
  ∃ (o:Obj) (its:Array Value) (n:Nat),K.lookup a=some o∧o.cls=.type "tuple"∧o.data=.seq its n∧its.size≤sizeLine∧Zv xs its.toList
def Zss:Value→Option V
 | .none=>some .non
 | .bool b=>some (.bl b)
 | .int i _=>some (.int i)
 | .str x _=>some (.str x)
 | .bytes b _=>some (.byt b)
 | .float b _=>some (.flt b)
 | .ref a=>some (.ref a)
 | .type n=>some (.ty n)
 | _=>none
theorem Zx.abs{x:V}{u:Value}(r:Zx x u):Zss u=some x:=by
 cases x with
 | non=>cases r;rfl
 | bl _=>cases r;rfl
 | int _=>obtain⟨t,rfl⟩:=r;rfl
 | str _=>obtain⟨t,rfl⟩:=r;rfl
 | byt _=>obtain⟨t,rfl⟩:=r;rfl
 | flt _=>obtain⟨t,rfl⟩:=r;rfl
 | ref _=>cases r;rfl
 | ty _=>cases r;rfl
theorem Zx.inj{x y:V}{u:Value}(r:Zx x u)(q:Zx y u):x=y:=Qm (r.abs.symm.trans q.abs)
theorem Zv.inj:∀ {xs ys:List V} {us:List Value},Zv xs us→Zv ys us→xs=ys
 | _,_,_,.nil,.nil=>rfl
 | _,_,_,.cons r t,.cons r' t'=>by rw[r.inj r',Zv.inj t t']
section
variable {X:Cx} {pins:List (Addr×Obj)} {σ:St} {H:Hp} {s:Shared} {a:Addr} {xs ys:List V}
theorem SqL.of{K:PySem.W.Frag}(h:H a=some (.lst xs)):SqL K H a xs:=.inl (.inl h)
theorem SqT.of{K:PySem.W.Frag}(h:H a=some (.tup xs)):SqT K H a xs:=.inl (.inl h)
theorem Inv.list(I:Inv X pins σ H s)(h:SqL X.K H a xs):∃its:List Value,Zv xs its∧PlainL s.heap a its.toArray∧xs.length≤sizeLine:=by
 rcases h with h|⟨o,its,n,hk,hc,hd,hs,hz,r⟩
 ·obtain⟨z,its,n,r,e⟩:=h.ok I.hok
  exact⟨its,r,⟨_,n,e,rfl,rfl,rfl⟩,z⟩
 ·refine⟨its.toList,r,⟨o,n,I.kIn a o hk,hc,hd,by simpa using hs⟩,?_⟩
  have e:=r.length
  simp only[Array.length_toList]at e
  omega
theorem Inv.tuple(I:Inv X pins σ H s)(h:SqT X.K H a xs):∃its:List Value,Zv xs its∧IsTup s.heap a its.toArray∧xs.length≤sizeLine:=by
 rcases h with h|⟨o,its,n,hk,hc,hs,hz,r⟩
 ·obtain⟨z,its,r,p⟩:=h.ok I.hok
  exact⟨its,r,p,z⟩
 ·refine⟨its.toList,r,⟨o,I.kIn a o hk,hc,n,by simpa using hs⟩,?_⟩
  have e:=r.length
  simp only[Array.length_toList]at e
  omega
theorem Inv.list_inj(I:Inv X pins σ H s)(h:SqL X.K H a xs)(h':SqL X.K H a ys):xs=ys:=by
 obtain⟨its,r,⟨o,n,e,_,_,d⟩,_⟩:=I.list h
 obtain⟨its',r',⟨o',n',e',_,_,d'⟩,_⟩:=I.list h'
 rw[e]at e';cases e'
 rw[d]at d'
 injection d' with d1 _
 have:its=its':=by simpa using congrArg Array.toList d1
 subst this
 exact r.inj r'
theorem Inv.tuple_inj(I:Inv X pins σ H s)(h:SqT X.K H a xs)(h':SqT X.K H a ys):xs=ys:=by
 obtain⟨its,r,⟨o,e,_,n,d⟩,_⟩:=I.tuple h
 obtain⟨its',r',⟨o',e',_,n',d'⟩,_⟩:=I.tuple h'
 rw[e]at e';cases e'
 rw[d]at d'
 injection d' with d1 _
 have:its=its':=by simpa using congrArg Array.toList d1
 subst this
 exact r.inj r'
end
abbrev Cx.wish(X:Cx)(E:Value→Shared→Prop):Cx:={ X with xe:=E }
abbrev Cx.nox(X:Cx):Cx:=X.wish fun _ _=>False
theorem Cx.Ok.wish{X:Cx}(ok:X.Ok)(E:Value→Shared→Prop):(X.wish E).Ok :=
 ⟨ok.mod,ok.kind,ok.glob,ok.blt,ok.above,ok.inj,ok.has,ok.cab,ok.hd,ok.frames,ok.stk,ok.exf,ok.bs,ok.bsz,ok.noex,ok.exfs,ok.funs,ok.frf⟩
theorem Cx.Ok.unwish{X:Cx}{E:Value→Shared→Prop}(ok:(X.wish E).Ok):X.Ok :=
 ⟨ok.mod,ok.kind,ok.glob,ok.blt,ok.above,ok.inj,ok.has,ok.cab,ok.hd,ok.frames,ok.stk,ok.exf,ok.bs,ok.bsz,ok.noex,ok.exfs,ok.funs,ok.frf⟩
section
variable {X:Cx} {pins:List (Addr×Obj)} {σ:St} {H:Hp} {s:Shared} {E:Value→Shared→Prop}
theorem Inv.wish(I:Inv X pins σ H s)(E:Value→Shared→Prop):Inv (X.wish E) pins σ H s:=⟨I.ok.wish E,I.os,I.bare,I.base,I.loc,I.cell,I.free,I.freeC,I.pin,I.hok,I.len⟩
theorem Inv.unwish(I:Inv (X.wish E) pins σ H s):Inv X pins σ H s:=⟨I.ok.unwish,I.os,I.bare,I.base,I.loc,I.cell,I.free,I.freeC,I.pin,I.hok,I.len⟩
theorem SP.unwish{D:ZeN}{f:Flow}{s':Shared}(h:SP (X.wish E) pins D f s'):SP X pins D f s':=by
 cases f with
 | next=>obtain⟨σ',H',I,q⟩:=h;exact⟨σ',H',I.unwish,q⟩
 | brk=>obtain⟨σ',H',I,q⟩:=h;exact⟨σ',H',I.unwish,q⟩
 | cont=>obtain⟨σ',H',I,q⟩:=h;exact⟨σ',H',I.unwish,q⟩
 | ret u=>obtain⟨v,σ',H',I,r,q⟩:=h;exact⟨v,σ',H',I.unwish,r,q⟩
theorem PSs.nox{st:List Stmt}{t:TS}(h:PSs X.nox st t):PSs X st t:=fun pins s σ H D I hw =>
 wpAny_mono (h pins s σ H D (I.wish _) hw) (fun _ _ q=>q.unwish) fun _ _ z=>False.elim z
end
section
variable {X:Cx} {st:Stmt} {rest:List Stmt} {t u:TS} {e:Expr} {te:TE} {pos:Pos}
def ZrC:TS:=fun D σ H=>D.nx σ H
def Zsc(t u:TS):TS:=fun D σ H=>t { D with nx:=u D } σ H
theorem ZD:PSs X [] ZrC:=fun _ _ σ H _ I h=>wpAny_execs_nil ⟨σ,H,I,h⟩
theorem Zf(h1:PS X st t)(h2:PSs X rest u):PSs X (st::rest) (Zsc t u):=by
 intro pins s σ H D I h
 refine wpAny_execs_cons (thn (h1 pins s σ H { D with nx:=u D } I h) fun f s1 q=>?_)
 cases f with
 | next =>
  obtain⟨σ',H',I',q⟩:=q
  exact h2 pins s1 σ' H' D I' q
 | ret v=>exact q
 | brk=>exact q
 | cont=>exact q
theorem Zj(h1:PS X st t):PSs X [st] t:=by
 intro pins s σ H D I h
 refine wpAny_execs_cons (thn (h1 pins s σ H D I h) fun f s1 q=>?_)
 cases f with
 | next=>exact wpAny_execs_nil q
 | ret v=>exact q
 | brk=>exact q
 | cont=>exact q
def tBreak:TS:=fun D σ H=>D.bk σ H
def tCont:TS:=fun D σ H=>D.ct σ H
theorem Inv.quiet{pins:List (Addr×Obj)}{σ:St}{H:Hp}{s:Shared}(I:Inv X pins σ H s):interactive X.env=false:=by simp[interactive,I.ok.kind]
def ZrO(te:TE):TS:=fun D σ H=>te σ H fun _ H1=>D.nx σ H1
theorem Zam(he:PE X e te)(hs:swapsWith e none pos.line X.env=pure false:=by rfl):PS X (.Expr e pos) (ZrO te):=by
 intro pins s σ H D I h
 exact wpAny_Expr_any (thn (he pins s σ H _ I h) fun v s1 ⟨x,H1,I1,r1,q1⟩=>⟨σ,H1,I1,q1⟩) I.quiet hs
def Zr1(te:TE):TS:=fun D σ H=>te σ H D.rt
theorem Zp(he:PE X e te):PS X (.Return (some e) pos) (Zr1 te):=by
 intro pins s σ H D I h
 exact wpAny_Return_some (thn (he pins s σ H _ I h) fun v s1 ⟨x,H1,I1,r1,q1⟩=>⟨x,σ,H1,I1,r1,q1⟩)
def tRetN:TS:=fun D _ H=>D.rt .non H
def Zsu(c:TT)(t u:TS):TS:=fun D σ H=>c σ H fun b H1=>if b=true then t D σ H1 else u D σ H1
theorem Zag{c:Expr}{a b:List Stmt}{tc:TT}(hc:PT X c tc)(ha:PSs X a t)(hb:PSs X b u):PS X (.If c a b pos) (Zsu tc t u):=by
 intro pins s σ H D I h
 refine wpAny_If (thn (hc pins s σ H _ I h) ?_)
 rintro d s1 ⟨H1,I1,q1⟩
 cases d with
 | true=>exact ha pins s1 σ H1 D I1 q1
 | false=>exact hb pins s1 σ H1 D I1 q1
def tNever:TS:=fun _ _ _=>False
end
abbrev TG:=V→St→Hp→(St→Hp→Prop)→Prop
abbrev TGs:=List V→St→Hp→(St→Hp→Prop)→Prop
def PG(X:Cx)(target:Expr)(t:TG):Prop :=
 ∀ (pins:List (Addr×Obj)) (s:Shared) (σ:St) (H:Hp) (v:V) (u:Value) (Q:St→Hp→Prop),Inv X pins σ H s→Zx v u→t v σ H Q →
  wpAny (model X.prog X.w) X.A (assign target X.env u) (fun _ s'=>∃σ' H',Inv X pins σ' H' s'∧Q σ' H') X.xe s
def PGs(X:Cx)(ts:List Expr)(t:TGs):Prop :=
 ∀ (pins:List (Addr×Obj)) (s:Shared) (σ:St) (H:Hp) (vs:List V) (us:List Value) (Q:St→Hp→Prop),Inv X pins σ H s→Zv vs us→t vs σ H Q →
  wpAny (model X.prog X.w) X.A (assignInOrder ((assignEach ts X.env).map (·.2)) us) (fun _ s'=>∃σ' H',Inv X pins σ' H' s'∧Q σ' H') X.xe s
abbrev ZkO:=V→V→V→Hp→(Hp→Prop)→Prop
def ZpC(X:Cx)(t:ZkO):Prop :=
 ∀ (pins:List (Addr×Obj)) (s:Shared) (σ:St) (H:Hp) (o i v:V) (ov iv u:Value) (Q:Hp→Prop),Inv X pins σ H s→Zx o ov→Zx i iv→Zx v u→t o i v H Q →
  wpAny (model X.prog X.w) X.A (setItem ov iv u) (fun _ s'=>∃H',Inv X pins σ H' s'∧Q H') X.xe s
abbrev TIp:=V→V→Hp→VK→Prop
def PIp(X:Cx)(op:Operator)(t:TIp):Prop :=
 ∀ (pins:List (Addr×Obj)) (s:Shared) (σ:St) (H:Hp) (x y:V) (v u:Value) (Q:VK),Inv X pins σ H s→Zx x v→Zx y u→t x y H Q →
  wpAny (model X.prog X.w) X.A (inplaceOp op v u) (EP X pins σ Q) X.xe s
section
variable {X:Cx} {pos:Pos}
def ZjF(i:Nat):TG:=fun v σ H Q=>Q (σ.set i (some v)) H
theorem ZN{i:Nat}{x:Str}(hN:X.N.Nodup)(hi:X.N[i]? = some x)(hx:Loc X.env.scope x)(hf:X.fn x=true∨X.env.scope.names.lookup x=some .local:=by first|exact .inl rfl|exact .inr rfl|assumption):PG X (.Name x pos) (ZjF i):=by
 intro pins s σ H v u Q I r h
 exact wpAny_assign_Name (Zc6 I hN hi hx r (fun s' I'=>⟨_,H,I',h⟩) hf)
def Zsd:TGs:=fun vs σ H Q=>vs=[]∧Q σ H
def ZrD(t:TG)(u:TGs):TGs:=fun vs σ H Q=>∃v r,vs=v::r∧t v σ H fun σ' H'=>u r σ' H' Q
theorem ZaY:PGs X [] Zsd:=by
 intro pins s σ H vs us Q I r h
 obtain⟨e,h⟩:=h
 subst e
 cases r
 exact assignInOrder_nil ⟨σ,H,I,h⟩
theorem Zy{e:Expr}{es:List Expr}{t:TG}{u:TGs}(h1:PG X e t)(h2:PGs X es u)
  (hs:(assignEach (e::es) X.env).map (·.2)=assign e X.env::(assignEach es X.env).map (·.2):=by rfl):PGs X (e::es) (ZrD t u):=by
 intro pins s σ H vs us Q I r h
 obtain⟨v,vr,e1,h⟩:=h
 subst e1
 cases r with
 | cons r rr =>
  rw[hs]
  refine assignInOrder_cons (thn (h1 pins s σ H _ _ _ I r h) ?_)
  rintro _ s1 ⟨σ1,H1,I1,q1⟩
  exact h2 pins s1 σ1 H1 _ _ Q I1 rr q1
def Zrb(K:PySem.W.Frag)(n:Nat)(t:TGs):TG:=fun v σ H Q=>∃a xs,v=.ref a∧SqT K H a xs∧xs.length=n∧t xs σ H Q
theorem Zpp{es:List Expr}{k:Nat}{t:TGs}{n:Nat}(hc:X.calm=true)(h:PGs X es t)
  (hn:(assignEach es X.env).length=n:=by rfl) (hst:(assignEach es X.env).findIdx? (·.1)=none:=by rfl):PG X (.Tuple es k pos) (Zrb X.K n t):=by
 intro pins s σ H v u Q I r hw
 obtain⟨a,xs,e1,hq,hl,hw⟩:=hw
 subst e1
 cases r
 obtain⟨its,rv,ht,hz⟩:=I.tuple hq
 refine assign_Tuple_tuple (I.ok.hd hc) ht (by simp[hn,← hl,rv.length]) hst fun h' hx=>?_
 have I1:Inv X pins σ H { s with heap:=h' }:=I.kept (t':=s.toks) fun b o e=>hx b o (QH (Qv e)) e
 exact h pins _ σ H xs _ Q I1 (by simpa using rv) hw
def Zsj(to ti:TE)(t:ZkO):TG:=fun v σ H Q=>to σ H fun o H1=>ti σ H1 fun i H2=>t o i v H2 fun H3=>Q σ H3
theorem ZdU{o i:Expr}{to ti:TE}{t:ZkO}(ho:PE X o to)(hi:PE X i ti)(hs:ZpC X t)
  (ha:∀v,assign (.Subscript o i pos) X.env v=(do
   let ov ← holding [v] (eval o X.env)
   let iv ← holding [v,ov] (eval i X.env)
   standAt pos
   holding [v,ov,iv] (setItem ov iv v)
   release [v,ov,iv] []):=by intro _;rfl):PG X (.Subscript o i pos) (Zsj to ti t):=by
 intro pins s σ H v u Q I r h
 rw[ha]
 refine wpAny_bind (wpAny_holding (thn (ho pins s σ H _ I h) ?_))
 rintro ov s1 ⟨x,H1,I1,r1,q1⟩
 refine wpAny_bind (wpAny_holding (thn (hi pins s1 σ H1 _ I1 q1) ?_))
 rintro iv s2 ⟨y,H2,I2,r2,q2⟩
 refine wpAny_bind (wpAny_standAt (wpAny_bind (wpAny_holding (thn (hs pins s2 σ H2 x y v ov iv u _ I2 r1 r2 r q2) ?_))))
 rintro _ s3 ⟨H3,I3,q3⟩
 exact wpAny_release ⟨σ,H3,I3,q3⟩
def ZpO(te:TE)(g:TG):TS:=fun D σ H=>te σ H fun x H1=>g x σ H1 D.nx
theorem Zbs{tg e:Expr}{te:TE}{g:TG}(he:PE X e te)(hg:PG X tg g)(hs:swapsWithSole [tg] e pos.line X.env=pure false:=by rfl)(hw:swappedStores [tg] e X.env=pure none:=by rfl)
  (h1:(assignEach [tg] X.env).map (·.2)=[assign tg X.env]:=by rfl):PS X (.Assign [tg] e pos) (ZpO te g):=by
 intro pins s σ H D I h
 refine wpAny_Assign_stores (thn (he pins s σ H _ I h) ?_) hs hw
 rintro v s1 ⟨x,H1,I1,r1,q1⟩
 rw[h1]
 exact thn (hg pins s1 σ H1 x v _ I1 r1 q1) fun _ s2 q=>q
theorem Zu{i:Nat}{x:Str}{e:Expr}{te:TE}{pos':Pos}(hN:X.N.Nodup)(hi:X.N[i]? = some x)(hx:Loc X.env.scope x)(he:PE X e te)(hs:swapsWith e (some (.Name x pos')) pos.line X.env=pure false:=by rfl)(hf:X.fn x=true∨X.env.scope.names.lookup x=some .local:=by first|exact .inl rfl|exact .inr rfl|assumption) :
  PS X (.Assign [.Name x pos'] e pos) (ZpO te (ZjF i)):=by
 intro pins s σ H D I h
 refine wpAny_Assign_Name (thn (he pins s σ H _ I h) ?_) hs
 rintro v s1 ⟨y,H1,I1,r1,q1⟩
 exact Zc6 I1 hN hi hx r1 (fun s2 I2=>⟨_,H1,I2,q1⟩) hf
def ZsB(i j:Nat)(ta:TA):TS:=fun D σ H=>ta σ H fun vs H1=>∃v w,vs=[v,w]∧D.nx ((σ.set i (some v)).set j (some w)) H1
theorem Zp7{i j:Nat}{x y:Str}{a b:Expr}{ta:TA}{px py pt:Pos}{kt k2 pt2}(hc:X.calm=true)(hN:X.N.Nodup)(hi:X.N[i]? = some x)(hj:X.N[j]? = some y)(hij:i≠j)
  (hx:X.env.scope.names.lookup x=some .local) (hy:X.env.scope.names.lookup y=some .local) (ha:PA X [a,b] ta)
  (hw:swappedStores [.Tuple [.Name x px,.Name y py] kt pt] (.Tuple [a,b] k2 pt2) X.env=pure (some [x,y]))
  (hs:swapsWithSole [.Tuple [.Name x px,.Name y py] kt pt] (.Tuple [a,b] k2 pt2) pos.line X.env=pure false:=by rfl) :
  PS X (.Assign [.Tuple [.Name x px,.Name y py] kt pt] (.Tuple [a,b] k2 pt2) pos) (ZsB i j ta):=by
 intro pins s σ H D I h
 rw[exec_Assign_arm]
 refine wpAny_bind (wpAny_standAt ?_)
 rw[hs]
 refine wpAny_bind (wpAny_pure ?_)
 rw[if_neg (by decide)]
 refine wpAny_bind (Tuple_ (thn (ha _ pins s σ H _ I h) ?_))
 rintro us s1 ⟨vs,H1,I1,r1,q1⟩
 obtain⟨v,w,e1,q1⟩:=q1
 subst e1
 obtain⟨u1,u2,rfl,rv,rw'⟩:∃u1 u2,us=[u1,u2]∧Zx v u1∧Zx w u2:=by
  cases r1 with
  | cons p q =>
   cases q with
   | cons p' q' =>
    cases q'
    exact⟨_,_,rfl,p,p'⟩
 refine wpAny_newObj_type ?_ (by show 2≤sizeLine;decide)
 have I2:Inv X pins σ H1 { s1 with heap:=s1.heap.push { cls:=.type "tuple",data:=.seq [u1,u2].toArray } }:=I1.kept (t':=s1.toks) fun b o e=>Qc _ e
 rw[hw]
 refine wpAny_bind (wpAny_pure ?_)
 show wpAny (model X.prog X.w) X.A (do rule "assign.swapped-stores";let items ← unpackItems (.ref s1.heap.objs.size) 2 none;assignInOrder [fun v=>bindName X.env y v,fun v=>bindName X.env x v] items.reverse;pure Flow.next) _ _ _
 refine wpAny_bind (wpAny_rule (wpAny_bind (unpackItems_tuple (items:=#[u1,u2]) (I.ok.hd hc) (IsTup.new s1.heap _) fun h' hx'=>?_)))
 have I3:=I2.kept (h':=h') (t':=s1.toks) fun b o e=>hx' b o (QH (Qv e)) e
 show wpAny _ _ (assignInOrder [fun v=>bindName X.env y v,fun v=>bindName X.env x v] [u2,u1] >>= fun _=>pure Flow.next) _ _ _
 refine wpAny_bind (assignInOrder_cons (wpAny_bindName (Zc6 I3 hN hj (.inl hy) rw' (fun s2 I4=>?_) (.inr hy))))
 refine assignInOrder_cons (wpAny_bindName (Zc6 I4 hN hi (.inl hx) rv (fun s3 I5=>assignInOrder_nil (wpAny_pure ?_)) (.inr hx)))
 rw[List.set_comm _ _ (Ne.symm hij)]at I5
 exact⟨_,H1,I5,q1⟩
def ZsG(i:Nat)(te:TE)(ti:TIp):TS:=fun D σ H=>∃x,σ[i]? = some (some x)∧te σ H fun y H1=>ti x y H1 fun z H2=>D.nx (σ.set i (some z)) H2
theorem Zpy{i:Nat}{x:Str}{e:Expr}{te:TE}{op:Operator}{ti:TIp}{pos':Pos}(hN:X.N.Nodup)(hi:X.N[i]? = some x)(hx:Loc X.env.scope x)(he:PE X e te)(ho:PIp X op ti)(hf:X.fn x=true∨X.env.scope.names.lookup x=some .local:=by first|exact .inl rfl|exact .inr rfl|assumption) :
  PS X (.AugAssign (.Name x pos') op e pos) (ZsG i te ti):=by
 intro pins s σ H D I h
 obtain⟨v,e1,h⟩:=h
 obtain⟨m,hn,hl⟩:=I.loc
 have vis:Vis X.env.scope x:=by rcases hx with k|k;exact .inl k;exact .inr (.inl k)
 obtain⟨u,r,l⟩:=hl i x v hi e1 vis
 refine wpAny_AugAssign_Name ?_
 have go:wpAny (model X.prog X.w) X.A (eval e X.env) (fun w s₂=>wpAny (model X.prog X.w) X.A (inplaceOp op u w) (fun r s₃=>wpAny (model X.prog X.w) X.A (storeName X.env x r) (fun _=>SP X pins D .next) X.xe s₃) X.xe s₂) X.xe s:=by
  refine thn (he pins s σ H _ I h) ?_
  rintro w s1 ⟨y,H1,I1,r1,q1⟩
  refine thn (ho pins s1 σ H1 v y u w _ I1 r r1 q1) ?_
  rintro z s2 ⟨zv,H2,I2,r2,q2⟩
  exact Zc6 I2 hN hi hx r2 (fun s3 I3=>⟨_,H2,I3,q2⟩) hf
 rcases l with⟨hk,hm⟩|⟨hk,c,hc,hcell⟩
 ·exact wpAny_loadName_local I.ok.kind hk hn hm go
 ·rcases hk with hk|hk
  ·exact wpAny_loadName_cell I.ok.kind hk hc hcell go
  ·rcases hx with k|k
   ·have:X.env.scope.names.lookup x=some .free:=hk
    rw[k]at this;cases this
   ·have:X.env.scope.names.lookup x=some .free:=hk
    rw[k]at this;cases this
def tAugS(to ti te:TE)(tget:V→V→Hp→VK→Prop)(tip:TIp)(tset:ZkO):TS:=fun D σ H=>to σ H fun o H1=>ti σ H1 fun i H2=>tget o i H2 fun x H3=>te σ H3 fun y H4=>tip x y H4 fun z H5=>tset o i z H5 fun H6=>D.nx σ H6
def PGet(X:Cx)(t:V→V→Hp→VK→Prop):Prop :=
 ∀ (pins:List (Addr×Obj)) (s:Shared) (σ:St) (H:Hp) (o i:V) (ov iv:Value) (Q:VK),Inv X pins σ H s→Zx o ov→Zx i iv→t o i H Q →
  wpAny (model X.prog X.w) X.A (getItem ov iv) (EP X pins σ Q) X.xe s
def ipI(f:Int→Int→Int):TIp:=fun x y H Q=>∃i j,x=.int i∧y=.int j∧Q (.int (f i j)) H
theorem ZpX:PIp X .Add (ipI fun i j=>i+j):=by
 intro pins s σ H x y v u Q I r1 r2 h
 obtain⟨i,j,e1,e2,q⟩:=h
 subst e1;subst e2
 obtain⟨t,rfl⟩:=r1
 obtain⟨t',rfl⟩:=r2
 exact iadd_int ⟨.int _,H,I.tok _,⟨_,rfl⟩,q⟩
end
section
variable {X:Cx} {pos:Pos}
def ZpW(c:TT)(tb:TS):TS:=fun D σ H=>∃W:Nat→St→Hp→Prop,(∃m,W m σ H)∧∀m σ H,W m σ H →
 c σ H fun b H1=>if b=true then ∃N:St→Hp→Prop,(∀σ' H',N σ' H'→∃m',m'<m∧W m' σ' H')∧tb { D with nx:=N,ct:=N,bk:=D.nx } σ H1 else D.nx σ H1
theorem Zcu{c:Expr}{body:List Stmt}{tc:TT}{tb:TS}(hp:PassesOwn (model X.prog X.w) X.A X.env X.xe)(hc:PT X c tc)(hb:PSs X body tb):PS X (.While c body [] pos) (ZpW tc tb):=by
 intro pins s σ H D I h
 obtain⟨W,⟨m0,w0⟩,turn⟩:=h
 refine wpAny_While (codeAny_whileLoop (fun n s'=>∃σ' H',Inv X pins σ' H' s'∧W n σ' H') ?_ m0 ⟨σ,H,I,w0⟩)
 rintro n s1 ⟨σ1,H1,I1,w1⟩
 refine wpAny_passesOwn hp (thn (hc pins s1 σ1 H1 _ I1 (turn n σ1 H1 w1)) ?_)
 rintro b s2 ⟨H2,I2,q2⟩
 cases b with
 | true =>
  obtain⟨N,hN,q2⟩:=q2
  rw[if_pos rfl]
  refine wpAny_passesOwn hp (thn (hb pins s2 σ1 H2 _ I2 q2) fun f s3 q3=>?_)
  cases f with
  | next =>
   obtain⟨σ3,H3,I3,n3⟩:=q3
   obtain⟨m',hm,w3⟩:=hN σ3 H3 n3
   exact⟨m',hm,σ3,H3,I3,w3⟩
  | cont =>
   obtain⟨σ3,H3,I3,n3⟩:=q3
   obtain⟨m',hm,w3⟩:=hN σ3 H3 n3
   exact⟨m',hm,σ3,H3,I3,w3⟩
  | brk=>exact q3
  | ret v=>exact q3
 | false =>
  rw[if_neg Qt]
  exact wpAny_execs_nil ⟨σ1,H2,I2,q2⟩
end
structure It where
 go:Nat→Hp→Prop
 yld:Nat→Hp→V→Hp→Prop
 stop:Nat→Hp→Prop
def ZeY(X:Cx)(pins:List (Addr×Obj))(H:Hp)(b:Addr):Prop :=
 H b=none∧b≠X.env.locals∧b ∉ X.fs∧(b∈X.ex∨X.s₀.heap.objs.size≤b)∧(∀x c,X.env.cells.lookup x=some c→c≠b)∧∀p∈X.pn++pins,p.1≠b
theorem Inv.fpOk{X:Cx}{pins:List (Addr×Obj)}{σ:St}{H H':Hp}{s:Shared}{b:Addr}(I:Inv X pins σ H s)(hb:s.heap.objs.size≤b)(hn:H' b=none):ZeY X pins H' b:=by
 refine⟨hn,Q5 (QG I.lt hb),I.nofs hb,.inr (QM I.sz hb),fun x c e z=>?_,fun p hp z=>?_⟩
 ·obtain⟨v,q⟩:=I.cell x c e
  exact absurd (QG q.lt (by rw[z];exact hb)) (Qaa _)
 ·exact absurd (QG (Qv (I.pin p hp).1) (by rw[z];exact hb)) (Qaa _)
structure ZkR (P:Program) (w:World) (K:PySem.W.Frag) (tg:Expr) (J:It) (fp:List Addr) (it:Addr) (tn:Nat→Heap→Prop):Prop where
 mem:it∈fp
 obj:∀i h,tn i h→∀b∈fp,∃o,h.get? b=some o∧∀v,o.data≠.cell v
 keep:∀i h h',tn i h→(∀b∈fp,∀o,h.get? b=some o→h'.get? b=some o)→tn i h'
 item:∀ (X:Cx),X.prog=P→X.w=w→X.K=K→X.calm=true→∀ (i:Nat) (pins:List (Addr×Obj)) (s:Shared) (σ:St) (H:Hp) (E:Value→Shared→Prop),Inv X pins σ H s→(∀b∈fp,ZeY X pins H b)→tn i s.heap→J.go i H →
  wpAny (model P w) X.A (pyNext (.ref it)) (fun r s1=>∃u,r=some u ∧
   wpAny (model P w) X.A (letOwnedTupleGo tg (.ref it) u) (fun _ s2=>∃x H',Inv X pins σ H' s2∧Zx x u∧J.yld i H x H'∧tn (i+1) s2.heap∧∀b∈fp,H' b=none) E s1) E s
 done:∀ (X:Cx),X.prog=P→X.w=w→X.K=K→X.calm=true→∀ (i:Nat) (pins:List (Addr×Obj)) (s:Shared) (σ:St) (H:Hp) (E:Value→Shared→Prop),Inv X pins σ H s→(∀b∈fp,ZeY X pins H b)→tn i s.heap→J.stop i H →
  wpAny (model P w) X.A (pyNext (.ref it)) (fun r s1=>r=none∧Inv X pins σ H s1) E s
 self:∀ (A:Around) (i:Nat) (s:Shared) (Q:Value→Shared→Prop) (E:Value→Shared→Prop),tn i s.heap→Q (.ref it) s→wpAny (model P w) A (pyIter (.ref it)) Q E s
abbrev TI:=St→Hp→(It→Hp→Prop)→Prop
def PIE(X:Cx)(pins:List (Addr×Obj))(σ:St)(tg:Expr)(R:It→Hp→Prop)(itv:Value)(s2:Shared):Prop :=
 ∃ (it:Addr) (fp:List Addr) (tn:Nat→Heap→Prop) (J:It) (H':Hp),itv=.ref it∧Inv X pins σ H' s2∧ZkR X.prog X.w X.K tg J fp it tn∧tn 0 s2.heap∧(∀b∈fp,ZeY X pins H' b)∧R J H'
def PI(X:Cx)(tg iter:Expr)(wi:TI):Prop :=
 ∀ (pins:List (Addr×Obj)) (s:Shared) (σ:St) (H:Hp) (R:It→Hp→Prop),Inv X pins σ H s→wi σ H R →
  wpAny (model X.prog X.w) X.A (eval iter X.env) (fun v s1=>wpAny (model X.prog X.w) X.A (pyIter v) (PIE X pins σ tg R) X.xe s1) X.xe s
theorem ZmY{M:Model}{A:Around}{E:Value→Shared→Prop}{s:Shared}{tg:Expr}{it:Addr}{u:Value}{o:Obj}{n:String}{vs:Array Value}{Q:Unit→Shared→Prop}(ho:s.heap.get? it=some o)(hc:o.cls=.type n)(hd:o.data=.fields vs)
  (hn:["enumerate", "zip", "dict_itemiterator", "dict_reverseitemiterator", "odict_iterator", "itertools.zip_longest", "itertools.pairwise"].contains n=false) (hQ:Q () s):wpAny M A (letOwnedTupleGo tg (.ref it) u) Q E s:=by
 unfold letOwnedTupleGo
 cases tg<;>first
  | exact wpAny_pure hQ
  | (cases u<;>first
    | exact wpAny_pure hQ
    | (refine wpAny_bind (wpAny_load ho ?_);rw[hc,hd];show wpAny M A (if (["enumerate", "zip", "dict_itemiterator", "dict_reverseitemiterator", "odict_iterator", "itertools.zip_longest", "itertools.pairwise"].contains n&&vs[0]? == some (rawInt _))=true then _ else _) Q E s;rw[if_neg (by intro h;rw[hn,Bool.false_and]at h;cases h)];exact wpAny_pure hQ))
def Itl(K:PySem.W.Frag)(a:Addr):It :=
 ⟨fun i H=>∃xs x,SqL K H a xs∧xs[i]? = some x,fun i H x H'=>H'=H∧∀xs,SqL K H a xs→xs[i]? = some x,fun i H=>∃xs,SqL K H a xs∧xs.length≤i⟩
def Itt(K:PySem.W.Frag)(a:Addr):It :=
 ⟨fun i H=>∃xs x,SqT K H a xs∧xs[i]? = some x,fun i H x H'=>H'=H∧∀xs,SqT K H a xs→xs[i]? = some x,fun i H=>∃xs,SqT K H a xs∧xs.length≤i⟩
def Itr(lo:Int)(n:Nat):It:=⟨fun i _=>i<n,fun i H x H'=>H'=H∧x=.int (lo+i),fun i _=>n≤i⟩
theorem Zky{P:Program}{w:World}{K:PySem.W.Frag}{tg:Expr}(a it:Addr):ZkR P w K tg (Itl K a) [it] it (fun i h=>h.IsListIter it a i) where
 mem:=by simp
 obj:=fun i h st b hb=>by
  have e:b=it:=by simpa using hb
  subst e
  obtain⟨o,e,c,d⟩:=st
  exact⟨o,e,fun v z=>by rw[d]at z;cases z⟩
 keep:=fun i h h' st k=>st.at fun o e=>k it (by simp) o e
 item:=by
  intro X hP hw hK hc i pins s σ H E I hf st hg
  subst hP hw hK
  obtain⟨xs,x,hq,hx⟩:=hg
  obtain⟨its,rv,p,hz⟩:=I.list hq
  obtain⟨u,hu,ru⟩:=rv.get hx
  obtain⟨f0,f1,f2,f3,f4,f5⟩:=hf it (by simp)
  refine wpAny_pyNext_list_item st p.isList (x:=u) (by simpa using hu) fun h' st' sb=>?_
  have I1:Inv X pins σ H { s with heap:=h' }:=I.turned (t':=s.toks) (fun b o hb e=>(sb.2 b hb).trans e) f0 f1 f3 f4 f5
  obtain⟨o,e,c,d⟩:=id st'
  exact⟨u,rfl,ZmY (s:={ s with heap:=h' }) e c d (by decide) ⟨x,H,I1,ru,⟨rfl,fun ys hy=>by rw[I.list_inj hy hq];exact hx⟩,st',fun b hb=>(hf b hb).1⟩⟩
 done:=by
  intro X hP hw hK hc i pins s σ H E I hf st hg
  subst hP hw hK
  obtain⟨xs,hq,hx⟩:=hg
  obtain⟨its,rv,p,hz⟩:=I.list hq
  obtain⟨f0,f1,f2,f3,f4,f5⟩:=hf it (by simp)
  have hl:=rv.length
  exact wpAny_pyNext_list_end (I.ok.hd hc) st p.isList (by simp;omega) fun h' eb=>⟨rfl,I.turned (t':=s.toks) (fun b o hb e=>eb b o hb e) f0 f1 f3 f4 f5⟩
 self:=fun _ _ _ _ _ st h=>wpAny_pyIter_listiter st h
theorem Zjg{P:Program}{w:World}{K:PySem.W.Frag}{tg:Expr}(a it:Addr):ZkR P w K tg (Itt K a) [it] it (fun i h=>h.IsTupleIter it a i) where
 mem:=by simp
 obj:=fun i h st b hb=>by
  have e:b=it:=by simpa using hb
  subst e
  obtain⟨o,e,c,d⟩:=st
  exact⟨o,e,fun v z=>by rw[d]at z;cases z⟩
 keep:=fun i h h' st k=>st.at fun o e=>k it (by simp) o e
 item:=by
  intro X hP hw hK hc i pins s σ H E I hf st hg
  subst hP hw hK
  obtain⟨xs,x,hq,hx⟩:=hg
  obtain⟨its,rv,p,hz⟩:=I.tuple hq
  obtain⟨u,hu,ru⟩:=rv.get hx
  obtain⟨f0,f1,f2,f3,f4,f5⟩:=hf it (by simp)
  refine wpAny_pyNext_tuple_item st (show s.heap.IsTuple a its.toArray from p) (x:=u) (by simpa using hu) fun h' st' sb=>?_
  have I1:Inv X pins σ H { s with heap:=h' }:=I.turned (t':=s.toks) (fun b o hb e=>(sb.2 b hb).trans e) f0 f1 f3 f4 f5
  obtain⟨o,e,c,d⟩:=id st'
  exact⟨u,rfl,ZmY (s:={ s with heap:=h' }) e c d (by decide) ⟨x,H,I1,ru,⟨rfl,fun ys hy=>by rw[I.tuple_inj hy hq];exact hx⟩,st',fun b hb=>(hf b hb).1⟩⟩
 done:=by
  intro X hP hw hK hc i pins s σ H E I hf st hg
  subst hP hw hK
  obtain⟨xs,hq,hx⟩:=hg
  obtain⟨its,rv,p,hz⟩:=I.tuple hq
  obtain⟨f0,f1,f2,f3,f4,f5⟩:=hf it (by simp)
  have hl:=rv.length
  exact wpAny_pyNext_tuple_end (I.ok.hd hc) st (show s.heap.IsTuple a its.toArray from p) (by simp;omega) fun h' eb=>⟨rfl,I.turned (t':=s.toks) (fun b o hb e=>eb b o hb e) f0 f1 f3 f4 f5⟩
 self:=fun _ _ _ _ _ st h=>wpAny_pyIter_tupleiter st h
theorem ZiV{P:Program}{w:World}{K:PySem.W.Frag}{tg:Expr}(it:Addr)(lo:Int)(n:Nat):ZkR P w K tg (Itr lo n) [it] it (fun i h=>IsRangeIter h it (lo+(i:Nat)*1) ((n:Int)-(i:Nat)) 1) where
 mem:=by simp
 obj:=fun i h st b hb=>by
  have e:b=it:=by simpa using hb
  subst e
  exact⟨_,st,fun v z=>by
   have z':Data.fields _=Data.cell v:=z
   cases z'⟩
 keep:=fun i h h' st k=>k it (by simp) _ st
 item:=by
  intro X hP hw hK hc i pins s σ H E I hf st hg
  subst hP hw hK
  obtain⟨f0,f1,f2,f3,f4,f5⟩:=hf it (by simp)
  have W:=Walks.range (prog:=X.prog) (w:=X.w) (I.ok.hd hc) it lo 1 n
  refine W.item i s _ _ hg st fun v h' tk hv st' kk=>?_
  obtain⟨t,rfl⟩:=hv
  have I1:Inv X pins σ H { s with heap:=h',toks:=tk }:=I.turned (fun b o hb e=>kk b o (by simpa using hb) e) f0 f1 f3 f4 f5
  refine⟨_,rfl,ZmY (s:={ s with heap:=h',toks:=tk }) (n := "range_iterator") st' rfl rfl (by decide) ⟨.int (lo+i),H,I1,⟨t,?_⟩,⟨rfl,rfl⟩,st',fun b hb=>(hf b hb).1⟩⟩
  rw[Int.mul_one]
 done:=by
  intro X hP hw hK hc i pins s σ H E I hf st hg
  subst hP hw hK
  obtain⟨f0,f1,f2,f3,f4,f5⟩:=hf it (by simp)
  exact wpAny_pyNext_range_end (I.ok.hd hc) st (by have:n≤i:=hg;omega) fun h' eb=>⟨rfl,I.turned (t':=s.toks) (fun b o hb e=>eb b o hb e) f0 f1 f3 f4 f5⟩
 self:=fun _ _ _ _ _ st h=>wpAny_pyIter_rangeiter st h
section
variable {X:Cx} {tg:Expr}
def ZoX(K:PySem.W.Frag)(tl:TE):TI:=fun σ H R=>tl σ H fun x H1=>∃a,x=.ref a∧(∃xs,SqL K H1 a xs)∧R (Itl K a) H1
def ZqZ(K:PySem.W.Frag)(tl:TE):TI:=fun σ H R=>tl σ H fun x H1=>∃a,x=.ref a∧(∃xs,SqT K H1 a xs)∧R (Itt K a) H1
theorem ZnY{l:Expr}{tl:TE}(hl:PE X l tl):PI X tg l (ZoX X.K tl):=by
 intro pins s σ H R I h
 refine thn (hl pins s σ H _ I h) ?_
 rintro v s1 ⟨x,H1,I1,r1,q1⟩
 obtain⟨a,e,⟨xs,hq⟩,q⟩:=q1
 subst e
 cases r1
 obtain⟨its,rv,p,hz⟩:=I1.list hq
 refine wpAny_pyIter_list p.isList ?_
 refine⟨s1.heap.objs.size,[s1.heap.objs.size],_,_,H1,rfl,I1.kept (t':=s1.toks) fun b o e=>Qc _ e,Zky a _,⟨_,Qu _ rfl,rfl,rfl⟩,fun b hb=>?_,q⟩
 have e:b=s1.heap.objs.size:=by simpa using hb
 subst e
 exact I1.fpOk (Qf _) (I1.hok.fresh (Qf _))
theorem Zqr{l:Expr}{tl:TE}(hl:PE X l tl):PI X tg l (ZqZ X.K tl):=by
 intro pins s σ H R I h
 refine thn (hl pins s σ H _ I h) ?_
 rintro v s1 ⟨x,H1,I1,r1,q1⟩
 obtain⟨a,e,⟨xs,hq⟩,q⟩:=q1
 subst e
 cases r1
 obtain⟨its,rv,p,hz⟩:=I1.tuple hq
 refine wpAny_pyIter_tuple (show s1.heap.IsTuple a its.toArray from p) ?_
 refine⟨s1.heap.objs.size,[s1.heap.objs.size],_,_,H1,rfl,I1.kept (t':=s1.toks) fun b o e=>Qc _ e,Zjg a _,⟨_,Qu _ rfl,rfl,rfl⟩,fun b hb=>?_,q⟩
 have e:b=s1.heap.objs.size:=by simpa using hb
 subst e
 exact I1.fpOk (Qf _) (I1.hok.fresh (Qf _))
theorem ZiH{pins:List (Addr×Obj)}{σ:St}{H:Hp}{s:Shared}{R:It→Hp→Prop}{E:Value→Shared→Prop}{lo hi:Int}{t u v:Tok}{tk:Nat}(I:Inv X pins σ H s)(h1:-(2 ^ 62)≤lo)(h2:lo<2 ^ 62)(h3:-(2 ^ 62)≤hi)(h4:hi<2 ^ 62)
  (q:R (Itr lo (hi-lo).toNat) H):wpAny (model X.prog X.w) X.A (pyIter (.ref s.heap.objs.size)) (PIE X pins σ tg R) E { s with heap:=s.heap.push { cls:=.type "range",data:=.fields #[.int lo t,.int hi u,.int 1 v] },toks:=tk }:=by
 refine wpAny_pyIter_range (IsRange.new ..) (small_one h1 h2 h3 h4) ?_
 have I1:Inv X pins σ H { s with heap:=s.heap.push { cls:=.type "range",data:=.fields #[.int lo t,.int hi u,.int 1 v] },toks:=tk }:=I.kept fun b o e=>Qc _ e
 refine⟨(s.heap.push { cls:=.type "range",data:=.fields #[.int lo t,.int hi u,.int 1 v] }).objs.size,[(s.heap.push { cls:=.type "range",data:=.fields #[.int lo t,.int hi u,.int 1 v] }).objs.size],_,_,H,rfl,
  I1.kept (t':=tk) fun b o e=>Qc _ e,ZiV _ lo (hi-lo).toNat,?_,fun b hb=>?_,q⟩
 ·have e1:lo+((0:Nat):Int)*1=lo:=by simp
  have e2:(((hi-lo).toNat:Nat):Int)-((0:Nat):Int)=Builtin.Range.rangeSize lo hi 1:=by rw[rangeSize_one];split<;>omega
  show IsRangeIter _ _ (lo+((0:Nat):Int)*1) ((((hi-lo).toNat:Nat):Int)-((0:Nat):Int)) 1
  rw[e1,e2]
  exact Qu _ rfl
 ·have e:b=(s.heap.push { cls:=.type "range",data:=.fields #[.int lo t,.int hi u,.int 1 v] }).objs.size:=by simpa using hb
  subst e
  exact I1.fpOk (Qf _) (I1.hok.fresh (Qf _))
def ZrQ(ta:TA):TI:=fun σ H R=>ta σ H fun vs H1=>∃j:Int,vs=[.int j] ∧ -(2 ^ 62)≤j∧j<2 ^ 62∧R (Itr 0 j.toNat) H1
def ZrA(ta:TA):TI:=fun σ H R=>ta σ H fun vs H1=>∃i j:Int,vs=[.int i,.int j]∧(-(2 ^ 62)≤i∧i<2 ^ 62 ∧ -(2 ^ 62)≤j∧j<2 ^ 62)∧R (Itr i (j-i).toNat) H1
theorem Zbd{a:Expr}{ta:TA}{p pos:Pos}(hg:Gl X "range")(hm:X.mg "range" = none)(ha:PA X [a] ta)(hs:starEach [a] X.env=[(false,eval a X.env)]:=by rfl):PI X tg (.Call (.Name "range" p) [a] [] pos) (ZrQ ta):=by
 intro pins s σ H R I h
 refine Call_ (ZdQ I hg hm boot_range (Q4 (thn (ha pos pins s σ H _ I h) ?_) hs rfl))
 rintro us s1 ⟨vs,H1,I1,r1,q1⟩
 obtain⟨j,e,q1,q2,q⟩:=q1
 subst e
 cases r1 with
 | cons r rr =>
  cases rr
  obtain⟨t,rfl⟩:=r
  exact call_range_1 (ZiH I1 (by omega) (by omega) q1 q2 (by simpa using q))
theorem Zld{a b:Expr}{ta:TA}{p pos:Pos}(hg:Gl X "range")(hm:X.mg "range" = none)(ha:PA X [a,b] ta)(hs:starEach [a,b] X.env=[(false,eval a X.env),(false,eval b X.env)]:=by rfl)(hs2:starEach [b] X.env=[(false,eval b X.env)]:=by rfl) :
  PI X tg (.Call (.Name "range" p) [a,b] [] pos) (ZrA ta):=by
 intro pins s σ H R I h
 refine Call_ (ZdQ I hg hm boot_range (Q4 (thn (ha pos pins s σ H _ I h) ?_) (by rw[hs,hs2]) (by rw[hs2];rfl)))
 rintro us s1 ⟨vs,H1,I1,r1,q1⟩
 obtain⟨i,j,e,⟨q1,q2,q3,q4⟩,q⟩:=q1
 subst e
 cases r1 with
 | cons r rr =>
  cases rr with
  | cons r' rr =>
   cases rr
   obtain⟨t,rfl⟩:=r
   obtain⟨t',rfl⟩:=r'
   exact call_range_2 (ZiH I1 q1 q2 q3 q4 q)
def Zsw(wi:TI)(g:TG)(tb:TS):TS:=fun D σ H=>wi σ H fun J H1=>∃W:Nat→Nat→St→Hp→Prop,(∃m,W 0 m σ H1)∧∀i m σ H,W i m σ H →
 (J.stop i H∧D.nx σ H)∨(J.go i H∧∃N:St→Hp→Prop,(∀σ' H',N σ' H'→∃m',m'<m∧W (i+1) m' σ' H')∧∀x H',J.yld i H x H'→g x σ H' fun σ2 H2=>tb { D with nx:=N,ct:=N,bk:=D.nx } σ2 H2)
def ZfR(fp:List Addr)(h:Heap):List (Addr×Obj):=fp.filterMap fun b=>(h.get? b).map fun o=>(b,o)
theorem ZcI{fp:List Addr}{h:Heap}{b:Addr}{o:Obj}(hb:b∈fp)(e:h.get? b=some o):(b,o)∈ZfR fp h:=List.mem_filterMap.mpr ⟨b,hb,by rw[e];rfl⟩
theorem ZkW{fp:List Addr}{h:Heap}{p:Addr×Obj}(hp:p∈ZfR fp h):p.1∈fp∧h.get? p.1=some p.2:=by
 obtain⟨b,hb,e⟩:=List.mem_filterMap.mp hp
 cases q:h.get? b with
 | none=>rw[q]at e;cases e
 | some o =>
  rw[q]at e
  have e':(b,o)=p:=Qm e
  subst e'
  exact⟨hb,q⟩
theorem Inv.pinned{pins:List (Addr×Obj)}{σ:St}{H:Hp}{s:Shared}{fp:List Addr}(I:Inv X pins σ H s)(hf:∀b∈fp,ZeY X pins H b)(ho:∀b∈fp,∃o,s.heap.get? b=some o∧∀v,o.data≠.cell v):Inv X (pins++ZfR fp s.heap) σ H s :=
 I.pins_of fun p hp=>(Qk.mp hp).elim (fun z=>I.pin p (Qz _ z)) fun z=>by
  obtain⟨hb,e⟩:=ZkW z
  obtain⟨f0,f1,f2,_⟩:=hf p.1 hb
  obtain⟨o,e',d⟩:=ho p.1 hb
  rw[e]at e';cases e'
  exact⟨e,f0,f1,f2,d⟩
theorem Inv.unpinned{pins pl:List (Addr×Obj)}{σ:St}{H:Hp}{s:Shared}(I:Inv X (pins++pl) σ H s):Inv X pins σ H s:=I.pins_of fun p hp=>I.pin p (Qz _ (QD _ hp))
theorem Zcf{iter:Expr}{body:List Stmt}{wi:TI}{g:TG}{tb:TS}{pos:Pos}(hp:PassesOwn (model X.prog X.w) X.A X.env X.xe)(hc:X.calm=true)(hi:PI X tg iter wi)(hg:PG X tg g)(hb:PSs X body tb)
  (hs:∀x,foldedSetIterable iter X.env x=pure x:=by intro _;rfl):PS X (.For tg iter body [] pos) (Zsw wi g tb):=by
 intro pins s σ H D I h
 refine wpAny_For (thn (hi pins s σ H _ I h) fun v s1 h1=>thn h1 fun itv s2 h2=>?_) hs
 obtain⟨it,fp,tn,J,H2,e,I2,T,st2,f2,W,⟨m0,w0⟩,turn⟩:=h2
 subst e
 have stat:∀ {H':Hp},(∀b∈fp,H' b=none)→∀b∈fp,ZeY X pins H' b:=fun hn b hb=>⟨hn b hb,(f2 b hb).2⟩
 refine codeAny_forLoop_any (fun n s'=>∃i σ' H',Inv X pins σ' H' s'∧tn i s'.heap∧(∀b∈fp,H' b=none)∧W i n σ' H') ?_ m0 ⟨0,σ,H2,I2,st2,fun b hb=>(f2 b hb).1,w0⟩
 rintro n s3 ⟨i,σ3,H3,I3,st3,fr3,w3⟩
 rcases turn i n σ3 H3 w3 with⟨stop,qn⟩|⟨go,N,hN,step⟩
 ·refine wpAny_passesOwn hp (thn (T.done X rfl rfl rfl hc i pins s3 σ3 H3 X.xe I3 (stat fr3) st3 stop) ?_)
  rintro r s4 ⟨hr,I4⟩
  subst hr
  exact wpAny_execs_nil ⟨σ3,H3,I4,qn⟩
 ·refine wpAny_passesOwn hp (thn (T.item X rfl rfl rfl hc i pins s3 σ3 H3 X.xe I3 (stat fr3) st3 go) ?_)
  rintro r s4 ⟨u,hr,h4⟩
  subst hr
  refine wpAny_passesOwn hp (thn h4 ?_)
  rintro _ s5 ⟨x,H5,I5,r5,y5,st5,fr5⟩
  have I5':=I5.pinned (stat fr5) (T.obj _ _ st5)
  refine wpAny_passesOwn hp (thn (hg _ s5 σ3 H5 x u _ I5' r5 (step x H5 y5)) ?_)
  rintro _ s6 ⟨σ6,H6,I6,q6⟩
  refine wpAny_passesOwn hp (thn (hb _ s6 σ6 H6 _ I6 q6) fun f s7 q7=>?_)
  have again:∀ {σ7:St} {H7:Hp},Inv X (pins++ZfR fp s5.heap) σ7 H7 s7→N σ7 H7→∃m,m<n∧∃i σ' H',Inv X pins σ' H' s7∧tn i s7.heap∧(∀b∈fp,H' b=none)∧W i m σ' H':=fun {σ7 H7} I7 n7=>by
   obtain⟨m',hm,w7⟩:=hN σ7 H7 n7
   refine⟨m',hm,i+1,σ7,H7,I7.unpinned,T.keep _ _ _ st5 fun b hb o e=>(I7.pin (b,o) (Qz _ (Qz _ (ZcI hb e)))).1,fun b hb=>?_,w7⟩
   obtain⟨o,e,d⟩:=T.obj _ _ st5 b hb
   exact(I7.pin (b,o) (Qz _ (Qz _ (ZcI hb e)))).2.1
  cases f with
  | next=>obtain⟨σ7,H7,I7,n7⟩:=q7;exact again I7 n7
  | cont=>obtain⟨σ7,H7,I7,n7⟩:=q7;exact again I7 n7
  | brk=>obtain⟨σ7,H7,I7,q7⟩:=q7;exact⟨σ7,H7,I7.unpinned,q7⟩
  | ret v=>obtain⟨x7,σ7,H7,I7,r7,q7⟩:=q7;exact⟨x7,σ7,H7,I7.unpinned,r7,q7⟩
end
theorem Zfq{K:PySem.W.Frag}{a:Addr}{xs:List V}{g:TG}{tb:TS}{D:ZeN}{σ:St}{H:Hp}(Pv:Nat→St→Hp→Prop)(h0:Pv 0 σ H)(hl:∀i σ H,i≤xs.length→Pv i σ H→SqL K H a xs)
  (hs:∀i x σ H,xs[i]? = some x→Pv i σ H→g x σ H fun σ2 H2=>tb { D with nx:=Pv (i+1),ct:=Pv (i+1),bk:=D.nx } σ2 H2) (hd:∀σ H,Pv xs.length σ H→D.nx σ H) :
  ∃W:Nat→Nat→St→Hp→Prop,(∃m,W 0 m σ H)∧∀i m σ H,W i m σ H →
   ((Itl K a).stop i H∧D.nx σ H)∨((Itl K a).go i H∧∃N:St→Hp→Prop,(∀σ' H',N σ' H'→∃m',m'<m∧W (i+1) m' σ' H')∧∀x H',(Itl K a).yld i H x H'→g x σ H' fun σ2 H2=>tb { D with nx:=N,ct:=N,bk:=D.nx } σ2 H2):=by
 refine⟨fun i m σ H=>m=xs.length-i∧i≤xs.length∧Pv i σ H,⟨xs.length,by simp,Qq _,h0⟩,?_⟩
 rintro i m σ H ⟨rfl,hi,p⟩
 have q:=hl i σ H hi p
 by_cases hlt:i<xs.length
 ·refine .inr ⟨⟨xs,xs[i],q,by simp[hlt]⟩,Pv (i+1),fun σ' H' p'=>⟨xs.length-(i+1),by omega,rfl,hlt,p'⟩,fun x H' y=>?_⟩
  obtain⟨e,y⟩:=y
  subst e
  exact hs i x σ _ (y xs q) p
 ·have e:i=xs.length:=by omega
  subst e
  exact .inl ⟨⟨xs,q,Qf _⟩,hd σ H p⟩
theorem Zcz{lo:Int}{n:Nat}{g:TG}{tb:TS}{D:ZeN}{σ:St}{H:Hp}(Pv:Nat→St→Hp→Prop)(h0:Pv 0 σ H)
  (hs:∀i σ H,i<n→Pv i σ H→g (.int (lo+i)) σ H fun σ2 H2=>tb { D with nx:=Pv (i+1),ct:=Pv (i+1),bk:=D.nx } σ2 H2) (hd:∀σ H,Pv n σ H→D.nx σ H) :
  ∃W:Nat→Nat→St→Hp→Prop,(∃m,W 0 m σ H)∧∀i m σ H,W i m σ H →
   ((Itr lo n).stop i H∧D.nx σ H)∨((Itr lo n).go i H∧∃N:St→Hp→Prop,(∀σ' H',N σ' H'→∃m',m'<m∧W (i+1) m' σ' H')∧∀x H',(Itr lo n).yld i H x H'→g x σ H' fun σ2 H2=>tb { D with nx:=N,ct:=N,bk:=D.nx } σ2 H2):=by
 refine⟨fun i m σ H=>m=n-i∧i≤n∧Pv i σ H,⟨n,by simp,Qq _,h0⟩,?_⟩
 rintro i m σ H ⟨rfl,hi,p⟩
 by_cases hlt:i<n
 ·refine .inr ⟨hlt,Pv (i+1),fun σ' H' p'=>⟨n-(i+1),by omega,rfl,hlt,p'⟩,fun x H' y=>?_⟩
  obtain⟨e,y⟩:=y
  subst e y
  exact hs i σ _ hlt p
 ·have e:i=n:=by omega
  subst e
  exact .inl ⟨Qf _,hd σ H p⟩
abbrev R2:=V→V→Hp→VK→Prop
def OpR(X:Cx)(f:Value→Value→Sem Value)(r:R2):Prop :=
 ∀ (pins:List (Addr×Obj)) (s:Shared) (σ:St) (H:Hp) (x y:V) (v u:Value) (Q:VK),Inv X pins σ H s→Zx x v→Zx y u→r x y H Q →
  wpAny (model X.prog X.w) X.A (f v u) (EP X pins σ Q) X.xe s
def UnR(X:Cx)(f:Value→Sem Value)(r:V→Hp→VK→Prop):Prop :=
 ∀ (pins:List (Addr×Obj)) (s:Shared) (σ:St) (H:Hp) (x:V) (v:Value) (Q:VK),Inv X pins σ H s→Zx x v→r x H Q →
  wpAny (model X.prog X.w) X.A (f v) (EP X pins σ Q) X.xe s
def Z8(X:Cx)(f:Value)(r:List V→Hp→VK→Prop):Prop :=
 ∀ (pins:List (Addr×Obj)) (s:Shared) (σ:St) (H:Hp) (xs:List V) (us:List Value) (Q:VK),Inv X pins σ H s→Zv xs us→r xs H Q →
  wpAny (model X.prog X.w) X.A (call f us) (EP X pins σ Q) X.xe s
def TruR(X:Cx)(r:V→Hp→(Bool→Hp→Prop)→Prop):Prop :=
 ∀ (pins:List (Addr×Obj)) (s:Shared) (σ:St) (H:Hp) (x:V) (v:Value) (Q:Bool→Hp→Prop),Inv X pins σ H s→Zx x v→r x H Q →
  wpAny (model X.prog X.w) X.A (truthy v) (TP X pins σ Q) X.xe s
def tOp(r:R2)(ta tb:TE):TE:=fun σ H Q=>ta σ H fun x H1=>tb σ H1 fun y H2=>r x y H2 Q
def tUn(r:V→Hp→VK→Prop)(ta:TE):TE:=fun σ H Q=>ta σ H fun x H1=>r x H1 Q
def rI(C:Int→Int→Prop)(g:Int→Int→V):R2:=fun x y H Q=>∃i j,x=.int i∧y=.int j∧C i j∧Q (g i j) H
def rI0(g:Int→Int→V):R2:=fun x y H Q=>∃i j,x=.int i∧y=.int j∧Q (g i j) H
def rU(g:Int→V):V→Hp→VK→Prop:=fun x H Q=>∃i,x=.int i∧Q (g i) H
section
variable {X:Cx} {a b c:Expr} {ta tb tc:TE} {pos:Pos}
theorem Zqm(ha:PE X a ta)(hb:PE X b tb){pins:List (Addr×Obj)}{s:Shared}{σ:St}{H:Hp}{R:V→V→Hp→Prop}(I:Inv X pins σ H s)
  (h:ta σ H fun x H1=>tb σ H1 fun y H2=>R x y H2) {Q:Value→Shared→Prop} {f:Value→Value→Sem Value}
  (hf:∀v u s2 x y H2,Inv X pins σ H2 s2→Zx x v→Zx y u→R x y H2→wpAny (model X.prog X.w) X.A (f v u) Q X.xe s2) :
  wpAny (model X.prog X.w) X.A (eval a X.env) (fun v s₁=>wpAny (model X.prog X.w) X.A (eval b X.env) (fun u s₂=>wpAny (model X.prog X.w) X.A (f v u) Q X.xe s₂) X.xe s₁) X.xe s:=by
 refine thn (ha pins s σ H _ I h) ?_
 rintro v s1 ⟨x,H1,I1,r1,q1⟩
 refine thn (hb pins s1 σ H1 _ I1 q1) ?_
 rintro u s2 ⟨y,H2,I2,r2,q2⟩
 exact hf v u s2 x y H2 I2 r1 r2 q2
theorem ZI{op:Operator}{r:R2}(ho:OpR X (binaryOp op) r)(ha:PE X a ta)(hb:PE X b tb):PE X (.BinOp a op b pos) (tOp r ta tb):=by
 intro pins s σ H Q I h
 exact wpAny_BinOp (Zqm ha hb I h fun v u s2 x y H2 I2 rx ry q=>ho pins s2 σ H2 x y v u Q I2 rx ry q)
theorem ZgD{op:UnaryOp}{r:V→Hp→VK→Prop}(ho:UnR X (unaryOp op) r)(ha:PE X a ta):PE X (.UnaryOp op a pos) (tUn r ta):=by
 intro pins s σ H Q I h
 exact UnaryOp_ (thn (ha pins s σ H _ I h) fun v s1 ⟨x,H1,I1,r1,q1⟩=>ho pins s1 σ H1 x v Q I1 r1 q1)
theorem opI{f:Value→Value→Sem Value}{C:Int→Int→Prop}{g:Int→Int→Int}
  (rule:∀ (i j:Int) (t u:Tok) (s:Shared) (Q:Value→Shared→Prop) (E:Value→Shared→Prop),C i j→Q (.int (g i j) s.toks) { s with toks:=s.toks+1 }→wpAny (model X.prog X.w) X.A (f (.int i t) (.int j u)) Q E s) :
  OpR X f (rI C fun i j=>.int (g i j)):=by
 intro pins s σ H x y v u Q I rx ry h
 obtain⟨i,j,rfl,rfl,hc,q⟩:=h
 obtain⟨t,rfl⟩:=rx
 obtain⟨t',rfl⟩:=ry
 exact rule i j t t' s _ _ hc ⟨.int (g i j),H,I.tok _,⟨_,rfl⟩,q⟩
theorem Zq8{f:Value→Value→Sem Value}{g:Int→Int→Int}
  (rule:∀ (i j:Int) (t u:Tok) (s:Shared) (Q:Value→Shared→Prop) (E:Value→Shared→Prop),Q (.int (g i j) s.toks) { s with toks:=s.toks+1 }→wpAny (model X.prog X.w) X.A (f (.int i t) (.int j u)) Q E s) :
  OpR X f (rI0 fun i j=>.int (g i j)):=by
 intro pins s σ H x y v u Q I rx ry h
 obtain⟨i,j,rfl,rfl,q⟩:=h
 obtain⟨t,rfl⟩:=rx
 obtain⟨t',rfl⟩:=ry
 exact rule i j t t' s _ _ ⟨.int (g i j),H,I.tok _,⟨_,rfl⟩,q⟩
theorem Zpo{f:Value→Value→Sem Value}{g:Int→Int→Bool}
  (rule:∀ (i j:Int) (t u:Tok) (s:Shared) (Q:Value→Shared→Prop) (E:Value→Shared→Prop),Q (.bool (g i j)) s→wpAny (model X.prog X.w) X.A (f (.int i t) (.int j u)) Q E s) :
  OpR X f (rI0 fun i j=>.bl (g i j)):=by
 intro pins s σ H x y v u Q I rx ry h
 obtain⟨i,j,rfl,rfl,q⟩:=h
 obtain⟨t,rfl⟩:=rx
 obtain⟨t',rfl⟩:=ry
 exact rule i j t t' s _ _ ⟨.bl (g i j),H,I,rfl,q⟩
def Zse(i j:Int):Prop:=0<j∧j<1073741824
def CDivN(i j:Int):Prop:=j≠0∧j.natAbs<1073741824
def Zrt(i j:Int):Prop:=0≤j∧j≤1000000∧i.natAbs<2 ^ 64
def ZpG(i j:Int):Prop:=(-(2 ^ 64)<i∧i<2 ^ 64)∨(-(2 ^ 64)<j∧j<2 ^ 64)
theorem ZpG.ok{i j:Int}(h:ZpG i j):IntMulOk i j:=by
 rcases h with⟨h1,h2⟩|⟨h1,h2⟩
 ·exact .of_left (intBits_le_64 h1 h2)
 ·exact .of_right (intBits_le_64 h1 h2)
theorem ZaD:OpR X (binaryOp .Add) (rI0 fun i j=>.int (i+j)):=Zq8 fun _ _ _ _ _ _ _ q=>add_int q
theorem Zev:OpR X (binaryOp .Sub) (rI0 fun i j=>.int (i-j)):=Zq8 fun _ _ _ _ _ _ _ q=>sub_int q
theorem Zeo:OpR X (binaryOp .Mult) (rI ZpG fun i j=>.int (i*j)):=opI fun _ _ _ _ _ _ _ hc q=>mul_int q hc.ok
theorem Zd4:OpR X (binaryOp .FloorDiv) (rI Zse fun i j=>.int (i / j)):=opI fun i j _ _ _ _ _ hc q=>by
 have h1:(0:Int)<j:=hc.1
 have h2:j<1073741824:=hc.2
 exact floordiv_int (by omega) (by rw[Int.fdiv_eq_ediv_of_nonneg i (by omega)];exact q) (.inl (PyProof.noPylong_small (by omega)))
theorem ZfF:OpR X (binaryOp .Mod) (rI (fun _ j=>0<j) fun i j=>.int (i % j)):=opI fun i j _ _ _ _ _ hc q=>by
 have h1:(0:Int)<j:=hc
 exact mod_int' (by omega) (by rw[Int.fmod_eq_emod_of_nonneg i (by omega)];exact q)
theorem ZpI:OpR X (binaryOp .Pow) (rI Zrt fun i j=>.int (i ^ j.toNat)):=opI fun _ _ _ _ _ _ _ hc q=>pow_int_small hc.1 hc.2.1 hc.2.2 q
theorem unI{f:Value→Sem Value}{g:Int→Int}
  (rule:∀ (i:Int) (t:Tok) (s:Shared) (Q:Value→Shared→Prop) (E:Value→Shared→Prop),Q (.int (g i) s.toks) { s with toks:=s.toks+1 }→wpAny (model X.prog X.w) X.A (f (.int i t)) Q E s) :
  UnR X f (rU fun i=>.int (g i)):=by
 intro pins s σ H x v Q I rx h
 obtain⟨i,rfl,q⟩:=h
 obtain⟨t,rfl⟩:=rx
 exact rule i t s _ _ ⟨.int (g i),H,I.tok _,⟨_,rfl⟩,q⟩
theorem ZeG:UnR X (unaryOp .USub) (rU fun i=>.int (-i)):=unI fun _ _ _ _ _ q=>neg_int q
end
def ZrL:V→V→Bool
 | .non,.non=>true|.non,.int _=>true|.int _,.non=>true|.non,.bl _=>true|.bl _,.non=>true|.non,.str _=>true|.str _,.non=>true
 | .int _,.int _=>true|.bl _,.bl _=>true|.str _,.str _=>true|.byt _,.byt _=>true
 | .int _,.str _=>true|.str _,.int _=>true|.bl _,.str _=>true|.str _,.bl _=>true
 | _,_=>false
def rEq:R2:=fun x y H Q=>ZrL x y=true∧Q (.bl (decide (x=y))) H
def rNe:R2:=fun x y H Q=>ZrL x y=true∧Q (.bl (!decide (x=y))) H
theorem Zki{i j:Int}:decide (V.int i=V.int j)=(i == j):=by
 rw[QaI]
 simp
theorem Zna{i j:Bool}:decide (V.bl i=V.bl j)=(i == j):=by
 rw[QaI]
 simp
theorem ZjK{i j:Str}:decide (V.str i=V.str j)=(i == j):=by
 rw[QaI]
 simp
theorem Zj2{i j:Array UInt8}:decide (V.byt i=V.byt j)=(i.toList == j.toList):=by
 rw[QaI]
 cases i
 cases j
 simp
section
variable {X:Cx} {a b c:Expr} {ta tb tc:TE} {pos:Pos}
theorem ZL{pins:List (Addr×Obj)}{σ:St}{H:Hp}{s:Shared}{Q:VK}{k k':Bool}(I:Inv X pins σ H s)(q:Q (.bl k) H)(e:k=k'):EP X pins σ Q (.bool k') s:=by
 subst e
 exact⟨.bl k,H,I,rfl,q⟩
theorem Zbj:OpR X (compareOp .Eq) rEq:=by
 intro pins s σ H x y v u Q I rx ry h
 obtain⟨hs,q⟩:=h
 cases x with
 | non =>
  cases rx
  cases y with
  | non=>cases ry;exact PySem.EqNone.eq_none_none (ZL I q (by simp))
  | bl j=>cases ry;exact PySem.EqNone.eq_none_bool (ZL I q (by simp))
  | int j=>obtain⟨t',rfl⟩:=ry;exact PySem.EqNone.eq_none_int (ZL I q (by simp))
  | str j=>obtain⟨t',rfl⟩:=ry;exact PySem.EqNone.eq_none_str (ZL I q (by simp))
  | _=>exact absurd (show false=true from hs) Qt
 | bl i =>
  cases rx
  cases y with
  | non=>cases ry;exact PySem.EqNone.eq_bool_none (ZL I q (by simp))
  | bl j=>cases ry;exact eq_bool (ZL I q Zna)
  | str j=>obtain⟨t',rfl⟩:=ry;exact PySem.EqMixed.eq_bool_str (ZL I q (by simp))
  | _=>exact absurd (show false=true from hs) Qt
 | int i =>
  obtain⟨t,rfl⟩:=rx
  cases y with
  | non=>cases ry;exact PySem.EqNone.eq_int_none (ZL I q (by simp))
  | int j=>obtain⟨t',rfl⟩:=ry;exact eq_int (ZL I q Zki)
  | str j=>obtain⟨t',rfl⟩:=ry;exact PySem.EqMixed.eq_int_str (ZL I q (by simp))
  | _=>exact absurd (show false=true from hs) Qt
 | str i =>
  obtain⟨t,rfl⟩:=rx
  cases y with
  | non=>cases ry;exact PySem.EqNone.eq_str_none (ZL I q (by simp))
  | bl j=>cases ry;exact PySem.EqMixed.eq_str_bool (ZL I q (by simp))
  | int j=>obtain⟨t',rfl⟩:=ry;exact PySem.EqMixed.eq_str_int (ZL I q (by simp))
  | str j=>obtain⟨t',rfl⟩:=ry;exact eq_str (ZL I q ZjK)
  | _=>exact absurd (show false=true from hs) Qt
 | byt i =>
  obtain⟨t,rfl⟩:=rx
  cases y with
  | byt j=>obtain⟨t',rfl⟩:=ry;exact PySem.W.eq_bytes (ZL I q Zj2)
  | _=>exact absurd (show false=true from hs) Qt
 | _=>cases y<;>exact absurd (show false=true from hs) Qt
theorem Zm6:OpR X (compareOp .NotEq) rNe:=by
 intro pins s σ H x y v u Q I rx ry h
 obtain⟨hs,q⟩:=h
 cases x with
 | non =>
  cases rx
  cases y with
  | non=>cases ry;exact PySem.EqNone.ne_none_none (ZL I q (by simp))
  | bl j=>cases ry;exact PySem.EqNone.ne_none_bool (ZL I q (by simp))
  | int j=>obtain⟨t',rfl⟩:=ry;exact PySem.EqNone.ne_none_int (ZL I q (by simp))
  | str j=>obtain⟨t',rfl⟩:=ry;exact PySem.EqNone.ne_none_str (ZL I q (by simp))
  | _=>exact absurd (show false=true from hs) Qt
 | bl i =>
  cases rx
  cases y with
  | non=>cases ry;exact PySem.EqNone.ne_bool_none (ZL I q (by simp))
  | bl j=>cases ry;exact ne_bool (ZL I q (congrArg not Zna))
  | str j=>obtain⟨t',rfl⟩:=ry;exact PySem.EqMixed.ne_bool_str (ZL I q (by simp))
  | _=>exact absurd (show false=true from hs) Qt
 | int i =>
  obtain⟨t,rfl⟩:=rx
  cases y with
  | non=>cases ry;exact PySem.EqNone.ne_int_none (ZL I q (by simp))
  | int j=>obtain⟨t',rfl⟩:=ry;exact ne_int (ZL I q (congrArg not Zki))
  | str j=>obtain⟨t',rfl⟩:=ry;exact PySem.EqMixed.ne_int_str (ZL I q (by simp))
  | _=>exact absurd (show false=true from hs) Qt
 | str i =>
  obtain⟨t,rfl⟩:=rx
  cases y with
  | non=>cases ry;exact PySem.EqNone.ne_str_none (ZL I q (by simp))
  | bl j=>cases ry;exact PySem.EqMixed.ne_str_bool (ZL I q (by simp))
  | int j=>obtain⟨t',rfl⟩:=ry;exact PySem.EqMixed.ne_str_int (ZL I q (by simp))
  | str j=>obtain⟨t',rfl⟩:=ry;exact ne_str (ZL I q (congrArg not ZjK))
  | _=>exact absurd (show false=true from hs) Qt
 | byt i =>
  obtain⟨t,rfl⟩:=rx
  cases y with
  | byt j=>obtain⟨t',rfl⟩:=ry;exact PySem.W.ne_bytes (ZL I q (congrArg not Zj2))
  | _=>exact absurd (show false=true from hs) Qt
 | _=>cases y<;>exact absurd (show false=true from hs) Qt
theorem ZeT:OpR X (compareOp .Lt) (rI0 fun i j=>.bl (decide (i<j))):=Zpo fun _ _ _ _ _ _ _ q=>lt_int q
theorem ZfW:OpR X (compareOp .Gt) (rI0 fun i j=>.bl (decide (j<i))):=Zpo fun _ _ _ _ _ _ _ q=>gt_int q
theorem ZrW:OpR X (compareOp .GtE) (rI0 fun i j=>.bl (decide (j≤i))):=Zpo fun _ _ _ _ _ _ _ q=>ge_int q
theorem Zgh:OpR X (compareOp .Lt) (fun x y H Q=>∃i j,x=.str i∧y=.str j∧Q (.bl (decide (i.cps.toList<j.cps.toList))) H):=by
 intro pins s σ H x y v u Q I rx ry h
 obtain⟨i,j,rfl,rfl,q⟩:=h
 obtain⟨t,rfl⟩:=rx
 obtain⟨t',rfl⟩:=ry
 exact lt_str (ZL I q rfl)
theorem ZcD:OpR X (compareOp .Is) (fun x y H Q=>y=.non∧Q (.bl (decide (x=.non))) H):=by
 intro pins s σ H x y v u Q I rx ry h
 obtain⟨rfl,q⟩:=h
 cases ry
 refine is_none_gen (ZL I q ?_)
 cases x<;>first
  | (cases rx;rfl)
  | (obtain⟨t,rfl⟩:=rx;rfl)
theorem Zht:OpR X (compareOp .IsNot) (fun x y H Q=>y=.non∧Q (.bl (!decide (x=.non))) H):=by
 intro pins s σ H x y v u Q I rx ry h
 obtain⟨rfl,q⟩:=h
 cases ry
 refine isnot_none_gen (ZL I q ?_)
 cases x<;>first
  | (cases rx;rfl)
  | (obtain⟨t,rfl⟩:=rx;rfl)
def isObj:HO→Bool
 | .lst _=>true
 | .ins _ _ _=>true
 | _=>false
theorem Zt(b:Expr){op:CmpOp}(h:op≠.In:=by decide)(h2:op≠.NotIn:=by decide):behindInMarks op b=false:=by
 have e1:(op == CmpOp.In)=false:=by cases op<;>first|rfl|exact absurd rfl h
 have e2:(op == CmpOp.NotIn)=false:=by cases op<;>first|rfl|exact absurd rfl h2
 cases b<;>simp[behindInMarks,e1,e2]
theorem ZcF{op:CmpOp}{r:R2}(ho:OpR X (compareOp op) r)(ha:PE X a ta)(hb:PE X b tb)(hm:behindInMarks op b=false):PE X (.Compare a [op] [b] pos) (tOp r ta tb):=by
 intro pins s σ H Q I h
 exact wpAny_Compare1 (Zqm ha hb I h fun v u s2 x y H2 I2 rx ry q=>ho pins s2 σ H2 x y v u Q I2 rx ry q) hm
def ZrP(t:TE):TT:=fun σ H Q=>t σ H fun x H'=>∃k,x=.bl k∧Q k H'
theorem Zo{op:CmpOp}{r:R2}(ho:OpR X (compareOp op) r)(ha:PE X a ta)(hb:PE X b tb)(hm:behindInMarks op b=false):PT X (.Compare a [op] [b] pos) (ZrP (tOp r ta tb)):=by
 intro pins s σ H Q I h
 refine wpAny_isTrue_Compare1 (thn (ha pins s σ H _ I h) fun v s1 ⟨x,H1,I1,r1,q1⟩=>thn (hb pins s1 σ H1 _ I1 q1) fun u s2 ⟨y,H2,I2,r2,q2⟩=>
  thn (ho pins s2 σ H2 x y v u _ I2 r1 r2 q2) fun c s3 ⟨z,H3,I3,r3,k,e,q3⟩=>?_) hm
 subst e
 cases r3
 exact wpAny_truthy_bool ⟨H3,I3,q3⟩
def tChain(r r':R2)(ta tb tc:TE):TE:=fun σ H Q=>ta σ H fun x H1=>tb σ H1 fun y H2=>r x y H2 fun z H3=>∃k,z=.bl k ∧
 (if k=true then tc σ H3 fun w' H4=>r' y w' H4 Q else Q (.bl false) H3)
def Zsy(K:PySem.W.Frag)(x:V)(H:Hp)(k:Bool):Prop :=
 match x with
 | .non=>k=false
 | .bl b=>k=b
 | .int i=>k=(i != 0)
 | .str y=>y.length≤sizeLine∧k=((y.length:Int) != 0)
 | .byt y=>y.size≤sizeLine∧k=((y.size:Int) != 0)
 | .ref p=>(∃xs,SqL K H p xs∧k = !xs.isEmpty)∨(∃xs,SqT K H p xs∧k = !xs.isEmpty)∨∃kvs,H p=some (.dK kvs)∧k = !kvs.isEmpty
 | _=>False
theorem Zey:(sizeLine:Nat)<2 ^ 63:=by rw[sizeLine_eq];decide
theorem Zjq:OpR X (binaryOp .Add) (fun x y H Q=>∃i j,x=.str i∧y=.str j∧i.length+j.length≤sizeLine∧Q (.str (i++j)) H):=by
 intro pins s σ H x y v u Q I rx ry h
 obtain⟨i,j,rfl,rfl,hz,q⟩:=h
 obtain⟨t,rfl⟩:=rx
 obtain⟨t',rfl⟩:=ry
 exact add_str (fun t' tk=>⟨.str (i++j),H,I.tok _,⟨_,rfl⟩,q⟩) hz
def PlainIxT(b:Expr):Prop:=∀o i,subscripted b false o i=operate [o,i] (getItem o i)
theorem ZbB{x:V}{us:List Value}(r:Zv [x] us):∃u,us=[u]∧Zx x u:=by
 cases r with
 | cons r1 r2=>cases r2;exact⟨_,rfl,r1⟩
theorem ZjP{x y:V}{us:List Value}(r:Zv [x,y] us):∃u w',us=[u,w']∧Zx x u∧Zx y w':=by
 cases r with
 | cons r1 r2 =>
  cases r2 with
  | cons r3 r4=>cases r4;exact⟨_,_,rfl,r1,r3⟩
theorem Ziv:Z8 X (.builtin "abs") (fun xs H Q=>∃i,xs=[.int i]∧Q (.int (if i<0 then -i else i)) H):=by
 intro pins s σ H xs us Q I r h
 obtain⟨i,rfl,q⟩:=h
 obtain⟨u,rfl,t,rfl⟩:=ZbB r
 exact call_abs_int fun u tk=>⟨.int (if i<0 then -i else i),H,I.tok _,⟨_,rfl⟩,q⟩
theorem Zgz(hc:X.calm=true):Z8 X (.builtin "max") (fun xs H Q=>∃i j,xs=[.int i,.int j]∧Q (.int (if j>i then j else i)) H):=by
 intro pins s σ H xs us Q I r h
 obtain⟨i,j,rfl,q⟩:=h
 obtain⟨u,w',rfl,⟨t,rfl⟩,⟨t',rfl⟩⟩:=ZjP r
 refine max_two_ints (I.ok.hd hc) fun h' tk k=>⟨_,H,I.kept k,?_,q⟩
 by_cases hj:j>i
 ·rw[if_pos hj,if_pos hj];exact⟨_,rfl⟩
 ·rw[if_neg hj,if_neg hj];exact⟨_,rfl⟩
theorem Zdx(hc:X.calm=true):Z8 X (.builtin "min") (fun xs H Q=>∃i j,xs=[.int i,.int j]∧Q (.int (if j<i then j else i)) H):=by
 intro pins s σ H xs us Q I r h
 obtain⟨i,j,rfl,q⟩:=h
 obtain⟨u,w',rfl,⟨t,rfl⟩,⟨t',rfl⟩⟩:=ZjP r
 refine min_two_ints (I.ok.hd hc) fun h' tk k=>⟨_,H,I.kept k,?_,q⟩
 by_cases hj:j<i
 ·rw[if_pos hj,if_pos hj];exact⟨_,rfl⟩
 ·rw[if_neg hj,if_neg hj];exact⟨_,rfl⟩
theorem ZgK:Z8 X (.type "int") (fun xs H Q=>(∃i,xs=[.int i]∧Q (.int i) H)∨∃k,xs=[.bl k]∧Q (.int (if k then 1 else 0)) H):=by
 intro pins s σ H xs us Q I r h
 rcases h with⟨i,rfl,q⟩|⟨k,rfl,q⟩
 ·obtain⟨u,rfl,t,rfl⟩:=ZbB r
  exact call_int_int ⟨.int i,H,I,⟨_,rfl⟩,q⟩
 ·obtain⟨u,rfl,r1⟩:=ZbB r
  cases r1
  exact call_int_bool ⟨.int (if k then 1 else 0),H,I.tok _,⟨_,rfl⟩,q⟩
def LenV(K:PySem.W.Frag)(x:V)(H:Hp)(n:Nat):Prop :=
 match x with
 | .str y=>y.length≤sizeLine∧n=y.length
 | .byt y=>y.size≤sizeLine∧n=y.size
 | .ref p=>(∃xs,SqL K H p xs∧n=xs.length)∨∃xs,SqT K H p xs∧n=xs.length
 | _=>False
end
structure ZiZ (h:Heap) (x dx C:Addr) (mA:Str→Option Value):Prop where
 obj:h.get? x=some (PySem.W.instObj C dx)
 ns:h.Ns1 dx mA
 ne:dx≠x
theorem ZkB{h:Heap}{dx:Addr}{mA:Str→Option Value}(n:h.Ns1 dx mA):∃od,h.get? dx=some od∧∀name,PySem.W.lookIn name od=some (mA name):=by
 obtain⟨o,es,ep,ho,hd,hk,_,hm⟩:=n
 refine⟨o,ho,fun name=>?_⟩
 have e:=hm name
 unfold nsFind findBy at e
 rw[← Array.find?_toList]at e
 unfold PySem.W.lookIn
 rw[hd]
 dsimp only
 split
 ·rename_i y q
  rw[q]at e
  exact congrArg some e
 ·rename_i q
  rw[q]at e
  have a:es.toList.any (·.refKey)=false:=by
   rw[List.any_eq_false]
   intro y hy
   obtain⟨z,t,hkey⟩:=hk y (Array.mem_toList_iff.mp hy)
   simp[DictEntry.refKey,hkey]
  have a':¬ es.toList.any (·.refKey)=true:=by rw[a];exact Qt
  rw[if_neg a']
  exact congrArg some e
theorem ZiZ.look{h:Heap}{x dx C:Addr}{mA:Str→Option Value}(I:ZiZ h x dx C mA):∃od,PySem.W.InstAt h x (PySem.W.instObj C dx) C (some od)∧∀name,PySem.W.lookIn name od=some (mA name) :=
 let ⟨od,ho,hl⟩:=ZkB I.ns
 ⟨od,⟨I.obj,rfl,rfl,ho⟩,hl⟩
section
variable {prog:Program} {w:World} {A:Around} {E:Value→Shared→Prop} {s:Shared} {K:PySem.W.Frag} {x dx C f:Addr} {mA:Str→Option Value} {name:Str} {v:Value}
theorem ZoL{expr:Bool}{Q:Value→Shared→Prop}(X:K.In s.heap)(I:ZiZ s.heap x dx C mA)(hg:PySem.W.plainGet K C name=true)(hh:PySem.W.hasDictIn K C=true)
  (ha:PySem.W.findIn K (.ref C) name=some none) (hv:mA name=some v) (hv':PySem.W.handedIn v=true) (h:Q v { s with toks:=s.toks+1 }) :
  wpAny (model prog w) A (getAttr (.ref x) name expr) Q E s:=by
 obtain⟨od,J,hl⟩:=I.look
 exact PySem.W.get_value X J (PySem.W.plainGet_of hg).1 (PySem.W.findObj_own hh ha rfl (by rw[hl,hv])) hv' h
theorem Zl1{pl:Sem Bool}{Q:Value×List Value→Shared→Prop}(X:K.In s.heap)(I:ZiZ s.heap x dx C mA)(hg:PySem.W.plainGet K C name=true)
  (hf:PySem.W.findIn K (.ref C) name=some (some (.ref f))) (ht:PySem.W.isFn K (.ref f)=true) (hv:mA name=none) (h:Q (.ref f,[.ref x]) s) :
  wpAny (model prog w) A (getMethod (.ref x) name pl) Q E s:=by
 obtain⟨od,J,hl⟩:=I.look
 exact PySem.W.method_fn X J (PySem.W.plainGet_of hg).1 (PySem.W.plainGet_of hg).2 hf (beq_iff_eq.mp ht) (by show (PySem.W.lookIn name od).map (·.isSome)=some false;rw[hl,hv];rfl) h
theorem ZoA{ns:List Str}{Q:Unit→Shared→Prop}(X:K.In s.heap)(I:ZiZ s.heap x dx C mA)
  (hs:PySem.W.findIn K (.ref C) "__setattr__" = some (some (.builtin "object.__setattr__"))) (hp:PySem.W.plainOver K C=true) (ht:PySem.W.takerIn K C name=some none) (hh:PySem.W.hasDictIn K C=true)
  (hw:PySem.Within mA ns) (hsz:ns.length≤sizeLine)
  (h:∀h',ZiZ h' x dx C (fun y=>if y=name then some v else mA y)→Heap.SameBut dx s.heap h'→Q () { s with heap:=h',toks:=s.toks+2 }) :
  wpAny (model prog w) A (setAttr (.ref x) name v) Q E s:=by
 obtain⟨od,J,hl⟩:=I.look
 refine PySem.W.set_plain X J hs (PySem.W.osa_open (s:={ s with toks:=s.toks+1 }) (r:=none) X J hp ht fun b=>?_)
 obtain⟨cd,hc,hd'⟩:=PySem.W.any_some hh
 have hx:s.heap.get? x=some ⟨.ref C,some dx,.plain,#[]⟩:=I.obj
 refine wpAny_bind (wpAny_pure (wpAny_bind (wpAny_bind (wpAny_loadPart hx (wpAny_bind (PySem.W.Looks.here (s:={ s with toks:=s.toks+1 }) (PySem.W.looks_clsIn X hc) ?_))))))
 rw[hd']
 refine wpAny_pure (a:=some dx) (wpAny_bind (wpAny_pure (wpAny_bind ?_)))
 refine wpAny_nsSet1 (s:={ s with toks:=s.toks+1 }) I.ns fun h' hn2 hs2=>?_
 obtain⟨oD,esD,epD,hoD,hdD,hcD⟩:=hn2.count (PySem.Within.cons name v hw)
 refine wpAny_bind (wpAny_lookBehind hoD (by rw[hdD];exact pastItsLine_dict (QM hcD (by rw[QE];omega))) ?_)
 exact wpAny_pure (h _ ⟨(hs2.2 _ (Ne.symm I.ne)).trans I.obj,hn2,I.ne⟩ hs2)
theorem Znl{R:Result→Shared→Prop}{vs:List Value}{kw:List (Str×Value)}(X:K.In s.heap)(hm:PySem.W.makesIn K C=true)
  (hi:PySem.W.findIn K (.ref C) "__init__" = some (some (.ref f))) (hf:PySem.W.typeIn K (.ref f)=some (.type "function"))
  (h:codeAny (model prog w) (A.under (.builtin "type.__call__" ⟨.ref C::vs,kw⟩)) (.call (.ref f) ⟨.ref (s.heap.objs.size+1)::vs,kw⟩) (PySem.W.InitBack (s.heap.objs.size+1) R)
   { s with heap:=(s.heap.push PySem.W.emptyDict).push (PySem.W.instObj C s.heap.objs.size) }) :
  codeAny (model prog w) A (.call (.ref C) ⟨vs,kw⟩) R s:=by
 obtain⟨hh,g,d,t,os⟩:=s
 exact PySem.W.make_core (PySem.W.makes_of X hm) (PySem.W.looks_findIn X hi) (fun self=>PySem.W.bind_fn X self hf) (.inl rfl) h
end
def Zn(f:Str)(v:V):List (Str×V)→List (Str×V)
 | []=>[(f,v)]
 | (g,x)::r=>if g=f then (g,v)::r else (g,x)::Zn f v r
theorem Zl(f g:Str)(v:V):∀fs:List (Str×V),(Zn f v fs).lookup g=if g=f then some v else fs.lookup g
 | []=>by
  show List.lookup g [(f,v)]=_
  by_cases h:g=f
  ·have hb:(g == f)=true:=beq_iff_eq.mpr h
   simp only[List.lookup,hb,if_pos h]
  ·have hb:(g == f)=false:=beq_eq_false_iff_ne.mpr h
   simp only[List.lookup,hb,if_neg h]
 | (k,x)::r=>by
  have ih:=Zl f g v r
  rw[show Zn f v ((k,x)::r)=(if k=f then (k,v)::r else (k,x)::Zn f v r) from rfl]
  by_cases hk:k=f
  ·rw[if_pos hk]
   by_cases h:g=k
   ·have hb:(g == k)=true:=beq_iff_eq.mpr h
    simp only[List.lookup,hb,if_pos (h.trans hk)]
   ·have hb:(g == k)=false:=beq_eq_false_iff_ne.mpr h
    simp only[List.lookup,hb,if_neg (fun e:g=f=>h (e.trans hk.symm))]
  ·rw[if_neg hk]
   by_cases h:g=k
   ·have hb:(g == k)=true:=beq_iff_eq.mpr h
    simp only[List.lookup,hb,if_neg (fun e:g=f=>hk (h.symm.trans e))]
   ·have hb:(g == k)=false:=beq_eq_false_iff_ne.mpr h
    simp only[List.lookup,hb]
    exact ih
theorem Zet(f:Str)(v:V):∀fs:List (Str×V),f∈(Zn f v fs).map (·.1)∧∀g,g∈fs.map (·.1)→g∈(Zn f v fs).map (·.1)
 | []=>⟨by simp[Zn],fun g h=>by simp at h⟩
 | (k,x)::r=>by
  obtain⟨i1,i2⟩:=Zet f v r
  rw[show Zn f v ((k,x)::r)=(if k=f then (k,v)::r else (k,x)::Zn f v r) from rfl]
  by_cases hk:k=f
  ·rw[if_pos hk]
   subst hk
   exact⟨by simp,fun g h=>by simpa using h⟩
  ·rw[if_neg hk]
   refine⟨?_,fun g h=>?_⟩
   ·rw[Qh]
    exact Qs _ i1
   ·rw[Qh]at h ⊢
    rcases QO.mp h with e|e
    ·exact List.mem_cons.mpr (.inl e)
    ·exact Qs _ (i2 g e)
theorem ZeR(f:Str)(v:V):∀fs:List (Str×V),(Zn f v fs).length≤fs.length+1
 | []=>by simp[Zn]
 | (k,x)::r=>by
  have ih:=ZeR f v r
  rw[show Zn f v ((k,x)::r)=(if k=f then (k,v)::r else (k,x)::Zn f v r) from rfl]
  by_cases hk:k=f
  ·rw[if_pos hk,QE,QE];omega
  ·rw[if_neg hk,QE,QE];omega
theorem ZcU.some_of{v:V}{o:Option Value}(r:ZcU (some v) o):∃u,o=some u∧Zx v u:=by
 cases o with
 | none=>exact(show False from r).elim
 | some u=>exact⟨u,rfl,r⟩
theorem ZcU.none_of{o:Option Value}(r:ZcU none o):o=none:=by
 cases o with
 | none=>rfl
 | some u=>exact(show False from r).elim
theorem Zkr{v:V}{u:Value}(r:Zx v u):PySem.W.handedIn u=true:=by
 cases v with
 | non=>cases (show u=Value.none from r);rfl
 | bl b=>cases (show u=Value.bool b from r);rfl
 | int i=>obtain⟨t,e⟩:=(show ∃t,u=Value.int i t from r);cases e;rfl
 | str x=>obtain⟨t,e⟩:=(show ∃t,u=Value.str x t from r);cases e;rfl
 | byt b=>obtain⟨t,e⟩:=(show ∃t,u=Value.bytes b t from r);cases e;rfl
 | flt b=>obtain⟨t,e⟩:=(show ∃t,u=Value.float b t from r);cases e;rfl
 | ref a=>cases (show u=Value.ref a from r);rfl
 | ty n=>cases (show u=Value.type n from r);rfl
section
variable {P:Program} {w:World} {H H':Hp} {h h':Heap} {a C dx:Addr} {fs fs':List (Str×V)}
theorem Zeg(hok:HOk P w H h)(e:H a=some (.ins C dx fs)):∃mA,ZiZ h a dx C mA∧(∀f,ZcU (fs.lookup f) (mA f))∧PySem.Within mA (fs.map (·.1))∧fs.length≤1000∧H dx=some (.own a):=by
 obtain⟨d,z,ne,ob,mA,n,r,q⟩:=(show Zac P w H h a (.ins C dx fs) from hok a _ e)
 exact⟨mA,⟨ob,n,ne⟩,r,q,z,d⟩
end
structure Cls (K:PySem.W.Frag) (C:Addr):Prop where
 pg:PySem.W.plainGet K C Str.empty=true
 hd:PySem.W.hasDictIn K C=true
 po:PySem.W.plainOver K C=true
 sa:PySem.W.findIn K (.ref C) "__setattr__" = some (some (.builtin "object.__setattr__"))
theorem Cls.get{K:PySem.W.Frag}{C:Addr}(c:Cls K C)(f:Str):PySem.W.plainGet K C f=true:=c.pg
def Za0(K:PySem.W.Frag)(C:Addr)(f:Str):Prop:=PySem.W.findIn K (.ref C) f=some none
theorem Za0.taker{K:PySem.W.Frag}{C:Addr}{f:Str}(n:Za0 K C f):PySem.W.takerIn K C f=some none:=by
 unfold PySem.W.takerIn
 rw[show PySem.W.findIn K (.ref C) f=some none from n]
 rfl
structure Con (K:PySem.W.Frag) (C:Addr) (f:Str) (v:V) (u:Value):Prop where
 at_:PySem.W.findIn K (.ref C) f=some (some u)
 rel:Zx v u
 get:PySem.W.specialIn K u "__get__" = some none
 cp:PySem.W.copiedNames.contains f=false
structure ZmQ (K:PySem.W.Frag) (C:Addr) (m:Str) (f:Addr):Prop where
 at_:PySem.W.findIn K (.ref C) m=some (some (.ref f))
 fn:PySem.W.isFn K (.ref f)=true
 kp:PySem.W.keepIn K (.ref f)=true
section
variable {X:Cx} {pins:List (Addr×Obj)} {σ:St} {H:Hp} {s:Shared} {a C dx:Addr} {fs:List (Str×V)} {f:Str} {v:V} {A:Around} {E:Value→Shared→Prop}
theorem ZfP{b:Bool}{Q:Value→Shared→Prop}(I:Inv X pins σ H s)(e:H a=some (.ins C dx fs))(c:Cls X.K C)(n:Za0 X.K C f)(l:fs.lookup f=some v)
  (h:∀u s',Inv X pins σ H s'→Zx v u→Q u s'):wpAny (model X.prog X.w) A (getAttr (.ref a) f b) Q E s:=by
 obtain⟨mA,O,r,_,_,_⟩:=Zeg I.hok e
 obtain⟨u,hu,ru⟩:=ZcU.some_of (v:=v) (o:=mA f) (by rw[← l];exact r f)
 exact ZoL I.kIn O (c.get f) c.hd n hu (Zkr ru) (h u _ (I.tok _) ru)
theorem Zft{m:Str}{g:Addr}{pl:Sem Bool}{Q:Value×List Value→Shared→Prop}(I:Inv X pins σ H s)(e:H a=some (.ins C dx fs))(c:Cls X.K C)(k:ZmQ X.K C m g)(l:fs.lookup m=none)
  (h:Q (.ref g,[.ref a]) s):wpAny (model X.prog X.w) A (getMethod (.ref a) m pl) Q E s:=by
 obtain⟨mA,O,r,_,_,_⟩:=Zeg I.hok e
 have hn:mA m=none:=ZcU.none_of (by rw[← l];exact r m)
 exact Zl1 I.kIn O (c.get m) k.at_ k.fn hn h
theorem ZfO{y:V}{u:Value}{Q:Unit→Shared→Prop}(I:Inv X pins σ H s)(e:H a=some (.ins C dx fs))(c:Cls X.K C)(n:Za0 X.K C f)(hl:fs.length<1000)(ry:Zx y u)
  (h:∀s',Inv X pins σ (upd H a (.ins C dx (Zn f y fs))) s'→Q () s'):wpAny (model X.prog X.w) A (setAttr (.ref a) f u) Q E s:=by
 obtain⟨mA,O,r,wi,_,ho⟩:=Zeg I.hok e
 have hz:(fs.map (·.1)).length≤sizeLine:=by rw[Qb,sizeLine_eq];omega
 refine ZoA I.kIn O c.sa c.po n.taker c.hd wi hz fun h' O' sb=>h _ ?_
 have hd:∃o,h'.get? dx=some o:=let ⟨o,_,_,e',_⟩:=O'.ns;⟨o,e'⟩
 refine I.write (x:=a) (e:=dx) (by rw[e];exact True.intro) (.inr ho) (fun b q hb z=>(sb.2 b hb).trans z) hd ?_
 refine⟨by rw[Zd O.ne];exact ho,?_,O.ne,O'.obj,_,O'.ns,fun g=>?_,fun g hg=>?_⟩
 ·have:=ZeR f y fs;omega
 ·show ZcU ((Zn f y fs).lookup g) (if g=f then some u else mA g)
  rw[Zl]
  by_cases q:g=f
  ·rw[if_pos q,if_pos q];exact ry
  ·rw[if_neg q,if_neg q];exact r g
 ·by_cases q:g=f
  ·rw[q];exact(Zet f y fs).1
  ·refine(Zet f y fs).2 g (wi g fun z=>hg ?_)
   show (if g=f then some u else mA g)=none
   rw[if_neg q];exact z
theorem Inv.made(I:Inv X pins σ H s):Inv X pins σ (upd (upd H s.heap.objs.size (.own (s.heap.objs.size+1))) (s.heap.objs.size+1) (.ins C s.heap.objs.size []))
  { s with heap:=(s.heap.push PySem.W.emptyDict).push (PySem.W.instObj C s.heap.objs.size) }:=by
 have e1:(s.heap.push PySem.W.emptyDict).get? s.heap.objs.size=some PySem.W.emptyDict:=Qu s.heap rfl
 have e2:((s.heap.push PySem.W.emptyDict).push (PySem.W.instObj C s.heap.objs.size)).get? (s.heap.objs.size+1)=some (PySem.W.instObj C s.heap.objs.size):=by
  have:=Qu (s.heap.push PySem.W.emptyDict) (o:=PySem.W.instObj C s.heap.objs.size) rfl
  rwa [Qac]at this
 have e3:(s.heap.push PySem.W.emptyDict).Ns s.heap.objs.size (fun _=>none):=⟨PySem.W.emptyDict,#[],_,e1,rfl,(fun e he=>absurd he (by simp)),fun _=>rfl⟩
 have I1:=I.laid (a:=s.heap.objs.size) (o:=.own (s.heap.objs.size+1)) (h':=s.heap.push PySem.W.emptyDict) (t':=s.toks) (fun b u q=>Qc _ q) (Qf _) ⟨_,e1⟩
 refine I1.laid (a:=s.heap.objs.size+1) (o:=.ins C s.heap.objs.size []) (t':=s.toks) (fun b u q=>Qc _ q) (Nat.le_of_eq (Qac _ _)) ?_
 have ne:s.heap.objs.size≠s.heap.objs.size+1:=QH (Nat.lt_succ_self _)
 refine⟨by rw[Zd ne,Zc],Qq _,ne,e2,fun _=>none,(Heap.Ns1.of_empty e3).at fun o q=>Qc _ q,fun _=>True.intro,fun y hy=>absurd rfl hy⟩
theorem ZnR{prog:Program}{w:World}{env:Env}{e:Expr}{f:Str}{pos:Pos}{s:Shared}{Q:Value→Shared→Prop}(hb:attributeBase e f env (eval e env)=eval e env)
  (h:wpAny (model prog w) A (eval e env) (fun o s₁=>wpAny (model prog w) A (getAttr o f true) Q E s₁) E s):wpAny (model prog w) A (eval (.Attribute e f pos) env) Q E s :=
 Attribute_any_ h (by rw[arm_eval_Attribute,hb])
end
def ZsC(K:PySem.W.Frag)(ta:TE)(f:Str):TE:=fun σ H Q=>ta σ H fun x H1=>∃a C dx fs v,x=.ref a∧H1 a=some (.ins C dx fs)∧Cls K C∧Za0 K C f∧fs.lookup f=some v∧Q v H1
def tCon(K:PySem.W.Frag)(ta:TE)(f:Str):TE:=fun σ H Q=>ta σ H fun x H1=>∃a C dx fs v u,x=.ref a∧H1 a=some (.ins C dx fs)∧Cls K C∧Con K C f v u∧fs.lookup f=none∧Q v H1
def Zsf(K:PySem.W.Frag)(ta tv:TE)(f:Str):TS:=fun D σ H=>tv σ H fun y H1=>ta σ H1 fun x H2=>∃a C dx fs,x=.ref a∧H2 a=some (.ins C dx fs)∧Cls K C∧Za0 K C f∧fs.length<1000 ∧
 D.nx σ (upd H2 a (.ins C dx (Zn f y fs)))
def Zrr(X:Cx)(op:Operator)(rd:V→V→Hp→VK→Prop):Prop :=
 ∀ (pins:List (Addr×Obj)) (s:Shared) (σ:St) (H:Hp) (x y:V) (u v:Value) (Q:VK),Inv X pins σ H s→Zx x u→Zx y v→rd x y H Q→wpAny (model X.prog X.w) X.A (inplaceOp op u v) (EP X pins σ Q) X.xe s
def ZoK(K:PySem.W.Frag)(ta tv:TE)(rd:V→V→Hp→VK→Prop)(f:Str):TS:=fun D σ H=>ta σ H fun x H1=>∃a C dx fs v,x=.ref a∧H1 a=some (.ins C dx fs)∧Cls K C∧Za0 K C f∧fs.lookup f=some v ∧
 tv σ H1 fun y H2=>rd v y H2 fun z H3=>∃dx' fs',H3 a=some (.ins C dx' fs')∧fs'.length<1000∧D.nx σ (upd H3 a (.ins C dx' (Zn f z fs')))
section
variable {X:Cx} {o e value:Expr} {f:Str} {pos pos' tpos:Pos} {ta tv:TE}
theorem Zaa(he:PE X e ta)(hb:attributeBase e f X.env (eval e X.env)=eval e X.env):PE X (.Attribute e f pos) (ZsC X.K ta f):=by
 intro pins s σ H Q I h
 refine ZnR hb (thn (he pins s σ H _ I h) ?_)
 rintro u s1 ⟨x,H1,I1,rx,a,C,dx,fs,v,ex,ea,c,n,l,q⟩
 subst ex
 obtain rfl:u=Value.ref a:=rx
 exact ZfP I1 ea c n l fun u' s2 I2 ru=>⟨v,H1,I2,ru,q⟩
theorem ZbG(ha:PE X o ta)(hv:PE X value tv)(hs:swapsWith value (some (.Attribute o f pos')) pos.line X.env=pure false):PS X (.Assign [.Attribute o f pos'] value pos) (Zsf X.K ta tv f):=by
 intro pins s σ H D I h
 refine plainObj_wpAny_Assign_Attribute (thn (hv pins s σ H _ I h) fun u s1 ⟨y,H1,I1,ry,q⟩=>thn (ha pins s1 σ H1 _ I1 q) ?_) hs
 rintro ov s2 ⟨x,H2,I2,rx,a,C,dx,fs,ex,ea,c,n,l,q2⟩
 subst ex
 obtain rfl:ov=Value.ref a:=rx
 exact ZfO I2 ea c n l ry fun s3 I3=>⟨σ,_,I3,q2⟩
theorem Zdp{op:Operator}{rd:V→V→Hp→VK→Prop}(ha:PE X o ta)(hv:PE X value tv)(hop:Zrr X op rd):PS X (.AugAssign (.Attribute o f tpos) op value pos) (ZoK X.K ta tv rd f):=by
 intro pins s σ H D I h
 refine wpAny_AugAssign_AttributeAny (thn (ha pins s σ H _ I h) ?_)
 rintro ov s1 ⟨x,H1,I1,rx,a,C,dx,fs,v,ex,ea,c,n,l,q⟩
 subst ex
 obtain rfl:ov=Value.ref a:=rx
 refine ZfP I1 ea c n l fun u s2 I2 ru=>thn (hv pins s2 σ H1 _ I2 q) fun w3 s3 ⟨y,H2,I3,ry,q3⟩=>thn (hop pins s3 σ H2 v y u w3 _ I3 ru ry q3) ?_
 rintro w4 s4 ⟨z,H3,I4,rz,dx',fs',ea',l',q4⟩
 exact ZfO I4 ea' c n l' rz fun s5 I5=>⟨σ,_,I5,q4⟩
def Zr6:V→V→Hp→VK→Prop:=fun x y H Q=>∃i j,x=.int i∧y=.int j∧Q (.int (i+j)) H
def rSub:V→V→Hp→VK→Prop:=fun x y H Q=>∃i j,x=.int i∧y=.int j∧Q (.int (i-j)) H
theorem Zhl:Zrr X .Add Zr6:=by
 rintro pins s σ H x y u v Q I rx ry ⟨i,j,rfl,rfl,q⟩
 obtain⟨t,rfl⟩:=(show ∃t,u=Value.int i t from rx)
 obtain⟨t',rfl⟩:=(show ∃t',v=Value.int j t' from ry)
 exact PyProof.Rows.iadd_int ⟨.int (i+j),H,I.tok _,⟨_,rfl⟩,q⟩
end
section
variable {X:Cx} {pins:List (Addr×Obj)} {σ:St} {H:Hp} {s:Shared} {A:Around} {E:Value→Shared→Prop} {Q:Value→Shared→Prop} {c:Value} {b:Bool}
inductive Zee (K:PySem.W.Frag) (H:Hp):V→Value→Prop where
 | non:Zee K H .non (.type "NoneType")
 | bl (x:Bool):Zee K H (.bl x) (.type "bool")
 | int (i:Int):Zee K H (.int i) (.type "int")
 | str (x:Str):Zee K H (.str x) (.type "str")
 | flt (x:UInt64):Zee K H (.flt x) (.type "float")
 | lst {a:Addr} {xs:List V} (e:H a=some (.lst xs)):Zee K H (.ref a) (.type "list")
 | frz {a:Addr} {o:Obj} {xs:List V} (e:H a=some (.frz o (.lst xs))):Zee K H (.ref a) (.type "list")
 | tup {a:Addr} {xs:List V} (e:H a=some (.tup xs)):Zee K H (.ref a) (.type "tuple")
 | dK {a:Addr} {kvs:List (Key×V)} (e:H a=some (.dK kvs)):Zee K H (.ref a) (.type "dict")
 | dT {a:Addr} {kvs:List (List Key×V)} (e:H a=some (.dT kvs)):Zee K H (.ref a) (.type "dict")
 | ins {a C dx:Addr} {fs:List (Str×V)} (e:H a=some (.ins C dx fs)) (cl:Cls K C) (ha:PySem.W.findIn K (.ref C) "__class__" = some (some (.builtin "object.__class__")))
   (hn:PySem.W.specialIn K (.builtin "object.__class__") "__get__" = some (some (.builtin "getset_descriptor.__get__"))) (htk:PySem.W.takesIn K (.builtin "object.__class__")=some true)
   (hm:PySem.W.mroIn K C (.type "object")=some true):Zee K H (.ref a) (.ref C)
theorem ZkZ{x:V}{u t:Value}(I:Inv X pins σ H s)(rx:Zx x u)(ty:Zee X.K H x t)(e:PySem.W.kitOne X.K t c=some b)(h:∀tk,Q (.bool b) { s with toks:=tk }) :
  wpAny (model X.prog X.w) A (call (.builtin "isinstance") [u,c]) Q E s:=by
 cases ty with
 | non=>cases (show u=Value.none from rx);exact QZ PySem.W.kitx_none I.kIn True.intro e (fun z=>nomatch z) h
 | bl y=>cases (show u=Value.bool y from rx);exact QZ PySem.W.kitx_bool I.kIn True.intro e (fun z=>nomatch z) h
 | int i=>obtain⟨t,q⟩:=(show ∃t,u=Value.int i t from rx);cases q;exact QZ PySem.W.kitx_int I.kIn True.intro e (fun z=>nomatch z) h
 | str y=>obtain⟨t,q⟩:=(show ∃t,u=Value.str y t from rx);cases q;exact QZ PySem.W.kitx_str I.kIn True.intro e (fun z=>nomatch z) h
 | flt y=>obtain⟨t,q⟩:=(show ∃t,u=Value.float y t from rx);cases q;exact QZ PySem.W.kitx_float I.kIn True.intro e (fun z=>nomatch z) h
 | @lst a xs ea =>
  cases (show u=Value.ref a from rx)
  obtain⟨_,_,n,_,h1⟩:=(show Zac X.prog X.w H s.heap a (.lst xs) from I.hok a _ ea)
  exact QZ QaN I.kIn ⟨_,h1,rfl⟩ e (fun z=>nomatch z) h
 | @frz a ob xs ea =>
  cases (show u=Value.ref a from rx)
  obtain⟨_,_,_,n,_,h1⟩:=(show Zac X.prog X.w H s.heap a (.frz ob (.lst xs)) from I.hok a _ ea)
  exact QZ QaN I.kIn ⟨_,h1,rfl⟩ e (fun z=>nomatch z) h
 | @tup a xs ea =>
  cases (show u=Value.ref a from rx)
  obtain⟨_,_,_,p⟩:=(show Zac X.prog X.w H s.heap a (.tup xs) from I.hok a _ ea)
  obtain⟨o,h1,h2,_⟩:=p
  exact QZ PySem.W.kitx_tuple I.kIn ⟨o,h1,h2⟩ e (fun z=>nomatch z) h
 | @dK a kvs ea =>
  cases (show u=Value.ref a from rx)
  obtain⟨_,_,vs,_,p⟩:=(show Zac X.prog X.w H s.heap a (.dK kvs) from I.hok a _ ea)
  obtain⟨o,es,ep,h1,h2,_⟩:=p
  exact QZ QaO I.kIn ⟨o,h1,h2.1⟩ e (fun z=>nomatch z) h
 | @dT a kvs ea =>
  cases (show u=Value.ref a from rx)
  obtain⟨_,_,xs,_,o,es,ep,h1,h2,_⟩:=(show Zac X.prog X.w H s.heap a (.dT kvs) from I.hok a _ ea)
  exact QZ QaO I.kIn ⟨o,h1,h2.1⟩ e (fun z=>nomatch z) h
 | @ins a C dx fs ea cl ha hn htk hm =>
  cases (show u=Value.ref a from rx)
  obtain⟨mA,O,_⟩:=Zeg I.hok ea
  obtain⟨od,J,_⟩:=O.look
  exact QZ (PySem.W.kitx_own (cl.get _) cl.hd ha hn htk hm) I.kIn J e (fun z=>nomatch z) h
end
structure ZaJ (k:Nat) (A:Around):Prop where
 hd:A.handled=none
 dp:A.depth+3*k+5<recursionLimit
 un:A.units+16*k+200<cLine
 gd:A.guards=some []
theorem ZaJ.mono{j k:Nat}{A:Around}(r:ZaJ k A)(h:j≤k):ZaJ j A:=⟨r.hd,by have:=r.dp;omega,by have:=r.un;omega,r.gd⟩
theorem ZaJ.deeper{k:Nat}{A:Around}(r:ZaJ (k+1) A)(env:Env):ZaJ k (A.deeper env) :=
 ⟨r.hd,by have:=r.dp;show A.depth+1+3*k+5<_;omega,by have:=r.un;show A.units+3+16*k+200<_;omega,r.gd⟩
theorem Zi1{A:Around}{C:Addr}{us:List Value}{kw:List (Str×Value)}:(A.under (.builtin "type.__call__" ⟨.ref C::us,kw⟩)).depth=A.depth+1:=by
 first|rfl|simp[Around.under,Code.weight,Code.isCreation,Code.isGuard,Code.isCaller,Code.frames,Code.isFrame,guardIds]
theorem Zjp{A:Around}{C:Addr}{us:List Value}{kw:List (Str×Value)}:(A.under (.builtin "type.__call__" ⟨.ref C::us,kw⟩)).units=A.units+1:=by
 first|rfl|simp[Around.under,Code.cUnits,Code.frames,Code.isFrame]
theorem ZaJ.make{k:Nat}{A:Around}(r:ZaJ (k+1) A)(C:Addr)(us:List Value)(kw:List (Str×Value)):ZaJ k (A.under (.builtin "type.__call__" ⟨.ref C::us,kw⟩)) :=
 ⟨r.hd,by have:=r.dp;rw[Zi1];omega,by have:=r.un;rw[Zjp];omega,by rw[show (A.under (.builtin "type.__call__" ⟨.ref C::us,kw⟩)).guards=A.guards from by first|rfl|simp[Around.under,pushGuards,Code.guards,Code.isGuard,guardIds]];exact r.gd⟩
theorem ZaJ.depth{k:Nat}{A:Around}(r:ZaJ k A):A.depth<recursionLimit:=by have:=r.dp;omega
theorem ZaJ.units{k:Nat}{A:Around}(r:ZaJ k A):A.units+64<cLine:=by have:=r.un;omega
def Zqu:TA:=fun _ H Q=>Q [] H
def Zrv(ta:TE)(tr:TA):TA:=fun σ H Q=>ta σ H fun x H1=>tr σ H1 fun xs H2=>Q (x::xs) H2
section
variable {X:Cx} {e:Expr} {es:List Expr} {te:TE} {t:TA} {pos:Pos}
theorem Ze:PA X [] Zqu:=fun _ _ _ _ H Q I h=>Calls.spliced_nil ⟨[],H,I,.nil,h⟩
theorem Za(ha:PE X e te)(hr:PA X es t)(hs:starEach (e::es) X.env=(false,eval e X.env)::starEach es X.env:=by rfl):PA X (e::es) (Zrv te t):=by
 intro pos pins s σ H Q I h
 rw[hs]
 show wpAny _ _ (spliced ((false,eval e X.env)::backTo pos (starEach es X.env))) _ _ s
 refine Calls.spliced_cons (thn (ha pins s σ H _ I h) ?_)
 rintro u s1 ⟨x,H1,I1,r1,q1⟩
 exact thn (hr pos pins s1 σ H1 _ I1 q1) fun us s2 ⟨xs,H2,I2,r2,q2⟩=>⟨x::xs,H2,I2,.cons r1 r2,q2⟩
def Zso(t:TA):TE:=fun σ H Q=>t σ H fun xs H1=>xs.length≤sizeLine∧∀p,H1 p=none→Q (.ref p) (upd H1 p (.tup xs))
def Zsz(t:TA):TE:=fun σ H Q=>t σ H fun xs H1=>xs.length≤sizeLine∧∀p,H1 p=none→Q (.ref p) (upd H1 p (.lst xs))
theorem Za1{x1}(h:PA X es t):PE X (.Tuple es x1 pos) (Zso t):=by
 intro pins s σ H Q I hq
 refine wpAny_Tuple_spliced (thn (h pos pins s σ H _ I hq) fun us s1 ⟨xs,H1,I1,r,z,q⟩=>⟨by rw[← r.length];exact z,?_⟩)
 have hf:H1 s1.heap.objs.size=none:=I1.hok.fresh (Qf _)
 refine⟨.ref s1.heap.objs.size,upd H1 s1.heap.objs.size (.tup xs),I1.laid (t':=s1.toks) (fun b u e=>Qc _ e) (Qf _) ?_,rfl,q _ hf⟩
 exact⟨z,us,r,⟨_,Qu _ rfl,rfl,_,rfl⟩⟩
theorem Zah(h:PA X es t):PE X (.List es pos) (Zsz t):=by
 intro pins s σ H Q I hq
 refine wpAny_List_spliced (thn (h pos pins s σ H _ I hq) fun us s1 ⟨xs,H1,I1,r,z,q⟩=>⟨by rw[← r.length];exact z,?_⟩)
 have hf:H1 s1.heap.objs.size=none:=I1.hok.fresh (Qf _)
 refine⟨.ref s1.heap.objs.size,upd H1 s1.heap.objs.size (.lst xs),I1.laid (t':=s1.toks) (fun b u e=>Qc _ e) (Qf _) ?_,rfl,q _ hf⟩
 exact⟨z,us,0,r,Qu _ rfl⟩
end
abbrev Sp:=List V→Hp→VK→XK→Prop
abbrev CXT:=List Env→Hp→Shared→XK→Value→Shared→Prop
structure ZiO (P:Program) (w:World) (K:PySem.W.Frag) (mg:Str→Option Value) (base:Heap) (A:Around) (outer:List Env) (s:Shared) (H:Hp):Prop where
 frames:A.frames=some outer
 mod:Mod K mg base
 bs:∀b o,base.get? b=some o→s.heap.get? b=some o∧H b=none
 bsz:base.objs.size≤s.heap.objs.size
 funs:s.heap.FunFrames base outer
 frf:∀b∈frs outer,H b=none
 hok:HOk P w H s.heap
 bare:AllBare s.gens
def CE(outer:List Env)(P:Program)(w:World)(H:Hp)(s:Shared)(Q:VK)(u:Value)(s':Shared):Prop :=
 ∃v H',s'.os=s.os∧AllBare s'.gens∧Un (frs outer) [] H H' s.heap s'.heap∧HOk P w H' s'.heap∧Zx v u∧Q v H'
def CR(CX:CXT)(outer:List Env)(P:Program)(w:World)(H:Hp)(s:Shared)(Q:VK)(E:XK)(r:Result)(s':Shared):Prop :=
 match r with
 | .ok (.ret u)=>CE outer P w H s Q u s'
 | .ok _=>False
 | .error e=>CX outer H s E e s'
structure ZdC (P:Program) (w:World) (K:PySem.W.Frag) (mg:Str→Option Value) (base:Heap) (CX:CXT) (k:Nat) (f:Addr) (fd:FuncData) (ps:List Str) (sp:Sp):Prop where
 len:∀vs H Q E,sp vs H Q E→vs.length=ps.length
 run:∀ (A:Around) (outer:List Env) (s:Shared) (H:Hp) (args:Args) (us:List Value) (vs:List V) (Q:VK) (E:XK),ZaJ k A→ZiO P w K mg base A outer s H→BindsTo s fd args (ps.zip us)→Zv vs us→sp vs H Q E →
  codeAny (model P w) A (.call (.ref f) args) (CR CX outer P w H s Q E) s
theorem ZiO.make{P:Program}{w:World}{K:PySem.W.Frag}{mg:Str→Option Value}{base:Heap}{A:Around}{outer:List Env}{s:Shared}{H:Hp}(e:ZiO P w K mg base A outer s H)(C:Addr)(us:List Value)(kw:List (Str×Value)) :
  ZiO P w K mg base (A.under (.builtin "type.__call__" ⟨.ref C::us,kw⟩)) outer s H:=⟨by first|exact e.frames|(simpa [Around.under,Code.envs,Code.isFrame,pushEnvs] using e.frames),e.mod,e.bs,e.bsz,e.funs,e.frf,e.hok,e.bare⟩
section
variable {X:Cx} {pins:List (Addr×Obj)} {σ:St} {H:Hp} {s s':Shared}
theorem Inv.env0(I:Inv X pins σ H s):ZiO X.prog X.w X.K X.mg X.base X.A X.stack s H :=
 ⟨I.ok.frames,I.ok.mod,I.bs,QM I.ok.bsz I.sz,I.stack,I.stkFree,I.hok,I.bare⟩
theorem Inv.after{Q:VK}{u:Value}(I:Inv X pins σ H s)(h:CE X.stack X.prog X.w H s Q u s'):EP X pins σ Q u s':=by
 obtain⟨v,H',os,bare,un,hok,r,q⟩:=h
 obtain⟨hh,g,d,t,os'⟩:=s'
 obtain rfl:os'=s.os:=os
 exact⟨v,H',I.call (h':=hh) (g':=g) (d':=d) (t':=t) (ch:=[]) un hok bare (fun b z=>absurd z (by simp)),r,q⟩
end
def Zo8(sp:Sp)(dvs:List V)(E:XK)(t:TA):TE:=fun σ H Q=>t σ H fun vs H1=>sp (vs++dvs) H1 Q E
def Zko(C:Addr)(m:Str)(sp:Sp)(dvs:List V)(E:XK)(ta:TE)(t:TA):TE:=fun σ H Q=>ta σ H fun x H1=>∃a dx fs,x=.ref a∧H1 a=some (.ins C dx fs)∧fs.lookup m=none ∧
 t σ H1 fun vs H2=>sp (x::(vs++dvs)) H2 Q E
def ZoT(C:Addr)(sp:Sp)(dvs:List V)(E:XK)(t:TA):TE:=fun σ H Q=>t σ H fun vs H1=>∀x dx,H1 x=none→H1 dx=none→dx≠x →
 sp (.ref x::(vs++dvs)) (upd (upd H1 dx (.own x)) x (.ins C dx [])) (fun v H2=>v=.non∧Q (.ref x) H2) E
def ZbZ(K:PySem.W.Frag)(fd:FuncData)(ps:List Str)(ds:List Value):Prop :=
 ∀ (s:Shared) (us:List Value),K.In s.heap→(us++ds).length=ps.length→BindsTo s fd ⟨us,[]⟩ (ps.zip (us++ds))
theorem ZbZ.all{K:PySem.W.Frag}{fd:FuncData}{ps:List Str}(h:∀us:List Value,us.length=ps.length→bindArgs fd ⟨us,[]⟩=pure (ps.zip us)):ZbZ K fd ps []:=fun s us _ hl=>by
 rw[Qag]at hl ⊢
 exact .of_eq (h us hl)
def ZdN(CX:CXT)(X:Cx)(E:XK):Prop:=∀ (pins:List (Addr×Obj)) (σ:St) (H:Hp) (s:Shared) (e:Value) (s':Shared),Inv X pins σ H s→CX X.stack H s E e s'→X.xe e s'
section
variable {X:Cx} {CX:CXT} {k:Nat} {f C:Addr} {fd:FuncData} {ps:List Str} {sp:Sp} {dvs:List V} {ds:List Value} {E:XK} {x m:Str} {p pos apos:Pos} {e o:Expr} {es:List Expr} {ta:TE} {t:TA}
theorem Zjc{pins:List (Addr×Obj)}{σ:St}{H:Hp}{s:Shared}{Q:VK}{us:List Value}{vs:List V}(F:ZdC X.prog X.w X.K X.mg X.base CX k f fd ps sp)(hr:ZaJ k X.A)(hb:ZbZ X.K fd ps ds)(hd:Zv dvs ds)(hx:ZdN CX X E)
  (I:Inv X pins σ H s) (r:Zv vs us) (h:sp (vs++dvs) H Q E):wpAny (model X.prog X.w) X.A (call (.ref f) us) (EP X pins σ Q) X.xe s:=by
 have r2:Zv (vs++dvs) (us++ds):=r.append hd
 have hl:(us++ds).length=ps.length:=by rw[← r2.length];exact F.len _ _ _ _ h
 refine wpAny_call (codeAny_mono (F.run X.A X.stack s H ⟨us,[]⟩ (us++ds) (vs++dvs) Q E hr I.env0 (hb s us I.kIn hl) r2 h) fun r s' hq=>?_)
 cases r with
 | error e=>exact hx pins σ H s e s' I hq
 | ok fl =>
  cases fl with
  | ret u=>exact I.after hq
  | next=>exact False.elim hq
  | brk=>exact False.elim hq
  | cont=>exact False.elim hq
theorem Zoq(F:ZdC X.prog X.w X.K X.mg X.base CX k f fd ps sp)(hr:ZaJ k X.A)(hg:Gl X x)(hm:X.mg x=some (.ref f))(hk:PySem.W.keepIn X.K (.ref f)=true)(hb:ZbZ X.K fd ps ds)(hd:Zv dvs ds)(hx:ZdN CX X E)
  (ha:PA X (e::es) t) (hdb:(x == ("__debug__" : Str))=false:=by decide) (he:starEach (e::es) X.env=(false,eval e X.env)::starEach es X.env:=by rfl) (hpl:(backTo pos (starEach es X.env)).any (·.1)=false:=by rfl) :
  PE X (.Call (.Name x p) (e::es) [] pos) (Zo8 sp dvs E t):=by
 intro pins s σ H Q I h
 refine wpAny_Call_Name_kw (ZjI I hg hm ?_ hdb)
 refine PySem.W.callWith_K (h₀:=X.base) I.ok.mod.kin hk (thn (ha pos pins s σ H _ I h) fun us s1 ⟨vs,H1,I1,r,q⟩=>⟨I1.kIn,?_⟩) he hpl
 exact Zjc F hr hb hd hx I1 r q
theorem ZnT{pl:Sem Bool}(he:PE X o ta)(c:Cls X.K C)(hm:ZmQ X.K C m f)(F:ZdC X.prog X.w X.K X.mg X.base CX k f fd ps sp)(hr:ZaJ k X.A)(hb:ZbZ X.K fd ps ds)(hd:Zv dvs ds)(hx:ZdN CX X E)(ha:PA X (e::es) t)
  (hst:starEach (e::es) X.env=(false,eval e X.env)::starEach es X.env:=by rfl) (hpl:(backTo pos (starEach es X.env)).any (·.1)=false:=by rfl)
  (ht:eval (.Call (.Attribute o m apos) (e::es) [] pos) X.env=(do
   let ov ← eval o X.env
   standAt apos.atName
   let (f,first) ← holding [ov] (getMethod ov m pl)
   callWith pos f first (backTo pos (starEach (e::es) X.env)) (backToKw pos (keywordEach [] X.env))):=by rfl) :
  PE X (.Call (.Attribute o m apos) (e::es) [] pos) (Zko C m sp dvs E ta t):=by
 intro pins s σ H Q I h
 refine PySem.W.methodCall_KW (pl:=pl) (thn (he pins s σ H _ I h) ?_) ht
 rintro u s1 ⟨x,H1,I1,rx,a,dx,fs,ex,ea,l,q⟩
 subst ex
 obtain rfl:u=Value.ref a:=rx
 refine Zft I1 ea c hm l ?_
 refine PySem.W.callWith_K (first:=[.ref a]) (h₀:=X.base) I.ok.mod.kin hm.kp (thn (ha pos pins s1 σ H1 _ I1 q) fun us s2 ⟨vs,H2,I2,r,q2⟩=>⟨I2.kIn,?_⟩) hst hpl
 exact Zjc (us:=.ref a::us) (vs:=.ref a::vs) F hr hb hd hx I2 (.cons rfl r) q2
theorem Zlz{pl:Sem Bool}(he:PE X o ta)(c:Cls X.K C)(hm:ZmQ X.K C m f)(F:ZdC X.prog X.w X.K X.mg X.base CX k f fd ps sp)(hr:ZaJ k X.A)(hb:ZbZ X.K fd ps ds)(hd:Zv dvs ds)(hx:ZdN CX X E)
  (ht:eval (.Call (.Attribute o m apos) [] [] pos) X.env=(do
   let ov ← eval o X.env
   standAt apos.atName
   let (f,first) ← holding [ov] (getMethod ov m pl)
   callWith pos f first (backTo pos (starEach [] X.env)) (backToKw pos (keywordEach [] X.env))):=by rfl) :
  PE X (.Call (.Attribute o m apos) [] [] pos) (Zko C m sp dvs E ta Zqu):=by
 intro pins s σ H Q I h
 refine PySem.W.methodCall_KW (pl:=pl) (thn (he pins s σ H _ I h) ?_) ht
 rintro u s1 ⟨x,H1,I1,rx,a,dx,fs,ex,ea,l,q⟩
 subst ex
 obtain rfl:u=Value.ref a:=rx
 refine Zft I1 ea c hm l ?_
 exact PySem.W.callWith_K0 (first:=[.ref a]) I1.kIn hm.kp (Zjc (us:=[.ref a]) (vs:=[.ref a]) F hr hb hd hx I1 (.cons rfl .nil) q)
structure Mk (K:PySem.W.Frag) (C f:Addr):Prop where
 makes:PySem.W.makesIn K C=true
 init:PySem.W.findIn K (.ref C) "__init__" = some (some (.ref f))
 fn:PySem.W.isFn K (.ref f)=true
 kp:PySem.W.keepIn K (.ref C)=true
theorem Zm3{pins:List (Addr×Obj)}{σ:St}{H:Hp}{s:Shared}{Q:VK}{us:List Value}{vs:List V}(M:Mk X.K C f)(F:ZdC X.prog X.w X.K X.mg X.base CX k f fd ps sp)(hr:ZaJ (k+1) X.A)(hb:ZbZ X.K fd ps ds)(hd:Zv dvs ds)
  (hx:ZdN CX X E) (I:Inv X pins σ H s) (r:Zv vs us)
  (h:∀x dx,H x=none→H dx=none→dx≠x→sp (.ref x::(vs++dvs)) (upd (upd H dx (.own x)) x (.ins C dx [])) (fun v H2=>v=.non∧Q (.ref x) H2) E) :
  wpAny (model X.prog X.w) X.A (call (.ref C) us) (EP X pins σ Q) X.xe s:=by
 have hq:=h (s.heap.objs.size+1) s.heap.objs.size (I.hok.fresh (Qao _)) (I.hok.fresh (Qf _)) (QH (Nat.lt_succ_self _))
 have I2:=Inv.made (C:=C) I
 have r2:Zv (V.ref (s.heap.objs.size+1)::(vs++dvs)) (Value.ref (s.heap.objs.size+1)::(us++ds)):=.cons rfl (r.append hd)
 have hl:(Value.ref (s.heap.objs.size+1)::us++ds).length=ps.length:=by
  have e:=r2.length
  rw[F.len _ _ _ _ hq]at e
  exact e.symm
 refine wpAny_call (Znl (f:=f) I.kIn M.makes M.init (beq_iff_eq.mp M.fn) (codeAny_mono (F.run _ X.stack _ _ ⟨Value.ref (s.heap.objs.size+1)::us,[]⟩ (Value.ref (s.heap.objs.size+1)::(us++ds)) _ _ E (hr.make C us [])
  (I2.env0.make C us []) (hb _ (Value.ref (s.heap.objs.size+1)::us) I2.kIn hl) r2 hq) fun r s' hq'=>?_))
 cases r with
 | error e=>exact hx pins σ _ _ e s' I2 hq'
 | ok fl =>
  cases fl with
  | ret u =>
   obtain⟨v,H',I3,rv,ev,q3⟩:=I2.after hq'
   subst ev
   exact⟨rv,⟨V.ref (s.heap.objs.size+1),H',I3,rfl,q3⟩⟩
  | next=>exact False.elim hq'
  | brk=>exact False.elim hq'
  | cont=>exact False.elim hq'
theorem Zoa(M:Mk X.K C f)(F:ZdC X.prog X.w X.K X.mg X.base CX k f fd ps sp)(hr:ZaJ (k+1) X.A)(hg:Gl X x)(hm:X.mg x=some (.ref C))(hb:ZbZ X.K fd ps ds)(hd:Zv dvs ds)(hx:ZdN CX X E)
  (ha:PA X (e::es) t) (hdb:(x == ("__debug__" : Str))=false:=by decide) (he:starEach (e::es) X.env=(false,eval e X.env)::starEach es X.env:=by rfl) (hpl:(backTo pos (starEach es X.env)).any (·.1)=false:=by rfl) :
  PE X (.Call (.Name x p) (e::es) [] pos) (ZoT C sp dvs E t):=by
 intro pins s σ H Q I h
 refine wpAny_Call_Name_kw (ZjI I hg hm ?_ hdb)
 refine PySem.W.callWith_K (h₀:=X.base) I.ok.mod.kin M.kp (thn (ha pos pins s σ H _ I h) fun us s1 ⟨vs,H1,I1,r,q⟩=>⟨I1.kIn,?_⟩) he hpl
 exact Zm3 M F hr hb hd hx I1 r q
end
def PK(X:Cx)(kws:List Keyword)(t:TA):Prop :=
 ∀ (pos:Pos) (pins:List (Addr×Obj)) (s:Shared) (σ:St) (H:Hp) (Q:List V→Hp→Prop),Inv X pins σ H s→t σ H Q→wpAny (model X.prog X.w) X.A (evalAll ((backToKw pos (keywordEach kws X.env)).map (·.2))) (AP X pins σ Q) X.xe s
section
variable {X:Cx} {CX:CXT} {k:Nat} {f C:Addr} {fd:FuncData} {ps ks:List Str} {sp:Sp} {E:XK} {x m:Str} {p pos apos kpos:Pos} {e o:Expr} {es:List Expr} {kws:List Keyword} {te ta:TE} {t tk:TA} {nm:Option Str}
structure KBinds (K:PySem.W.Frag) (fd:FuncData) (ps ks:List Str) (g:List Value→List Value→List Value) (gV:List V→List V→List V):Prop where
 to:∀ (s:Shared) (us ws:List Value),K.In s.heap→(g us ws).length=ps.length→BindsTo s fd ⟨us,ks.zip ws⟩ (ps.zip (g us ws))
 rel:∀ {vs:List V} {us:List Value} {zs:List V} {ws:List Value},Zv vs us→Zv zs ws→Zv (gV vs zs) (g us ws)
def tCallK(sp:Sp)(gV:List V→List V→List V)(E:XK)(t tk:TA):TE:=fun σ H Q=>t σ H fun vs H1=>tk σ H1 fun zs H2=>sp (gV vs zs) H2 Q E
variable {g:List Value→List Value→List Value} {gV:List V→List V→List V}
end
structure Zr (N P:List Str) (sc:Scope):Prop where
 kind:sc.kind=.function
 co:sc.isCoroutine=false
 gen:sc.isGenerator=false
 nd:N.Nodup
 pre:N.take P.length=P
 par:∀x∈P,sc.names.lookup x=some .local∨sc.names.lookup x=some .cell
 nofree:∀y∈sc.names,y.2≠.free
theorem Zgp{kindOf:Str→Option NameKind}{x:Str}:∀ {binds:List (Str×Value)} {m:Str→Option Value},(∀v,(x,v) ∉ binds)→bindL kindOf binds m x=m x
 | [],_,_=>rfl
 | (n,v)::r,m,h=>by
  unfold bindL
  rw[Zgp fun w hw=>h w (Qs _ hw)]
  split
  ·have:x≠n:=by rintro rfl;exact h v Q8
   simp[this]
  ·rfl
theorem Zgg{kindOf:Str→Option NameKind}{x:Str}:∀ {binds:List (Str×Value)} {m:Str→Option Value},(∀v,(x,v) ∉ binds)→bindC kindOf binds m x=m x
 | [],_,_=>rfl
 | (n,v)::r,m,h=>by
  unfold bindC
  rw[Zgg fun w hw=>h w (Qs _ hw)]
  split
  ·rfl
  ·have:x≠n:=by rintro rfl;exact h v Q8
   simp[this]
theorem Zgl{kindOf:Str→Option NameKind}{x:Str}{v:Value}:∀ {P:List Str} {vs:List Value} {i:Nat} {m:Str→Option Value},P.Nodup→P[i]? = some x→vs[i]? = some v→kindOf x=some .local →
  bindL kindOf (P.zip vs) m x=some v
 | [],_,_,_,_,h,_,_=>by simp at h
 | _::_,[],_,_,_,_,h,_=>by simp at h
 | p::P,w::vs,0,m,nd,h1,h2,hk=>by
  simp at h1 h2;subst h1;subst h2
  show bindL kindOf ((p,w)::P.zip vs) m p=_
  unfold bindL
  rw[Zgp fun v hv=>(QU.mp nd).1 (List.of_mem_zip hv).1,if_pos hk]
  simp
 | p::P,w::vs,i+1,m,nd,h1,h2,hk=>by
  show bindL kindOf ((p,w)::P.zip vs) m x=_
  unfold bindL
  exact Zgl (i:=i) (QU.mp nd).2 (by simpa using h1) (by simpa using h2) hk
theorem Zgr{kindOf:Str→Option NameKind}{x:Str}{v:Value}:∀ {P:List Str} {vs:List Value} {i:Nat} {m:Str→Option Value},P.Nodup→P[i]? = some x→vs[i]? = some v→kindOf x≠some .local →
  bindC kindOf (P.zip vs) m x=some v
 | [],_,_,_,_,h,_,_=>by simp at h
 | _::_,[],_,_,_,_,h,_=>by simp at h
 | p::P,w::vs,0,m,nd,h1,h2,hk=>by
  simp at h1 h2;subst h1;subst h2
  show bindC kindOf ((p,w)::P.zip vs) m p=_
  unfold bindC
  rw[Zgg fun v hv=>(QU.mp nd).1 (List.of_mem_zip hv).1,if_neg hk]
  simp
 | p::P,w::vs,i+1,m,nd,h1,h2,hk=>by
  show bindC kindOf ((p,w)::P.zip vs) m x=_
  unfold bindC
  exact Zgr (i:=i) (QU.mp nd).2 (by simpa using h1) (by simpa using h2) hk
def Zdd(N:List Str)(vs:List V):St:=vs.map some++List.replicate (N.length-vs.length) none
def Zg2(CX:CXT)(P:Program)(w:World)(K:PySem.W.Frag)(mg:Str→Option Value)(base:Heap)(N:List Str)(qual:Str)(scope:Scope)(f:Addr)(cd:Value)(A:Around)(outer:List Env)(s:Shared)(H:Hp)(E:XK):Cx where
 prog:=P
 w:=w
 K:=K
 mg:=mg
 base:=base
 A:=A.deeper (envOfC qual scope s.heap.objs.size f cd)
 N:=N
 s₀:=s
 H₀:=H
 env:=envOfC qual scope s.heap.objs.size f cd
 outer:=outer
 stack:=envOfC qual scope s.heap.objs.size f cd::outer
 ex:=[]
 calm:=true
 fn:=fun _=>true
 pn:=[]
 xe:=fun e s'=>wpAny (model P w) (A.deeper (envOfC qual scope s.heap.objs.size f cd)) (leaving (envOfC qual scope s.heap.objs.size f cd) e) (fun _ s''=>CX outer H s E e s'') (fun e' s''=>CX outer H s E e' s'') s'
theorem Zih{sc:Scope}{n:Nat}{x:Str}(h:sc.names.lookup x=some .cell):∃c,(cellsFrom n sc.names []).lookup x=some c:=by
 have q:=PySem.W.cellsFrom_some sc.names n [] (.inl h)
 exact Option.isSome_iff_exists.mp q
theorem Zlq{CX:CXT}{P:Program}{w:World}{K:PySem.W.Frag}{mg:Str→Option Value}{base:Heap}{N ps:List Str}{qual:Str}{scope:Scope}{f:Addr}{cd:Value}{A:Around}{outer:List Env}{s s1:Shared}{H:Hp}{E:XK}{us:List Value}{vs:List V}
  (S:Zr N ps scope) (hd:A.handled=none) (e0:ZiO P w K mg base A outer s H) (hl:vs.length=ps.length) (r:Zv vs us)
  (x:InCallC s s.heap.objs.size (bindL (envOfC qual scope s.heap.objs.size f cd).kindOf (ps.zip us) fun _=>none) (cellsFrom (s.heap.objs.size+1) scope.names []) (bindC (envOfC qual scope s.heap.objs.size f cd).kindOf (ps.zip us) fun _=>none) s1) :
  Inv (Zg2 CX P w K mg base N qual scope f cd A outer s H E) [] (Zdd N vs) H s1:=by
 have hpl:ps.length≤N.length:=by have:=congrArg List.length S.pre;rw[Qy]at this;omega
 obtain⟨h1,tk,rfl,hk⟩:=x.done
 have noA:∀b:Addr,b ∉ (Zg2 CX P w K mg base N qual scope f cd A outer s H E).ex:=fun b z=>absurd (show b∈([]:List Addr) from z) (by simp)
 refine⟨⟨e0.mod,S.kind,rfl,rfl,Qf _,fun y z c h1 h2=>?_,fun y hy=>?_,fun y c _ h=>?_,fun _=>hd,Around.frames_deeper e0.frames,.inr ⟨rfl,rfl⟩,fun b z=>absurd z (noA b),e0.bs,e0.bsz,fun b _ _=>noA b,fun b z=>absurd z (noA b),e0.funs,e0.frf⟩,
  rfl,e0.bare,Un.kept hk,⟨_,x.toInCall.ns,fun i y v h1 h2 h3=>?_⟩,fun y c h=>⟨_,x.cell y c h⟩,e0.hok.fresh (Qf _),fun y c h=>?_,fun p hp=>absurd (show p∈([]:List (Addr×Obj)) from hp) (by simp),e0.hok.kept hk,?_⟩
 ·exact name_of_addr x.apart (Qai h1) (Qai h2)
 ·have hy:scope.names.lookup y=some .cell∨scope.names.lookup y=some .free:=hy
  rcases hy with hy|hy
  ·exact Zih hy
  ·exact absurd rfl (S.nofree _ (Qai hy))
 ·exact Nat.le_of_lt (x.above y c (Qai h))
 ·have hi:i<vs.length:=by
   unfold Zdd at h2
   by_cases hi:i<vs.length
   ·exact hi
   ·rw[QY (by simpa using hi)]at h2
    rw[List.getElem?_replicate]at h2
    split at h2<;>cases h2
  have ha:vs[i]? = some v:=by
   unfold Zdd at h2
   rw[QW (by simpa using hi),Qj]at h2
   cases e:vs[i]? with
   | none=>rw[e]at h2;cases h2
   | some a=>rw[e]at h2;cases h2;rfl
  obtain⟨u,hu,rv⟩:=r.get ha
  have hp:ps[i]? = some y:=by
   rw[← S.pre,List.getElem?_take_of_lt (by omega)];exact h1
  have ndP:ps.Nodup:=by rw[← S.pre];exact S.nd.sublist (List.take_sublist _ _)
  refine⟨u,rv,?_⟩
  rcases S.par y (Qp hp) with k|k
  ·exact .inl ⟨k,Zgl ndP hp hu k⟩
  ·obtain⟨c,e⟩:=Zih (n:=s.heap.objs.size+1) k
   refine .inr ⟨.inl k,c,e,?_⟩
   have q:=x.cell y c e
   rw[Zgr ndP hp hu (by show scope.names.lookup y≠_;rw[k];decide)]at q
   exact q
 ·exact e0.hok.fresh (Nat.le_of_lt (x.above y c (Qai h)))
 ·unfold Zdd
  show _=N.length
  rw[Qg,Qb,Q7]
  omega
theorem Zru{CX:CXT}{P:Program}{w:World}{K:PySem.W.Frag}{mg:Str→Option Value}{base:Heap}{k:Nat}{f:Addr}{name qual:Str}{params:Arguments}{body:List Stmt}{scope:Scope}{dV kV doc pm cdv ct oc:Value}{an od:Option Addr}
  {osl:Array (Option Value)} {N ps:List Str} {sp:Sp} (lk:K.lookup f=some ⟨oc,od,.func (PySem.W.fnOf name qual params body scope dV kV doc pm an cdv ct),osl⟩) (hcd:PySem.W.codeIn K cdv qual=true) (S:Zr N ps scope)
  (len:∀vs H Q E,sp vs H Q E→vs.length=ps.length)
  (hbody:∀ (A:Around) (outer:List Env) (s:Shared) (H:Hp) (vs:List V) (Q:VK) (E:XK),ZaJ k (A.deeper (envOfC qual scope s.heap.objs.size f cdv))→sp vs H Q E →
   ∃t,PSs (Zg2 CX P w K mg base N qual scope f cdv A outer s H E) body t∧t { nx:=fun _ H'=>Q .non H',rt:=Q } (Zdd N vs) H) :
  ZdC P w K mg base CX (k+1) f (PySem.W.fnOf name qual params body scope dV kV doc pm an cdv ct) ps sp:=by
 refine⟨len,fun A outer s H args us vs Q E hr e0 hb r hsp=>?_⟩
 have hl:=len _ _ _ _ hsp
 have KX:K.In s.heap:=e0.mod.kin.keeps fun b o e=>(e0.bs b o e).1
 have lim:s.heap.NoLimit:=e0.mod.nolimit.keeps fun b o e=>(e0.bs b o e).1
 have hkind:∀y∈ps.zip us,scope.names.lookup y.1=some .local∨(scope.names.lookup y.1=some .cell∧((cellsFrom (s.heap.objs.size+1) scope.names []).lookup y.1).isSome=true):=fun ⟨n,v⟩ hy=>by
  rcases S.par n (List.of_mem_zip hy).1 with q|q
  ·exact .inl q
  ·exact .inr ⟨q,PySem.W.cellsFrom_some _ _ _ (.inl q)⟩
 refine codeAny_call_function hr.depth (KX _ _ lk) rfl S.co S.gen rfl (PySem.W.codeRec_of KX hcd) (hb _ _ _ _ ?_)
 refine wpAny_newFunctionEnv_cells S.kind hkind fun env he s1 x=>?_
 subst he
 refine⟨lim.keeps x.toInCall.keep,codeAny_func ?_⟩
 obtain⟨t,ht,hq⟩:=hbody A outer s H vs Q E (hr.deeper _) hsp
 have I:Inv (Zg2 CX P w K mg base N qual scope f cdv A outer s H E) [] (Zdd N vs) H s1:=Zlq S hr.hd e0 hl r x
 refine wpAny_mono (ht [] s1 (Zdd N vs) H _ I hq) (fun fl s' hs=>?_) fun e s' hs=>hs
 have fin:∀ {σ':St} {H':Hp} {v:V} {u:Value},Inv (Zg2 CX P w K mg base N qual scope f cdv A outer s H E) [] σ' H' s'→Zx v u→Q v H'→CE outer P w H s Q u s' :=
  fun {σ' H' v u} J rv q=>⟨v,H',J.os,J.bare,J.base,J.hok,rv,q⟩
 cases fl with
 | ret u =>
  obtain⟨v,σ',H',J,rv,q⟩:=hs
  exact fin J rv q
 | next =>
  obtain⟨σ',H',J,q⟩:=hs
  exact fin (v:=V.non) (u:=Value.none) J rfl q
 | brk =>
  obtain⟨_,_,_,q⟩:=hs
  exact False.elim q
 | cont =>
  obtain⟨_,_,_,q⟩:=hs
  exact False.elim q
section
variable {X:Cx} {x:Str} {p pos:Pos} {e:Expr} {es:List Expr} {t:TA} {id T:String} {r:List V→Hp→VK→Prop}
def tCB(r:List V→Hp→VK→Prop)(t:TA):TE:=fun σ H Q=>t σ H fun vs H1=>r vs H1 Q
theorem Zk(hc:Z8 X (.builtin id) r)(hg:Gl X x)(hm:X.mg x=none)(hv:bootBuiltins x=some (.builtin id))(ha:PA X (e::es) t)(hn:x ≠ "__name__":=by decide)(hdb:(x == ("__debug__" : Str))=false:=by decide)
  (he:starEach (e::es) X.env=(false,eval e X.env)::starEach es X.env:=by rfl) (hpl:(backTo pos (starEach es X.env)).any (·.1)=false:=by rfl):PE X (.Call (.Name x p) (e::es) [] pos) (tCB r t):=by
 intro pins s σ H Q I h
 refine wpAny_Call_Name_kw (ZdQ I hg hm hv ?_ hn hdb)
 exact PyProof.Rows.callWith_builtin1 (thn (ha pos pins s σ H _ I h) fun us s1 ⟨vs,H1,I1,r1,q1⟩=>hc pins s1 σ H1 vs us Q I1 r1 q1) he hpl
theorem ZQ(hc:Z8 X (.type T) r)(hg:Gl X x)(hm:X.mg x=none)(hv:bootBuiltins x=some (.type T))(ha:PA X (e::es) t)(hn:x ≠ "__name__":=by decide)(hdb:(x == ("__debug__" : Str))=false:=by decide)
  (he:starEach (e::es) X.env=(false,eval e X.env)::starEach es X.env:=by rfl) (hpl:(backTo pos (starEach es X.env)).any (·.1)=false:=by rfl):PE X (.Call (.Name x p) (e::es) [] pos) (tCB r t):=by
 intro pins s σ H Q I h
 refine wpAny_Call_Name_kw (ZdQ I hg hm hv ?_ hn hdb)
 exact Q4 (thn (ha pos pins s σ H _ I h) fun us s1 ⟨vs,H1,I1,r1,q1⟩=>hc pins s1 σ H1 vs us Q I1 r1 q1) he hpl
end
end L2
namespace HT
open PySem PyProof.Rows
def lexLt:List Int→List Int→Bool
 | [],[]=>false
 | [],_::_=>true
 | _::_,[]=>false
 | x::xs,y::ys=>if x=y then lexLt xs ys else decide (x<y)
theorem ZpB(x y:Int)(xs ys:List Int):lexLt (x::xs) (y::ys)=if x=y then lexLt xs ys else decide (x<y):=rfl
theorem Zny:lexLt [] []=false:=rfl
theorem ZlB(y:Int)(ys:List Int):lexLt [] (y::ys)=true:=rfl
theorem Zmh(x:Int)(xs:List Int):lexLt (x::xs) []=false:=rfl
section
open PySem.SeqAt
open PySem.AutoSeq1 (wpAny_loadPart')
open PySem.MeetsSeq PySem.MeetsSeq2 PySem.MeetsSeq3
end
section
variable {prog:Program} {w:World} {A:Around} {E:Value→Shared→Prop} {s:Shared}
def sIx(n d:Nat):Option Int→Nat
 | none=>d
 | some v=>if v<0 then (v+(n:Int)).toNat else min v.toNat n
theorem ZqP(n d:Nat):sIx n d none=d:=rfl
end
end HT
namespace L2
open PySem PySem.Spec PyProof.Rows
abbrev TO:=St→Hp→(Option Int→Hp→Prop)→Prop
def PO(X:Cx)(e:Option Expr)(t:TO):Prop :=
 ∀ (pins:List (Addr×Obj)) (s:Shared) (σ:St) (H:Hp) (Q:Option Int→Hp→Prop),Inv X pins σ H s→t σ H Q →
  wpAny (model X.prog X.w) X.A (evalPart e X.env) (fun u s'=>∃o H',Inv X pins σ H' s'∧IsPart u o∧Q o H') X.xe s
def ZoD:TO:=fun _ H Q=>Q none H
def ZqV(t:TE):TO:=fun σ H Q=>t σ H fun x H1=>∃i,x=.int i∧Q (some i) H1
theorem Zjd{ns:List Int}:∀ {us:List Value},Zv (ns.map V.int) us→IntsAre us ns:=by
 induction ns with
 | nil=>intro us r;rw[Qat]at r;cases r;exact .nil
 | cons n ns ih =>
  intro us r
  rw[Qh]at r
  cases r with
  | cons r1 r2 =>
   obtain⟨t,e⟩:=r1
   subst e
   exact .cons n t (ih r2)
section
variable {X:Cx} {e:Expr} {te:TE} {lo hi:Option Expr} {tl th:TO} {pos p2:Pos}
theorem Zdl:PO X none ZoD:=by
 intro pins s σ H Q I h
 rw[evalPart_none]
 exact wpAny_pure ⟨none,H,I,.none,h⟩
theorem ZbN(h:PE X e te):PO X (some e) (ZqV te):=by
 intro pins s σ H Q I hw
 rw[evalPart_some]
 refine thn (h pins s σ H _ I hw) ?_
 rintro u s1 ⟨x,H1,I1,r1,q1⟩
 obtain⟨i,rfl,q⟩:=q1
 obtain⟨t,rfl⟩:=r1
 exact⟨some i,H1,I1,.int i t,q⟩
def SlR(X:Cx)(r:V→Option Int→Option Int→Hp→VK→Prop):Prop :=
 ∀ (pins:List (Addr×Obj)) (s:Shared) (σ:St) (H:Hp) (x:V) (v vl vu:Value) (lo hi:Option Int) (sl:Addr) (Q:VK),Inv X pins σ H s→Zx x v→s.heap.IsSliceOf sl vl vu .none→IsPart vl lo→IsPart vu hi→r x lo hi H Q →
  ∃T id,typeLookup (.type T) "__getitem__" = pure (some (.builtin id))∧s.TypeIs v T∧wpAny (model X.prog X.w) X.A (getItem v (.ref sl)) (EP X pins σ Q) X.xe s
def tSl(r:V→Option Int→Option Int→Hp→VK→Prop)(te:TE)(tl th:TO):TE:=fun σ H Q=>te σ H fun x H1=>tl σ H1 fun l H2=>th σ H2 fun u H3=>r x l u H3 Q
theorem Zc4{r:V→Option Int→Option Int→Hp→VK→Prop}(hr:SlR X r)(he:PE X e te)(hl:PO X lo tl)(hu:PO X hi th):PE X (.Subscript e (.Slice lo hi none p2) pos) (tSl r te tl th):=by
 intro pins s σ H Q I h
 refine Subscript_ (thn (he pins s σ H _ I h) ?_)
 rintro v s1 ⟨x,H1,I1,r1,q1⟩
 refine wpAny_Slice (thn (hl pins s1 σ H1 _ I1 q1) fun vl s2 ⟨l,H2,I2,pl,q2⟩=>thn (hu pins s2 σ H2 _ I2 q2) ?_)
 rintro vu s3 ⟨u,H3,I3,pu,q3⟩
 rw[evalPart_none]
 refine wpAny_pure ?_
 have I4:Inv X pins σ H3 { s3 with heap:=s3.heap.push { cls:=.type "slice",data:=.fields #[vl,vu,.none] } }:=I3.kept (t':=s3.toks) fun b ob q=>Qc _ q
 obtain⟨T,id,hT,ht,hg⟩:=hr pins { s3 with heap:=s3.heap.push { cls:=.type "slice",data:=.fields #[vl,vu,.none] } } σ H3 x v vl vu l u s3.heap.objs.size Q I4 r1 (Heap.IsSliceOf.new ..) pl pu q3
 show wpAny (model X.prog X.w) X.A (subscriptTail e (.Slice lo hi none p2) v (.ref s3.heap.objs.size)) (EP X pins σ Q) X.xe { s3 with heap:=s3.heap.push { cls:=.type "slice",data:=.fields #[vl,vu,.none] } }
 exact tail_any (ops:=[.ref s3.heap.objs.size,v]) ht hT hg (by with_unfolding_all rfl)
def ZdY(xs:List V)(lo hi:Option Int):List V:=(xs.drop (HT.sIx xs.length 0 lo)).take (HT.sIx xs.length xs.length hi-HT.sIx xs.length 0 lo)
theorem ZhB(xs:List V)(lo hi:Option Int):(ZdY xs lo hi).length≤xs.length:=by
 unfold ZdY
 rw[Qy,QP]
 omega
def rSlT(K:PySem.W.Frag):V→Option Int→Option Int→Hp→VK→Prop:=fun x lo hi H Q=>∃a xs,x=.ref a∧SqT K H a xs ∧
 ¬ (HT.sIx xs.length 0 lo=0∧HT.sIx xs.length xs.length hi=xs.length)∧∀p,H p=none→Q (.ref p) (upd H p (.tup (ZdY xs lo hi)))
def rLtT(K:PySem.W.Frag):R2:=fun x y H Q=>∃a b ns ms,x=.ref a∧y=.ref b∧SqT K H a (ns.map V.int)∧SqT K H b (ms.map V.int)∧Q (.bl (HT.lexLt ns ms)) H
def rCatT(K:PySem.W.Frag):R2:=fun x y H Q=>∃a b xs ys,x=.ref a∧y=.ref b∧SqT K H a xs∧SqT K H b ys∧xs≠[]∧xs.length+ys.length≤sizeLine ∧
 (ys=[]→Q (.ref a) H)∧(ys≠[]→∀p,H p=none→Q (.ref p) (upd H p (.tup (xs++ys))))
end
def ixN(n:Nat)(i:Int):Option Nat:=if 0≤i then (if i<n then some i.toNat else none) else if -(n:Int)≤i then some (i+n).toNat else none
def atI{α:Type}(xs:List α)(i:Int):Option α:=(ixN xs.length i).bind fun j=>xs[j]?
theorem Zj9{n:Nat}{i:Int}{j:Nat}(h:ixN n i=some j):seqIndex? i n=some j∧j<n ∧ -(n:Int)≤i∧i<n:=by
 unfold ixN at h
 by_cases h0:0≤i
 ·rw[if_pos h0]at h
  by_cases h1:i<n
  ·rw[if_pos h1]at h
   have e:i.toNat=j:=Qm h
   exact⟨by rw[seqIndex_of h0 h1,e],by omega,by omega,h1⟩
  ·rw[if_neg h1]at h;cases h
 ·rw[if_neg h0]at h
  by_cases h1:-(n:Int)≤i
  ·rw[if_pos h1]at h
   have e:(i+n).toNat=j:=Qm h
   exact⟨by rw[seqIndex_neg (by omega) h1,e],by omega,h1,by omega⟩
  ·rw[if_neg h1]at h;cases h
theorem Zhm{α:Type}{xs:List α}{i:Int}{v:α}(h:atI xs i=some v):∃j,seqIndex? i xs.length=some j∧xs[j]? = some v∧j<xs.length ∧ -(xs.length:Int)≤i∧i<xs.length:=by
 unfold atI at h
 cases e:ixN xs.length i with
 | none=>rw[e]at h;cases h
 | some j =>
  rw[e]at h
  obtain⟨h1,h2,h3,h4⟩:=Zj9 e
  exact⟨j,h1,h,h2,h3,h4⟩
theorem Z3{α:Type}{xs:List α}{j:Nat}{v:α}(h:xs[j]? = some v):atI xs (j:Int)=some v:=by
 have hj:j<xs.length:=(Qd.mp h).1
 have e:ixN xs.length (j:Int)=some j:=by
  unfold ixN
  rw[if_pos (by omega),if_pos (by omega)];simp
 unfold atI;rw[e];exact h
theorem ZlR{α:Type}(xs:List α)(v:α):atI (xs++[v]) (-1)=some v:=by
 have hl:(xs++[v]).length=xs.length+1:=by simp
 have e:ixN (xs++[v]).length (-1)=some xs.length:=by
  unfold ixN
  rw[hl,if_neg (by decide),if_pos (by omega)]
  congr 1
  omega
 unfold atI
 rw[e]
 show (xs++[v])[xs.length]? = some v
 simp
def ZnE(b:Expr):Prop:=∀o i,subscripted b false o i=operate [o,i] (getItem o i)
def IxR(X:Cx)(r:R2):Prop :=
 ∀ (value slice:Expr) (pins:List (Addr×Obj)) (s:Shared) (σ:St) (H:Hp) (x y:V) (v u:Value) (Q:VK),Inv X pins σ H s→Zx x v→Zx y u→r x y H Q →
  subscripted slice false v u=operate [v,u] (getItem v u)→wpAny (model X.prog X.w) X.A (subscriptTail value slice v u) (EP X pins σ Q) X.xe s
def MtR(X:Cx)(id:String)(r:V→List V→Hp→VK→Prop):Prop :=
 ∀ (pins:List (Addr×Obj)) (s:Shared) (σ:St) (H:Hp) (x:V) (xs:List V) (v:Value) (us:List Value) (Q:VK),Inv X pins σ H s→Zx x v→Zv xs us→r x xs H Q →
  wpAny (model X.prog X.w) X.A (call (.builtin id) (v::us)) (EP X pins σ Q) X.xe s
section
variable {X:Cx} {a b:Expr} {ta tb:TE} {pos:Pos}
theorem ZA{r:R2}(hr:IxR X r)(ha:PE X a ta)(hb:PE X b tb)(hs:ZnE b):PE X (.Subscript a b pos) (tOp r ta tb):=by
 intro pins s σ H Q I h
 exact Subscript_ (Zqm ha hb I h fun v u s2 x y H2 I2 rx ry q=>hr a b pins s2 σ H2 x y v u Q I2 rx ry q (hs _ _))
def Zps(K:PySem.W.Frag):R2:=fun x y H Q=>∃p xs i v,x=.ref p∧y=.int i∧SqL K H p xs∧atI xs i=some v∧Q v H
def Zp4(K:PySem.W.Frag):R2:=fun x y H Q=>∃p xs i v,x=.ref p∧y=.int i∧SqT K H p xs∧atI xs i=some v∧Q v H
def Zq9:R2:=fun x y H Q=>∃z i c,x=.str z∧y=.int i∧z.length≤sizeLine∧atI z.cps.toList i=some c∧Q (.str ⟨#[c]⟩) H
theorem ZoH:IxR X (Zps X.K):=by
 intro value slice pins s σ H x y v u Q I rx ry h hs
 obtain⟨p,xs,i,z,rfl,rfl,hq,he,q⟩:=h
 cases rx
 obtain⟨t,rfl⟩:=ry
 obtain⟨its,r,pl,hz⟩:=I.list hq
 obtain⟨j,h1,h2,h3,h4,h5⟩:=Zhm he
 obtain⟨w,ew,rw'⟩:=r.get h2
 have hl:=r.length
 have hn:=Zey
 have fin:EP X pins σ Q w s:=⟨z,H,I,rw',q⟩
 by_cases h0:0≤i
 ·have hj:i.toNat=j:=by
   rw[seqIndex_of h0 h5]at h1
   exact Qm h1
  exact item_listR pl.isList h0 (by omega) (by rw[hj];simpa using ew) fin hs
 ·have hj:(i+(its.toArray.size:Int)).toNat=j:=by
   rw[seqIndex_neg (by omega) h4]at h1
   rw[Qr,← hl]
   exact Qm h1
  exact subscriptTail_builtinR (x:=w) pl.isList.typeIs slot_list_getitem.lookup
   (wpAny_getItem_list_neg (Q:=fun r s'=>r=w∧EP X pins σ Q r s') pl.isList (by omega) (by rw[Qr]<;>omega) (by omega) (by rw[hj];simpa using ew) ⟨rfl,fin⟩) hs
theorem Zqx:IxR X (Zp4 X.K):=by
 intro value slice pins s σ H x y v u Q I rx ry h hs
 obtain⟨p,xs,i,z,rfl,rfl,hq,he,q⟩:=h
 cases rx
 obtain⟨t,rfl⟩:=ry
 obtain⟨its,r,pl,hz⟩:=I.tuple hq
 obtain⟨j,h1,h2,h3,h4,h5⟩:=Zhm he
 obtain⟨w,ew,rw'⟩:=r.get h2
 have hl:=r.length
 have hn:=Zey
 have fin:EP X pins σ Q w s:=⟨z,H,I,rw',q⟩
 exact subscriptTail_builtinR (x:=w) pl.typeIs slot_tuple_getitem.lookup
  (getItem_tuple (j:=j) (Q:=fun r s'=>r=w∧EP X pins σ Q r s') pl (by omega) (by omega) (by rw[Qr,← hl];exact h1) (by simpa using ew) ⟨rfl,fin⟩) hs
theorem Zfl:IxR X Zq9:=by
 intro value slice pins s σ H x y v u Q I rx ry h hs
 obtain⟨z,i,c,rfl,rfl,hz,he,q⟩:=h
 obtain⟨t,rfl⟩:=rx
 obtain⟨t',rfl⟩:=ry
 obtain⟨j,h1,h2,h3,h4,h5⟩:=Zhm he
 have hl:z.cps.toList.length=z.length:=by simp[Str.length]
 rw[hl]at h1 h4 h5
 have hn:=Zey
 exact tail_any (typeIs_str s z t) slot_str_getitem.lookup (getItem_str (c:=c) (by
  have e1:decide (i < -(2 ^ 63:Int))=false:=decide_eq_false (by omega)
  have e2:decide (i≥2 ^ 63)=false:=decide_eq_false (by omega)
  rw[e1,e2,Bool.or_false]) (by rw[h1];simpa using h2) ⟨.str ⟨#[c]⟩,H,I.tok _,⟨_,rfl⟩,q⟩) hs
def rIx(K:PySem.W.Frag):R2:=fun x y H Q=>Zps K x y H Q∨Zp4 K x y H Q∨Zq9 x y H Q
theorem Zjn(its:List Value)(n j:Nat)(u:Value):Obj.mapSeq (·.setIfInBounds j u) { cls:=.type "list",data:=.seq its.toArray n }={ cls:=.type "list",data:=.seq (its.set j u).toArray n }:=by
 simp[Obj.mapSeq]
theorem Inv.lst{pins:List (Addr×Obj)}{σ:St}{H:Hp}{s:Shared}{p:Addr}{xs:List V}(I:Inv X pins σ H s)(h:H p=some (.lst xs)) :
  ∃ (its:List Value) (n:Nat),Zv xs its∧s.heap.get? p=some { cls:=.type "list",data:=.seq its.toArray n }∧xs.length≤sizeLine:=by
 obtain⟨z,its,n,r,e⟩:=I.hok p _ h
 exact⟨its,n,r,e,z⟩
theorem Inv.lstUpd{pins:List (Addr×Obj)}{σ:St}{H:Hp}{s:Shared}{p:Addr}{xs ys:List V}{its its':List Value}{n n':Nat}{f:Obj→Obj}(I:Inv X pins σ H s)(h:H p=some (.lst xs))
  (ho:s.heap.get? p=some { cls:=.type "list",data:=.seq its.toArray n }) (hf:f { cls:=.type "list",data:=.seq its.toArray n }={ cls:=.type "list",data:=.seq its'.toArray n' }) (r:Zv ys its') (hz:ys.length≤sizeLine) (t:Nat) :
  Inv X pins σ (upd H p (.lst ys)) { s with heap:=s.heap.update p f,toks:=t }:=by
 have e:(s.heap.update p f).get? p=some { cls:=.type "list",data:=.seq its'.toArray n' }:=by
  rw[Heap.get?_update_self f ho (by rw[hf]<;>rfl),hf]
 refine I.write (x:=p) (e:=p) (by rw[h];trivial) (.inl rfl) (fun b u hb q=>(Heap.get?_update_other _ _ (Ne.symm hb)).trans q) ⟨_,e⟩ ?_
 exact⟨hz,its',n',r,e⟩
def Zro:V→V→V→Hp→(Hp→Prop)→Prop:=fun o i v H Q=>∃p xs k j,o=.ref p∧i=.int k∧H p=some (.lst xs)∧ixN xs.length k=some j∧Q (upd H p (.lst (xs.set j v)))
theorem Zir:ZpC X Zro:=by
 intro pins s σ H o i v ov iv u Q I ro ri rv h
 obtain⟨p,xs,k,j,rfl,rfl,hp,hj,q⟩:=h
 cases ro
 obtain⟨t,rfl⟩:=ri
 obtain⟨its,n,r,ho,hz⟩:=I.lst hp
 obtain⟨h1,h2,h3,h4⟩:=Zj9 hj
 have hl:=r.length
 have hn:=Zey
 have I':Inv X pins σ (upd H p (.lst (xs.set j v))) { s with heap:=s.heap.update p (Obj.mapSeq (·.setIfInBounds j u)) } :=
  I.lstUpd hp ho (Zjn its n j u) (r.set rv j) (by rw[List.length_set];exact hz) s.toks
 by_cases h0:0≤k
 ·have hk:k.toNat=j:=by
   rw[seqIndex_of h0 h4]at h1
   exact Qm h1
  exact PySem.W.ki_setAt ho h0 (by omega) (by rw[Qr,← hl];exact h4) (by rw[hk];exact⟨_,I',q⟩)
 ·have hk:(k+(its.toArray.size:Int)).toNat=j:=by
   rw[seqIndex_neg (by omega) h3]at h1
   rw[Qr,← hl]
   exact Qm h1
  exact PySem.W.ki_setBack ho (by omega) (by rw[Qr,← hl];exact h3) (by omega) (by rw[hk];exact⟨_,I',q⟩)
theorem Zg4(lo hi:Option Int)(n:Nat):(sliceBounds lo hi none n).1=((HT.sIx n 0 lo:Nat):Int)∧(sliceBounds lo hi none n).2.1=((HT.sIx n n hi:Nat):Int)∧(sliceBounds lo hi none n).2.2=1:=by
 refine⟨?_,?_,rfl⟩
 ·cases lo with
  | none=>simp[sliceBounds,HT.sIx]
  | some i =>
   simp only[sliceBounds,HT.sIx,Option.getD_none,show (1:Int)>0 by decide,if_true]
   by_cases h:i<0
   ·simp only[h,if_true]<;>omega
   ·simp only[h,if_false]<;>omega
 ·cases hi with
  | none=>simp[sliceBounds,HT.sIx]
  | some i =>
   simp only[sliceBounds,HT.sIx,Option.getD_none,show (1:Int)>0 by decide,if_true]
   by_cases h:i<0
   ·simp only[h,if_true]<;>omega
   ·simp only[h,if_false]<;>omega
theorem Zgd(its:List Value)(lo hi:Option Int):slicePick its.toArray lo hi none=((its.drop (HT.sIx its.length 0 lo)).take (HT.sIx its.length its.length hi-HT.sIx its.length 0 lo)).toArray:=by
 obtain⟨h1,h2,h3⟩:=Zg4 lo hi its.toArray.size
 unfold slicePick
 rw[h1,h2,h3]
 simp only[sliceRange_one,pick_run,List.size_toArray]<;>rfl
def Zri(K:PySem.W.Frag):V→Option Int→Option Int→Hp→VK→Prop:=fun x lo hi H Q=>∃a xs,x=.ref a∧SqL K H a xs∧∀p,H p=none→Q (.ref p) (upd H p (.lst (ZdY xs lo hi)))
theorem ZnU:SlR X (Zri X.K):=by
 intro pins s σ H x v vl vu lo hi sl Q I rx hs pl pu h
 obtain⟨a,xs,rfl,hx,q⟩:=h
 cases rx
 obtain⟨its,r,ht,hz⟩:=I.list hx
 have hlen:=r.length
 refine⟨"list",_,slot_list_getitem.lookup,ht.isList.typeIs,?_⟩
 refine wpAny_getItem_list_slice ht.isList hs pl pu .none (by simp) ?_ (by rw[Qr]<;>omega)
 rw[Zgd,← hlen]
 refine⟨.ref s.heap.objs.size,_,I.laid (t':=s.toks) (o:=.lst (ZdY xs lo hi)) (fun b ob q=>Qc _ q) (Qf _) ?_,rfl,q _ (I.hok.fresh (Qf _))⟩
 exact⟨QM (ZhB xs lo hi) hz,_,0,(r.drop (HT.sIx xs.length 0 lo)).take (HT.sIx xs.length xs.length hi-HT.sIx xs.length 0 lo),Qu _ rfl⟩
def Zed:V→Bool
 | .non=>true
 | .bl _=>true
 | .int _=>true
 | .str _=>true
 | _=>false
def eqV:V→V→Bool
 | .non,.non=>true
 | .bl a,.bl b=>a == b
 | .bl a,.int b=>(if a then 1 else 0) == b
 | .int a,.bl b=>a == (if b then 1 else 0)
 | .int a,.int b=>a == b
 | .str a,.str b=>a == b
 | _,_=>false
theorem ZpZ{A:Around}{s:Shared}{y x:V}{u v:Value}(ry:Zx y u)(rx:Zx x v)(fy:Zed y=true)(fx:Zed x=true):SeqAt.EqAt A s u v (eqV y x):=by
 cases y with
 | non =>
  cases ry
  cases x with
  | non=>cases rx;exact SeqAt.EqAt.same _
  | bl b=>cases rx;exact SeqAt.EqAt.none_bool b
  | int b=>obtain⟨t,rfl⟩:=rx;exact SeqAt.EqAt.none_int b t
  | str b=>obtain⟨t,rfl⟩:=rx;exact SeqAt.EqAt.none_str b t
  | _=>exact absurd (show false=true from fx) Qt
 | bl a =>
  cases ry
  cases x with
  | non=>cases rx;exact SeqAt.EqAt.bool_none a
  | bl b=>cases rx;exact SeqAt.EqAt.bool_bool a b
  | int b=>obtain⟨t,rfl⟩:=rx;exact SeqAt.EqAt.bool_int a b t
  | str b=>obtain⟨t,rfl⟩:=rx;exact SeqAt.EqAt.bool_str a b t
  | _=>exact absurd (show false=true from fx) Qt
 | int a =>
  obtain⟨t',rfl⟩:=ry
  cases x with
  | non=>cases rx;exact SeqAt.EqAt.int_none a t'
  | bl b=>cases rx;exact SeqAt.EqAt.int_bool a t' b
  | int b=>obtain⟨t,rfl⟩:=rx;exact SeqAt.EqAt.int_int a t' b t
  | str b=>obtain⟨t,rfl⟩:=rx;exact SeqAt.EqAt.int_str a t' b t
  | _=>exact absurd (show false=true from fx) Qt
 | str a =>
  obtain⟨t',rfl⟩:=ry
  cases x with
  | non=>cases rx;exact SeqAt.EqAt.str_none a t'
  | bl b=>cases rx;exact SeqAt.EqAt.str_bool a t' b
  | int b=>obtain⟨t,rfl⟩:=rx;exact SeqAt.EqAt.str_int a t' b t
  | str b=>obtain⟨t,rfl⟩:=rx;exact SeqAt.EqAt.str_str a t' b t
  | _=>exact absurd (show false=true from fx) Qt
 | _=>exact absurd (show false=true from fy) Qt
def eqU(x:V)(u:Value):Bool:=match u with
 | .none=>eqV .non x
 | .bool b=>eqV (.bl b) x
 | .int i _=>eqV (.int i) x
 | .str z _=>eqV (.str z) x
 | _=>false
theorem Zmq{x y:V}{u:Value}(r:Zx y u)(f:Zed y=true):eqU x u=eqV y x:=by
 cases y with
 | non=>cases r;rfl
 | bl b=>cases r;rfl
 | int i=>obtain⟨t,rfl⟩:=r;rfl
 | str z=>obtain⟨t,rfl⟩:=r;rfl
 | _=>exact absurd (show false=true from f) Qt
theorem Zg5{x:V}:∀ {xs:List V} {us:List Value},Zv xs us→xs.all Zed=true→us.any (eqU x)=xs.any fun y=>eqV y x
 | _,_,.nil,_=>rfl
 | y::xs,u::us,.cons r t,f=>by
  rw[List.all_cons,QX]at f
  rw[QaG,QaG,Zmq r f.1,Zg5 t f.2]
theorem Zfr{A:Around}{s:Shared}{x:V}{v:Value}(rx:Zx x v)(fx:Zed x=true):∀ {xs:List V} {us:List Value},Zv xs us→xs.all Zed=true→∀u∈us,SeqAt.EqAt A s u v (eqU x u)
 | _,_,.nil,_=>fun u hu=>by cases hu
 | y::xs,u::us,.cons r t,f=>fun u' hu=>by
  rw[List.all_cons,QX]at f
  rcases QO.mp hu with rfl|hu
  ·rw[Zmq r f.1];exact ZpZ r rx f.1 fx
  ·exact Zfr rx fx t f.2 u' hu
def inV(x:V)(xs:List V):Bool:=xs.any fun y=>eqV y x
def rIn(K:PySem.W.Frag)(neg:Bool):R2:=fun x y H Q=>∃p xs,y=.ref p∧(SqL K H p xs∨SqT K H p xs)∧Zed x=true∧xs.all Zed=true∧Q (.bl (if neg then !inV x xs else inV x xs)) H
theorem ZkD:OpR X (compareOp .In) (rIn X.K false):=by
 intro pins s σ H x y v u Q I rx ry h
 obtain⟨p,xs,rfl,hq,fx,fs,q⟩:=h
 cases ry
 rcases hq with hq|hq
 ·obtain⟨its,r,pl,hz⟩:=I.list hq
  refine SeqAt.in_listAt (eqU x) pl.isList (fun w hw=>Zfr rx fx r fs w (by simpa using hw)) ⟨.bl _,H,I,rfl,?_⟩
  rw[show its.toArray.any (eqU x)=its.any (eqU x) by simp,Zg5 r fs]
  exact q
 ·obtain⟨its,r,pl,hz⟩:=I.tuple hq
  refine SeqAt.in_tupleAt (eqU x) pl (fun w hw=>Zfr rx fx r fs w (by simpa using hw)) ⟨.bl _,H,I,rfl,?_⟩
  rw[show its.toArray.any (eqU x)=its.any (eqU x) by simp,Zg5 r fs]
  exact q
theorem Zhw:Z8 X (.builtin "len") (fun xs H Q=>∃p ys,xs=[.ref p]∧(SqL X.K H p ys∨SqT X.K H p ys)∧Q (.int ys.length) H):=by
 intro pins s σ H xs us Q I r h
 obtain⟨p,ys,rfl,hq,q⟩:=h
 obtain⟨u,rfl,rx⟩:=ZbB r
 cases rx
 have hn:=Zey
 rcases hq with hq|hq
 ·obtain⟨its,r',pl,hz⟩:=I.list hq
  have hlen:=r'.length
  exact Calls.call_len_list pl.isList (by simp only[List.size_toArray]<;>omega) ⟨.int ys.length,H,I.tok _,⟨s.toks+1,by rw[Qr,hlen]⟩,q⟩
 ·obtain⟨its,r',pl,hz⟩:=I.tuple hq
  have hlen:=r'.length
  exact len_tuple pl (by simp only[List.size_toArray]<;>omega) ⟨.int ys.length,H,I.tok _,⟨s.toks+1,by rw[Qr,hlen]⟩,q⟩
theorem ZaW:Z8 X (.builtin "len") (fun xs H Q=>∃z,xs=[.str z]∧z.length≤sizeLine∧Q (.int z.length) H):=by
 intro pins s σ H xs us Q I r h
 obtain⟨z,rfl,hz,q⟩:=h
 obtain⟨u,rfl,t,rfl⟩:=ZbB r
 have hn:=Zey
 exact len_str (by omega) ⟨.int z.length,H,I.tok _,⟨_,rfl⟩,q⟩
theorem Zhx:Z8 X (.type "list") (fun xs H Q=>∃p ys,xs=[.ref p]∧(SqL X.K H p ys∨SqT X.K H p ys)∧∀l,H l=none→Q (.ref l) (upd H l (.lst ys))):=by
 intro pins s σ H xs us Q I r h
 obtain⟨p,ys,rfl,hq,q⟩:=h
 obtain⟨u,rfl,rx⟩:=ZbB r
 cases rx
 have fin:∀ (its:List Value),Zv ys its→ys.length≤sizeLine→∀ (h':Heap) (c':Nat),(∀b o',s.heap.get? b=some o'→h'.get? b=some o') →
   h'.get? s.heap.objs.size=some { cls:=.type "list",dict:=none,data:=.seq its.toArray c',slots:=#[] }→EP X pins σ Q (.ref s.heap.objs.size) { s with heap:=h' }:=fun its r' hz h' c' kp e =>
  ⟨.ref s.heap.objs.size,_,I.laid (t':=s.toks) kp (Qf _) (show Zac X.prog X.w _ h' _ (.lst ys) from⟨hz,its,c',r',e⟩),rfl,q _ (I.hok.fresh (Qf _))⟩
 rcases hq with hq|hq
 ·obtain⟨its,r',pl,hz⟩:=I.list hq
  have hlen:=r'.length
  obtain⟨o,ho,hc,n,hd⟩:=pl.isList
  exact call_list_seq p (.inl rfl) ho hc hd (fun h' c' kp e=>fin its r' hz h' c' kp e) (by simp only[List.size_toArray]<;>omega)
 ·obtain⟨its,r',pl,hz⟩:=I.tuple hq
  have hlen:=r'.length
  obtain⟨o,ho,hc,n,hd⟩:=pl
  exact call_list_seq p (.inr rfl) ho hc hd (fun h' c' kp e=>fin its r' hz h' c' kp e) (by simp only[List.size_toArray]<;>omega)
theorem Zgc:Z8 X (.type "tuple") (fun xs H Q=>∃p ys,xs=[.ref p]∧((SqL X.K H p ys∧∀l,H l=none→Q (.ref l) (upd H l (.tup ys)))∨(SqT X.K H p ys∧Q (.ref p) H))):=by
 intro pins s σ H xs us Q I r h
 obtain⟨p,ys,rfl,h⟩:=h
 obtain⟨u,rfl,rx⟩:=ZbB r
 cases rx
 rcases h with⟨hq,q⟩|⟨hq,q⟩
 ·obtain⟨its,r',pl,hz⟩:=I.list hq
  have hlen:=r'.length
  refine call_tuple_list pl.isList (fun h' kp=>?_) (by simp only[List.size_toArray]<;>omega)
  have I1:Inv X pins σ H { s with heap:=h' }:=I.kept (t':=s.toks) kp
  have I2:Inv X pins σ (upd H h'.objs.size (.tup ys)) { s with heap:=h'.push { cls:=.type "tuple",data:=.seq its.toArray } } :=
   I1.laid (t':=s.toks) (fun b o e=>Qc _ e) (Qf _) (show Zac X.prog X.w _ _ _ (.tup ys) from⟨hz,its,r',IsTup.new _ _⟩)
  exact⟨.ref h'.objs.size,_,I2,rfl,q _ (I1.hok.fresh (Qf _))⟩
 ·obtain⟨its,r',pl,hz⟩:=I.tuple hq
  exact call_tuple_same pl ⟨.ref p,H,I,rfl,q⟩
def tyV(K:PySem.W.Frag)(T:String)(x:V)(H:Hp):Prop:=match x with
 | .str _=>T = "str"
 | .int _=>T = "int"
 | .ref p=>(T = "list"∧∃xs,SqL K H p xs)∨(T = "tuple"∧∃o,K.lookup p=some o∧o.cls=.type "tuple"∧o.dict=none) ∨
   (T = "dict"∧((∃kvs,H p=some (.dK kvs))∨∃kvs,H p=some (.dT kvs)))∨(T = "set"∧∃S n,H p=some (.set S n))
 | _=>False
theorem ZlQ{pins:List (Addr×Obj)}{σ:St}{H:Hp}{s:Shared}{T:String}{x:V}{v:Value}(I:Inv X pins σ H s)(r:Zx x v)(ty:tyV X.K T x H) :
  s.TypeIs v T∧∀a,v=.ref a→∃ob,s.heap.get? a=some ob∧ob.dict=none:=by
 cases x with
 | str z =>
  obtain⟨t,rfl⟩:=r
  cases (show T = "str" from ty)
  exact⟨typeIs_str s z t,fun _ e=>nomatch e⟩
 | int i =>
  obtain⟨t,rfl⟩:=r
  cases (show T = "int" from ty)
  exact⟨typeIs_int s i t,fun _ e=>nomatch e⟩
 | ref p =>
  cases r
  rcases ty with⟨rfl,xs,hq⟩|⟨rfl,o,hk,hc,hd⟩|⟨rfl,hk⟩|⟨rfl,S,n,hk⟩
  ·obtain⟨its,_,pl,_⟩:=I.list hq
   refine⟨pl.isList.typeIs,fun a e=>?_⟩
   cases e
   obtain⟨o,n,e,c,hd,_⟩:=pl
   exact⟨o,e,hd⟩
  ·refine⟨⟨o,I.kIn p o hk,hc⟩,fun a e=>?_⟩
   cases e
   exact⟨o,I.kIn _ o hk,hd⟩
  ·have z:∃o,s.heap.get? p=some o∧o.ExactDict:=by
    rcases hk with⟨kvs,hk⟩|⟨kvs,hk⟩
    ·obtain⟨_,_,_,_,o,_,_,e,ex,_⟩:=I.hok p _ hk
     exact⟨o,e,ex⟩
    ·obtain⟨_,_,_,_,o,_,_,e,ex,_⟩:=I.hok p _ hk
     exact⟨o,e,ex⟩
   obtain⟨o,e,ex⟩:=z
   refine⟨⟨o,e,ex.1⟩,fun a e2=>?_⟩
   cases e2
   exact⟨o,e,ex.2.1⟩
  ·obtain⟨o,_,_,_,e,ex,_⟩:=I.hok p _ hk
   refine⟨⟨o,e,ex.1⟩,fun a e2=>?_⟩
   cases e2
   exact⟨o,e,ex.2.1⟩
 | _=>exact False.elim ty
def Zr5(K:PySem.W.Frag)(T:String)(r:V→List V→Hp→VK→Prop)(to:TE):TE:=fun σ H Q=>to σ H fun x H1=>tyV K T x H1∧r x [] H1 Q
def tBM(K:PySem.W.Frag)(T:String)(r:V→List V→Hp→VK→Prop)(to:TE)(t:TA):TE:=fun σ H Q=>to σ H fun x H1=>tyV K T x H1∧t σ H1 fun xs H2=>r x xs H2 Q
variable {o e:Expr} {es:List Expr} {to:TE} {t:TA} {name:Str} {apos cpos:Pos} {T id:String} {r:V→List V→Hp→VK→Prop}
theorem Zns(pa:PlainAttrs T)(slot:Slot T name id)(hty:typeOf (.builtin id)=pure (.type "method_descriptor"))(hm:MtR X id r)(ho:PE X o to)
  (hbase:attributeBase o name X.env (eval o X.env)=eval o X.env:=by rfl) (hline:(apos.endLine == cpos.line)=true:=by rfl):PE X (.Call (.Attribute o name apos) [] [] cpos) (Zr5 X.K T r to):=by
 intro pins s σ H Q I h
 refine wpAny_Call_method0_late hbase hline (thn (ho pins s σ H _ I h) ?_)
 rintro v s1 ⟨x,H1,I1,r1,ty,q1⟩
 obtain⟨h1,h2⟩:=ZlQ I1 r1 ty
 exact⟨T,id,pa,slot,hty,h1,h2,Calls.callWith_builtin rfl (PySem.evalArgs_none (hm pins s1 σ H1 x [] v [] Q I1 r1 .nil q1))⟩
theorem ZbK(pa:PlainAttrs T)(slot:Slot T name id)(hty:typeOf (.builtin id)=pure (.type "method_descriptor"))(hm:MtR X id r)(ho:PE X o to)(ha:PA X (e::es) t)
  (hbase:attributeBase o name X.env (eval o X.env)=eval o X.env:=by rfl)
  (hfew:((backTo cpos (starEach (e::es) X.env)).all (fun x=>!x.1)&&(backToKw cpos (keywordEach [] X.env)).all (fun x=>x.1.isSome)
   && decide ((e::es).length+([]:List Keyword).length+(if ([]:List Keyword).isEmpty then 0 else 1)<30))=true:=by rfl)
  (hline:(apos.endLine == cpos.line)=true:=by rfl) (hs:starEach (e::es) X.env=(false,eval e X.env)::starEach es X.env:=by rfl) (hplain:(backTo cpos (starEach es X.env)).any (·.1)=false:=by rfl) :
  PE X (.Call (.Attribute o name apos) (e::es) [] cpos) (tBM X.K T r to t):=by
 intro pins s σ H Q I h
 refine wpAny_Call_method_late hbase hfew hline rfl (thn (ho pins s σ H _ I h) ?_)
 rintro v s1 ⟨x,H1,I1,r1,ty,q1⟩
 obtain⟨h1,h2⟩:=ZlQ I1 r1 ty
 refine⟨T,id,pa,slot,hty,h1,h2,?_⟩
 have hA:=ha cpos pins s1 σ H1 _ I1 q1
 rw[hs]at hA ⊢
 refine Calls.callWith_builtin (by show (false||(backTo cpos (starEach es X.env)).any (·.1))=false;rw[hplain]<;>rfl) (Calls.evalArgs_plain ?_)
 exact thn hA fun us s2 ⟨vs,H2,I2,r2,q2⟩=>hm pins s2 σ H2 x vs v us Q I2 r1 r2 q2
end
def MtM(X:Cx)(id:String)(r:V→List V→Hp→VK→Prop):Prop :=
 ∀ (pins:List (Addr×Obj)) (s:Shared) (σ:St) (H:Hp) (x:V) (xs:List V) (v:Value) (us:List Value) (Q:VK),Inv X pins σ H s→Zx x v→Zv xs us→r x xs H Q →
  wpAny (model X.prog X.w) X.A (call (.builtin id) (v::us)) (EP X pins σ Q) X.xe s
theorem Zv.one:∀ {x:V} {us:List Value},Zv [x] us→∃u,us=[u]∧Zx x u
 | _,_,.cons r .nil=>⟨_,rfl,r⟩
theorem Zv.two:∀ {x y:V} {us:List Value},Zv [x,y] us→∃u v,us=[u,v]∧Zx x u∧Zx y v
 | _,_,_,.cons r (.cons q .nil)=>⟨_,_,rfl,r,q⟩
theorem Zv.zero:∀ {us:List Value},Zv [] us→us=[]
 | _,.nil=>rfl
theorem Zv.eraseIdx:∀ {xs:List V} {us:List Value} (i:Nat),Zv xs us→Zv (xs.eraseIdx i) (us.eraseIdx i)
 | _,_,_,.nil=>.nil
 | _,_,0,.cons _ t=>t
 | _,_,i+1,.cons r t=>.cons r (Zv.eraseIdx i t)
theorem Zv.reverse{xs:List V}{us:List Value}(h:Zv xs us):Zv xs.reverse us.reverse:=by
 induction h with
 | nil=>exact .nil
 | cons r t ih=>rw[Qaw,Qaw];exact Zv.append ih (.cons r .nil)
theorem ZgF{α:Type}:∀ (l:List α) (i:Nat),(l.eraseIdx i).length≤l.length
 | [],_=>Qf _
 | _::_,0=>Qao _
 | _::r,i+1=>QaB (ZgF r i)
section
variable {X:Cx} {pins:List (Addr×Obj)} {σ:St} {H:Hp} {s:Shared} {l b:Addr} {xs ys zs:List V}
theorem Inv.lset{its its':List Value}{n:Nat}{f:Array Value→Array Value}{t':Nat}(I:Inv X pins σ H s)(hH:H l=some (.lst xs))
  (e:s.heap.get? l=some { cls:=.type "list",data:=.seq its.toArray n }) (hf:f its.toArray=its'.toArray) (hv:Zv ys its') (hz:ys.length≤sizeLine) :
  Inv X pins σ (upd H l (.lst ys)) { s with heap:=s.heap.update l (Obj.mapSeq f),toks:=t' }:=by
 have q:=PySem.IsL.update e f
 rw[hf]at q
 refine I.write (x:=l) (e:=l) (by rw[hH];exact trivial) (.inl rfl) (fun b' u hb hu=>(Heap.get?_update_other s.heap (Obj.mapSeq f) (Ne.symm hb)).trans hu) ⟨_,q⟩ ?_
 exact⟨hz,its',_,hv,q⟩
theorem Inv.lnew{its:List Value}{t':Nat}(I:Inv X pins σ H s)(hv:Zv ys its)(hz:ys.length≤sizeLine) :
  Inv X pins σ (upd H s.heap.objs.size (.lst ys)) { s with heap:=s.heap.push { cls:=.type "list",data:=.seq its.toArray },toks:=t' } :=
 I.laid (fun _ _ q=>Qc _ q) (Qf _) ⟨hz,its,0,hv,Qu _ rfl⟩
theorem Inv.fresh(I:Inv X pins σ H s):H s.heap.objs.size=none:=I.hok.fresh (Qf _)
theorem Inv.lstM(I:Inv X pins σ H s)(hH:H l=some (.lst xs)):xs.length≤sizeLine∧∃ (its:List Value) (n:Nat),Zv xs its∧xs.length=its.length∧s.heap.get? l=some { cls:=.type "list",data:=.seq its.toArray n }:=by
 obtain⟨z,its,n,r,e⟩:=I.hok l _ hH
 exact⟨z,its,n,r,r.length,e⟩
theorem Zh6{n:Nat}(h:n≤sizeLine):Builtin.List.listTooLong n=false:=by
 unfold Builtin.List.listTooLong
 exact decide_eq_false (by omega)
end
section
variable {X:Cx}
def ZnW:V→List V→Hp→VK→Prop:=fun x vs H Q=>∃l xs y,x=.ref l∧vs=[y]∧H l=some (.lst xs)∧xs.length<sizeLine∧Q .non (upd H l (.lst (xs++[y])))
theorem Zaj:MtM X "list.append" ZnW:=by
 intro pins s σ H x vs v us Q I rx rv h
 obtain⟨l,xs,y,rfl,rfl,hH,hz,q⟩:=h
 cases rx
 obtain⟨u,rfl,ru⟩:=rv.one
 obtain⟨z,its,n,r,hl,e⟩:=I.lstM hH
 refine call_meets F.slot_list_append ⟨_,e,rfl⟩ F.entry_list_append (F.args_list_append_2 _ _) (PySem.list_append l its.toArray n u (by rw[Qr];omega)) ⟨e,?_⟩
 refine⟨.non,_,I.lset (its':=its++[u]) hH e (by simp) (r.append (.cons ru .nil)) ?_,rfl,q⟩
 rw[Qg,Ql]
 omega
def rExtend:V→List V→Hp→VK→Prop:=fun x vs H Q=>∃l b xs zs,x=.ref l∧vs=[.ref b]∧H l=some (.lst xs)∧H b=some (.lst zs)∧xs.length+zs.length≤sizeLine∧Q .non (upd H l (.lst (xs++zs)))
def rPop:V→List V→Hp→VK→Prop:=fun x vs H Q=>∃l xs y,x=.ref l∧vs=[]∧H l=some (.lst xs)∧xs[xs.length-1]? = some y∧Q y (upd H l (.lst xs.dropLast))
def Zpm:V→List V→Hp→VK→Prop:=fun x vs H Q=>∃l xs i k y,x=.ref l∧vs=[.int i]∧H l=some (.lst xs) ∧ -(2 ^ 63)≤i∧i<2 ^ 63∧seqIndex? i xs.length=some k∧xs[k]? = some y∧Q y (upd H l (.lst (xs.eraseIdx k)))
theorem Zie:MtM X "list.pop" Zpm:=by
 intro pins s σ H x vs v us Q I rx rv h
 obtain⟨l,xs,i,k,y,rfl,rfl,hH,h1,h2,hk,hy,q⟩:=h
 cases rx
 obtain⟨u,rfl,ru⟩:=rv.one
 obtain⟨t,rfl⟩:=ru
 obtain⟨z,its,n,r,hl,e⟩:=I.lstM hH
 obtain⟨w,hw,rw'⟩:=r.get hy
 refine call_meets F.slot_list_pop ⟨_,e,rfl⟩ F.entry_list_pop (F.args_list_pop_2 _ _)
  (MeetsSeq.list_pop_at l its.toArray n i t k w (fitsIndex_both h1 h2) (by rw[Qr,← hl];exact hk) (by rw[← Array.getElem?_toList];exact hw) (by rw[Qr];omega)) ⟨e,?_⟩
 refine⟨y,_,I.lset (its':=its.eraseIdx k) hH e ?_ (r.eraseIdx k) ?_,rw',q⟩
 ·show its.toArray.eraseIdxIfInBounds k=(its.eraseIdx k).toArray
  rw[Qaq]
 ·have:=ZgF xs k
  omega
def Zmo:V→List V→Hp→VK→Prop:=fun x vs H Q=>∃l xs,x=.ref l∧vs=[]∧H l=some (.lst xs)∧Q .non (upd H l (.lst xs.reverse))
theorem Zfe:MtM X "list.reverse" Zmo:=by
 intro pins s σ H x vs v us Q I rx rv h
 obtain⟨l,xs,rfl,rfl,hH,q⟩:=h
 cases rx
 have hus:=rv.zero
 subst hus
 obtain⟨z,its,n,r,hl,e⟩:=I.lstM hH
 refine call_meets F.slot_list_reverse ⟨_,e,rfl⟩ F.entry_list_reverse (F.args_list_reverse_1 _) (AutoSeq1.list_reverse_list_0 l its.toArray n (by rw[Qr];omega)) ⟨e,?_⟩
 refine⟨.non,_,I.lset (its':=its.reverse) hH e (by simp) r.reverse ?_,rfl,q⟩
 rw[List.length_reverse]
 omega
def rClear:V→List V→Hp→VK→Prop:=fun x vs H Q=>∃l xs,x=.ref l∧vs=[]∧H l=some (.lst xs)∧Q .non (upd H l (.lst []))
def ZsH:R2:=fun x y H Q=>∃l b xs zs,x=.ref l∧y=.ref b∧H l=some (.lst xs)∧H b=some (.lst zs)∧xs.length+zs.length≤sizeLine∧∀p,H p=none→Q (.ref p) (upd H p (.lst (xs++zs)))
theorem Zpi:OpR X (binaryOp .Add) ZsH:=by
 intro pins s σ H x y v u Q I rx ry h
 obtain⟨l,b,xs,zs,rfl,rfl,hH,hB,hz,q⟩:=h
 cases rx
 cases ry
 obtain⟨z,its,n,r,hl,e⟩:=I.lstM hH
 obtain⟨z2,its2,n2,r2,hl2,e2⟩:=I.lstM hB
 refine PySem.P.add_list e e2 ?_ (by rw[Qr,Qr];omega)
 have ea:its.toArray++its2.toArray=(its++its2).toArray:=by simp
 rw[ea]
 exact⟨.ref _,_,I.lnew (t':=s.toks) (r.append r2) (by rw[Qg];omega),rfl,q _ I.fresh⟩
def rRep:R2:=fun x y H Q=>∃l k xs,x=.ref l∧y=.int k∧H l=some (.lst xs) ∧ -(2 ^ 63)≤k∧k<2 ^ 63∧xs.length*k.toNat≤sizeLine ∧
 ∀p,H p=none→Q (.ref p) (upd H p (.lst (List.replicate k.toNat xs).flatten))
end
section
variable {prog:Program} {w:World} {A:Around} {E:Value→Shared→Prop} {s:Shared}
theorem ZkP(its its2:List Value)(a c:Nat):its.toArray.extract 0 a++its2.toArray++its.toArray.extract c its.toArray.size=(its.take a++its2++its.drop c).toArray:=by
 apply Array.toList_inj.mp
 first
  | (simp;exact Qw (by simp))
  | simp[List.take_of_length_le]
  | simp
theorem ZiQ{a c n:Nat}(hac:a≤c)(hc:c≤n):sliceBounds (some (a:Int)) (some (c:Int)) none n=((a:Int),(c:Int),1):=by
 simp only[sliceBounds,Option.getD_none]
 have h1:¬ ((a:Int)<0):=by omega
 have h2:¬ ((c:Int)<0):=by omega
 simp only[h1,h2,if_false,show (1:Int)>0 by decide,if_true]
 congr 1
 ·omega
 ·congr 1;omega
theorem Zf0{l b sl:Addr}{items new:Array Value}{n n2:Nat}{vl vu:Value}{a c:Nat}{Q:Unit→Shared→Prop}
  (e:s.heap.get? l=some { cls:=.type "list",data:=.seq items n }) (e2:s.heap.get? b=some { cls:=.type "list",data:=.seq new n2 }) (hne:l≠b)
  (hs:s.heap.IsSliceOf sl vl vu .none) (pl:IsPart vl (some (a:Int))) (pu:IsPart vu (some (c:Int))) (hac:a≤c) (hc:c≤items.size)
  (hsz:items.size+new.size≤sizeLine) (h:Q () { s with heap:=s.heap.update l (Obj.mapSeq fun xs=>xs.extract 0 a++new++xs.extract c xs.size) }) :
  wpAny (model prog w) A (setItem (.ref l) (.ref sl) (.ref b)) Q E s:=by
 have hl:s.heap.IsList l items:=PySem.IsL.isList e
 have hb:s.heap.IsList b new:=PySem.IsL.isList e2
 obtain⟨os,hos,hcs,hds⟩:=id hs
 have hTs:s.TypeIs (.ref sl) "slice":=⟨os,hos,hcs⟩
 have hstep:¬ ((rawPart none == rawInt 0)=true):=Qt
 have hsame:Builtin.List.listSameRef (.ref l) (.ref b)=false:=by
  unfold Builtin.List.listSameRef
  exact beq_eq_false_iff_ne.mpr hne
 have hmax:(max (a:Int) (c:Int)).toNat=c:=by omega
 have hz':((fun xs:Array Value=>xs.extract 0 a++new++xs.extract c xs.size) items).size≤sizeLine+1:=by
  simp only[Array.size_append,Array.size_extract]
  omega
 unfold setItem
 try with_reducible refine wpAny_holding ?_
 first|refine wpAny_bind (wpAny_pure ?_)|skip
 refine wpAny_bind (wpAny_sequenceKey hl.typeIs (by decide) ?_)
 refine wpAny_bind (wpAny_callSpecial?_slot (name:=Str.ofString "__setitem__") hl.typeIs slot_list_setitem
  (wpAny_call_entry slot_list_setitem hl.typeIs entry_list_setitem ?_ (args_list_setitem _ _ _)))
 show wpAny _ _ (Builtin.List.listSubscript? (.ref sl) >>= _) _ _ s
 refine wpAny_bind ?_
 unfold Builtin.List.listSubscript?
 refine wpAny_bind (wpAny_specialOf hTs slice_no_index ?_)
 simp only[Option.isNone_none,if_true]
 refine wpAny_pure ?_
 show wpAny _ _ (typeOf (.ref sl) >>= _) _ _ s
 refine wpAny_bind (wpAny_typeOf hTs ?_)
 first
  | rw[if_neg (by decide)]
  | refine PySem.W.KFB.if_not (by decide) ?_
 rw[listSliceParts_eq]
 refine wpAny_bind (wpAny_bind (wpAny_field hos hds (x:=.none) rfl (wpAny_bind (wpAny_listPart .none ?_))))
 rw[if_neg hstep]
 refine wpAny_bind (wpAny_field hos hds (x:=vl) rfl (wpAny_bind (wpAny_listPart pl ?_)))
 refine wpAny_bind (wpAny_field hos hds (x:=vu) rfl (wpAny_bind (wpAny_listPart pu (wpAny_pure ?_))))
 first
  | simp only[hsame,Bool.false_eq_true,if_false]
  | refine PySem.W.KFB.if_not hsame ?_
  | (dsimp only;rw[if_neg (by rw[hsame];exact Qt)])
 refine wpAny_bind (m:=Builtin.List.listAllItems (.ref b) "must assign iterable to extended slice") ?_
 unfold Builtin.List.listAllItems
 refine wpAny_bind (wpAny_typeOf hb.typeIs ?_)
 first
  | refine PySem.W.KFB.if_so (by decide) ?_
  | rw[if_pos (by decide)]
  | simp only[beq_self_eq_true,Bool.true_or,if_true]
 unfold Builtin.List.listItems
 refine wpAny_bind (wpAny_seqItems e2 rfl (wpAny_pure ?_))
 refine wpAny_bind (wpAny_bind (wpAny_seqItems e rfl (wpAny_pure ?_)))
 refine wpAny_bind (wpAny_of_eq ((sliceIndices_raw (some (a:Int)) (some (c:Int)) none items.size (by simp)).trans (congrArg (pure:Int×Int×Int→Sem (Int×Int×Int)) (ZiQ hac hc))) ?_)
 show wpAny _ _ (if ((1:Int) == 1)=true then _ else _) _ _ s
 rw[if_pos (by decide)]
 refine wpAny_bind (wpAny_rule ?_)
 first
  | simp only[Zh6 hsz,Bool.false_eq_true,if_false]
  | refine PySem.W.KFB.if_not (Zh6 hsz) ?_
 first|refine wpAny_bind (wpAny_pure ?_)|skip
 show wpAny _ _ (updateSeq l (fun xs=>xs.extract 0 ((a:Int)).toNat++new++xs.extract (max (a:Int) (c:Int)).toNat xs.size) >>= _) _ _ s
 rw[hmax,Qaf]
 refine wpAny_bind (wpAny_updateSeq (hz:=QM (Qar _ _) hsz) (_hz':=hz') e rfl ?_)
 refine wpAny_bind (wpAny_letGo ?_)
 first
  | exact wpAny_bind (wpAny_pure (wpAny_pure ⟨.none,rfl,wpAny_pure h⟩))
  | exact wpAny_pure ⟨.none,rfl,wpAny_pure h⟩
end
section
variable {X:Cx}
theorem ZkC{pins:List (Addr×Obj)}{s:Shared}{σ:St}{H:Hp}{l b sl:Addr}{xs ys:List V}{a c:Int}{vl vu:Value}{Q:Unit→Shared→Prop}(I:Inv X pins σ H s)
  (hH:H l=some (.lst xs)) (hB:H b=some (.lst ys)) (hne:l≠b) (hs:s.heap.IsSliceOf sl vl vu .none) (ra:Zx (.int a) vl) (rc:Zx (.int c) vu) (h0:0≤a) (hac:a≤c) (hc:c≤xs.length)
  (hz:xs.length+ys.length≤sizeLine) (h:∀s',Inv X pins σ (upd H l (.lst (xs.take a.toNat++ys++xs.drop c.toNat))) s'→Q () s') :
  wpAny (model X.prog X.w) X.A (setItem (.ref l) (.ref sl) (.ref b)) Q X.xe s:=by
 obtain⟨ta,rfl⟩:=ra
 obtain⟨tc,rfl⟩:=rc
 obtain⟨z,its,n,r,hl,e⟩:=I.lstM hH
 obtain⟨z2,its2,n2,r2,hl2,e2⟩:=I.lstM hB
 obtain⟨a',rfl⟩:=Int.eq_ofNat_of_zero_le h0
 obtain⟨c',rfl⟩:=Int.eq_ofNat_of_zero_le (Int.le_trans h0 hac)
 simp only[Int.toNat_natCast]at h
 refine Zf0 (a:=a') (c:=c') e e2 hne hs (.int _ _) (.int _ _) (by omega) (by rw[Qr];omega) (by rw[Qr,Qr];omega) (h _ ?_)
 refine I.lset (its':=its.take a'++its2++its.drop c') (t':=s.toks) hH e ?_ (Zv.append (Zv.append (r.take _) r2) (r.drop _)) ?_
 ·exact ZkP its its2 a' c'
 ·rw[Qg,Qg,Qy,QP]
  omega
end
end L2
namespace Att
open PySem PySem.W PySem.Calls PyProof.Rows
theorem ZeX{P:Params}{h:Heap}:∀ (ns:List Int) (vs:List Value),WellAll P h vs (ns.map WData.int)→IntsAre vs ns:=by
 intro ns
 induction ns with
 | nil =>
  intro vs w
  rw[Qat]at w
  cases w
  exact .nil
 | cons n ns ih =>
  intro vs w
  rw[Qh]at w
  cases w with
  | cons a b =>
   cases a
   exact .cons _ _ (ih _ b)
theorem Zk5{l:OpenLaw}{n:Nat}(hn:l.most=some n){P:Params}{h:Heap}{args:List WData}{vals:List Value}
  (hpre:l.row.toRowW.claim.pre args=true) (hwl:WellAll P h vals args) :
  ∃a vs ns,vals=[Value.ref a]∧args=[WData.list (ns.map WData.int)]∧h.get? a=some { cls:=.type "list",data:=.seq vs.toArray }∧IntsAre vs ns∧ns.length≤n:=by
 have hsh:WShape.hasAll [] args [.list .int]=true:=(pre_splitW hpre).1
 have hc:l.pre.holds [] { args:=args }=true:=(pre_splitW hpre).2
 obtain⟨d,r,rfl,h1,h2⟩:=hasAllW_cons hsh
 obtain rfl:=hasAllW_nil h2
 obtain⟨xs,rfl,h3⟩:=hasW_list h1
 obtain⟨ns,rfl⟩:=items_int h3
 have hlen:ns.length≤n:=by
  unfold OpenLaw.pre at hc
  have h4:(WTm.not (.lt (.lit (.int (n:Int))) (.len (.arg 0)))).holds [] { args:=[.list (ns.map .int)] }=true:=by
   have h4:=(holds_andW hc).1
   rw[hn]at h4
   exact h4
  have h5:=condW_of h4 (w_not (w_lt w_lit (w_len_list (w_arg rfl))))
  rw[Qb]at h5
  refine Nat.le_of_not_lt fun q=>?_
  have q':(n:Int)<((ns.length:Nat):Int):=by omega
  first
   | (rw[decide_eq_true q']at h5;exact absurd h5 (by decide))
   | (simp at h5;omega)
 cases hwl with
 | cons w1 w2 =>
  cases w2
  cases w1 with
  | list ho hall=>exact⟨_,_,ns,rfl,rfl,ho,ZeX ns _ hall,hlen⟩
theorem Zlo(l:OpenLaw)(args:List WData):l.row.toRowW.claim.post args (.bool true) args=true :=
 postW_of (r:=l.row.toRowW) (X:=(true == true))
  (show WShape.has [] (.bool true) .bool=true by first|rfl|decide|simp[WShape.has,WShape.arms,WShape.armsAll])
  (show (WTm.eq .res (.lit (.bool true))).value [] { args:=args,res:=some (.bool true),after:=args }=some (.bool (true == true)) from w_eq_bool (w_res rfl) w_lit) rfl
theorem attach_call{l:OpenLaw}{n:Nat}{q:Program}{loose:List Str}{XP:(Str→Option Value)→Heap→Prop}{YP:World→Heap→Prop}{d:DefRec}
  (hn:l.most=some n) (hdf:d.params.defaults=[])
  (call:∀ (w:World) (s₀ s₁:Shared) (mg mb:Str→Option Value) (fa:Addr) (o:Obj) (pm cd doc:Value) (a:Addr) (vs:List Value) (ns:List Int),
   Ground q loose [] XP w s₀ mg mb s₁.heap→YP w s₁.heap →
   s₁.heap.get? fa=some o→o.data=.func (docDef d.name d.params d.body d.scope pm cd doc)→s₁.heap.CodeRec cd d.name→mg d.name=some (.ref fa) →
   s₁.heap.get? a=some { cls:=.type "list",data:=.seq vs.toArray }→IntsAre vs ns→ns.length≤n→s₁.gens = #[] →
   codeAny (model l.prog w) callerA (.call (.ref fa) ⟨[.ref a],[]⟩) (fun r s'=>r=.ok (.ret (.bool true))∧OldK s₁.heap s'.heap∧s'.os=s₁.os∧AllBare s'.gens) s₁) :
  WalkO q loose XP YP l.row.toRowW d [] (fun f vs=>PySem.call f vs):=by
 intro w s₀ s₁ mg mb G Y fa o pm cd doc dV kV ho hd hcd hD hmg hg args vals as hpre hlay hrd hwl hlo
 obtain rfl:dV=.none:=Dflts.none hD hdf
 obtain rfl:kV=.none:=Dflts.noKw hD
 obtain⟨a,vs,ns,rfl,rfl,hobj,hints,hlen⟩:=Zk5 hn hpre hwl
 refine enter_call (codeAny_mono (call w s₀ s₁ mg mb fa o pm cd doc a vs ns G Y ho (fd_plain hd) hcd hmg hobj hints hlen hg) fun r s' hq=>?_)
 obtain⟨rfl,h2,h3,h4⟩:=hq
 exact⟨.inl ⟨.bool true,.bool true,[],rfl,fun _=>rfl,.bool true,Zlo l _,fun _=>⟨List.Pairwise.nil,fun _ hm=>(nomatch hm)⟩⟩,h2,h3,h4⟩
section
variable {prog:Program} {w:World} {A:Around} {E:Value→Shared→Prop} {s:Shared} {K:Frag}
def noObjs(h:Heap):Heap:={ h with objs:=#[] }
def ledger(h:Heap)(L d:Addr):List (Addr×Obj):=(List.range h.objs.size).filterMap fun a=>if a=L∨a=d then none else (h.get? a).map fun o=>(a,o)
end
end Att
namespace L2
open PySem PySem.Spec PyProof.Rows
theorem Zgo:∀ {vs:List Value} {ns:List Int},IntsAre vs ns→Zv (ns.map V.int) vs
 | _,_,.nil=>.nil
 | _,_,.cons n t h=>.cons ⟨t,rfl⟩ (Zgo h)
def Zp5(H:Hp):Prop:=∀b,H b=none∨∃o xs,H b=some (.frz o (.lst xs))
theorem ZmP{P:Program}{w:World}{K:PySem.W.Frag}{mg mb:Str→Option Value}{CX:CXT}{k:Nat}{fa a:Addr}{fd:FuncData}{x:Str}{sp:Sp}{s₁:Shared}{vs:List Value}{ns:List Int}
  (KX:K.In s₁.heap) (hns:s₁.heap.Ns mainGlobals mg) (hb:s₁.heap.Ns builtinsNs mb) (hbb:∀x:Str,x ≠ "__name__"→mb x=bootBuiltins x) (hlim:s₁.heap.NoLimit) (hg:s₁.gens = #[])
  (ha:s₁.heap.get? a=some { cls:=.type "list",data:=.seq vs.toArray }) (hi:IntsAre vs ns) (hl:ns.length≤sizeLine) (hr:ZaJ k callerA)
  (F:∀base:Heap,K.In base→base.Ns mainGlobals mg→ZdC P w K mg base CX k fa fd [x] sp) (hbind:∀ (s:Shared) (u:Value),BindsTo s fd ⟨[u],[]⟩ [(x,u)])
  (hsp:∀H:Hp,Zp5 H→SqL K H a (ns.map V.int)→sp [.ref a] H (fun v _=>v=.bl true) fun _ _ _=>False)
  (hCX:∀H e s',CX [] H s₁ (fun _ _ _=>False) e s'→False) :
  codeAny (model P w) callerA (.call (.ref fa) ⟨[.ref a],[]⟩) (fun r s'=>r=.ok (.ret (.bool true))∧OldK s₁.heap s'.heap∧s'.os=s₁.os∧AllBare s'.gens) s₁:=by
 have rv:=Zgo hi
 have lenV:=hi.length
 have core:∀H:Hp,Zp5 H→SqL K H a (ns.map V.int)→HOk P w H s₁.heap→(∀b,H b≠none→b=a)→(H a≠none→K.lookup a=none) →
   codeAny (model P w) callerA (.call (.ref fa) ⟨[.ref a],[]⟩) (fun r s'=>r=.ok (.ret (.bool true))∧OldK s₁.heap s'.heap∧s'.os=s₁.os∧AllBare s'.gens) s₁:=by
  intro H hO hS hok hA hK
  have base_of:∀ {b:Addr} {o:Obj},s₁.heap.get? b=some o→H b=none→(Zhb s₁.heap H).get? b=some o:=fun e n=>Znc e n
  have noA:∀ {b:Addr} {o:Obj} {es:Array DictEntry} {ep:Nat},s₁.heap.get? b=some o→o.data=.dict es ep→H b=none:=fun {b o es ep} e d=>by
   cases q:H b with
   | none=>rfl
   | some u =>
    have e':b=a:=hA b (by rw[q];simp)
    subst e'
    rw[ha]at e;cases e
    have d':Data.seq vs.toArray _=Data.dict es ep:=d
    cases d'
  have nsK:∀ {b:Addr} {m:Str→Option Value},s₁.heap.Ns b m→(Zhb s₁.heap H).Ns b m:=fun {b m} ⟨o,es,ep,e,d,r⟩=>⟨o,es,ep,base_of e (noA e d),d,r⟩
  have hKb:K.In (Zhb s₁.heap H):=fun b o e=>base_of (KX b o e) (by
   cases q:H b with
   | none=>rfl
   | some u =>
    have e':b=a:=hA b (by rw[q];simp)
    subst e'
    rw[hK (by rw[q];simp)]at e;cases e)
  have hM:Mod K mg (Zhb s₁.heap H):=⟨hKb,nsK hns,⟨mb,nsK hb,hbb⟩,let ⟨mc,h1,h2⟩:=hlim;⟨mc,nsK h1,h2⟩⟩
  have e0:ZiO P w K mg (Zhb s₁.heap H) callerA [] s₁ H:=⟨rfl,hM,fun b o e=>ZnP e,Nat.le_of_eq (Zku _ _),trivial,fun b hb=>absurd (show b∈([]:List Addr) from hb) (by simp),hok,.of_eq hg⟩
  refine codeAny_mono ((F _ hKb (nsK hns)).run callerA [] s₁ H ⟨[.ref a],[]⟩ [.ref a] [.ref a] _ _ hr e0 (hbind s₁ (.ref a)) (.cons rfl .nil) (hsp H hO hS)) fun r s' h=>?_
  cases r with
  | error e=>exact(hCX H e s' h).elim
  | ok fl =>
   cases fl with
   | next=>exact False.elim h
   | brk=>exact False.elim h
   | cont=>exact False.elim h
   | ret u =>
    obtain⟨v,H',os,bare,un,hok',r',q⟩:=h
    have q':v=.bl true:=q
    subst q'
    obtain rfl:u=Value.bool true:=r'
    refine⟨rfl,OldK.of_keep fun b o e=>?_,os,bare⟩
    cases q:H b with
    | none=>exact un.keep b o e q (by intro z;exact absurd (show b∈([]:List Addr) from z) (by simp)) (by simp)
    | some u =>
     rcases hO b with z|⟨ob,xs,z⟩
     ·rw[q]at z;cases z
     ·have z2:=un.frzs b ob _ z
      obtain⟨e1,_⟩:=hok b _ z
      obtain⟨e2,_⟩:=hok' b _ z2
      rw[e]at e1;cases e1
      exact e2
 cases hk:K.lookup a with
 | some o =>
  have e:=KX a o hk
  rw[ha]at e
  cases e
  refine core (fun _=>none) (fun _=>.inl rfl) (.inr ⟨_,vs.toArray,_,hk,rfl,rfl,rfl,by rw[Qr,lenV];exact hl,by simpa using rv⟩) (fun b u z=>by have z':(none:Option HO)=some u:=z;cases z') (fun b z=>absurd rfl z) fun z=>absurd rfl z
 | none =>
  refine core (fun b=>if b=a then some (.frz { cls:=.type "list",data:=.seq vs.toArray } (.lst (ns.map V.int))) else none) (fun b=>?_) (.inl (.inr ⟨{ cls:=.type "list",data:=.seq vs.toArray },if_pos rfl⟩)) (fun b u z=>?_) (fun b z=>?_) fun _=>hk
  ·by_cases hb:b=a
   ·exact .inr ⟨_,_,if_pos hb⟩
   ·exact .inl (if_neg hb)
  ·by_cases hb:b=a
   ·have z':=(if_pos hb).symm.trans z
    cases z'
    subst hb
    exact⟨ha,by rw[Qb];exact hl,vs,_,rv,ha⟩
   ·have z':=(if_neg hb).symm.trans z
    cases z'
  ·by_cases hb:b=a
   ·exact hb
   ·exact absurd (if_neg hb) z
abbrev KOf{K:PySem.W.Frag}{h:Heap}(_:K.In h):PySem.W.Frag:=K
theorem walk_of{l:PySem.W.OpenLaw}{n k:Nat}{q:Program}{loose:List Str}{XP:(Str→Option Value)→Heap→Prop}{YP:World→Heap→Prop}{d:DefRec}{K:Params→PySem.W.Frag}{CX:World→CXT}{sp:World→Sp}{x:Str}
  (hn:l.most=some n) (hn2:n≤sizeLine) (hdf:d.params.defaults=[]) (hr:ZaJ k callerA)
  (hY:∀ (w:World) (h:Heap),YP w h→(K w.params).In h)
  (F:∀ (w:World) (mg:Str→Option Value) (fa:Addr) (h:Heap),(K w.params).In h→h.Ns mainGlobals mg→mg d.name=some (.ref fa) →
   ∃fd:FuncData,(∀ (s:Shared) (u:Value),BindsTo s fd ⟨[u],[]⟩ [(x,u)]) ∧
    ∀base:Heap,(K w.params).In base→base.Ns mainGlobals mg→ZdC l.prog w (K w.params) mg base (CX w) k fa fd [x] (sp w))
  (hsp:∀ (w:World) (H:Hp) (a:Addr) (ns:List Int),ns.length≤n→Zp5 H→SqL (K w.params) H a (ns.map V.int)→sp w [.ref a] H (fun v _=>v=.bl true) fun _ _ _=>False)
  (hCX:∀ (w:World) (H:Hp) (s:Shared) (e:Value) (s':Shared),CX w [] H s (fun _ _ _=>False) e s'→False) :
  PySem.W.WalkO q loose XP YP l.row.toRowW d [] (fun f vs=>PySem.call f vs):=by
 refine Att.attach_call hn hdf fun w s₀ s₁ mg mb fa o pm cd doc a vs ns G Y ho hd hcd hmg hobj hints hlen hg=>?_
 have KX:=hY w _ Y
 obtain⟨fd,hb,hF⟩:=F w mg fa _ KX G.T.g hmg
 exact ZmP KX G.T.g G.T.b G.T.builtins G.T.nolimit hg hobj hints (QM hlen hn2) hr hF hb (fun H hO hS=>hsp w H a ns hlen hO hS) fun H e s'=>hCX w H s₁ e s'
def ZS(s:Stmt)(j:Nat):Stmt:=match s with
 | .ClassDef _ _ _ body _ _ _ _ _ _ _=>body.getD j (.Pass ⟨0,0,0,0⟩)
 | _=>.Pass ⟨0,0,0,0⟩
def Zq(s:Stmt):Arguments:=match s with
 | .FunctionDef _ a _ _ _ _ _ _ _ _=>a
 | _=>{ posonlyargs:=[],args:=[],vararg:=none,kwonlyargs:=[],kw_defaults:=[],kwarg:=none,defaults:=[] }
def Zm(s:Stmt):List Stmt:=match s with
 | .FunctionDef _ _ b _ _ _ _ _ _ _=>b
 | _=>[]
def Zg(s:Stmt):Scope:=match s with
 | .FunctionDef _ _ _ _ _ _ sc _ _ _=>sc
 | _=>{ kind:=.function,names:=[],isGenerator:=false,isCoroutine:=false }
abbrev CX0:CXT:=fun _ _ _ _ _ _=>False
abbrev E0:XK:=fun _ _ _=>False
theorem ZjY{X:Cx}:ZdN CX0 X E0:=fun _ _ _ _ _ _ _ h=>h.elim
structure Fun (K:PySem.W.Frag) (x qual:Str) (st:Stmt) (f:Addr) (fd:FuncData):Prop where
 ex:∃ (oc:Value) (od:Option Addr) (kV doc pm:Value) (an:Option Addr) (cdv ct:Value) (osl:Array (Option Value)),
  fd=PySem.W.fnOf x qual (Zq st) (Zm st) (Zg st) .none kV doc pm an cdv ct∧K.lookup f=some ⟨oc,od,.func fd,osl⟩∧PySem.W.codeIn K cdv qual=true
 kp:PySem.W.keepIn K (.ref f)=true
section
variable {P:Program} {w:World} {K:PySem.W.Frag} {mg:Str→Option Value} {base:Heap}
theorem Fun.ok{x qual:Str}{st:Stmt}{f:Addr}{fd:FuncData}{N ps:List Str}{k:Nat}{sp:Sp}(F:Fun K x qual st f fd)(S:Zr N ps (Zg st))(len:∀vs H Q E,sp vs H Q E→vs.length=ps.length)
  (hbody:∀ (cdv:Value) (A:Around) (outer:List Env) (s:Shared) (H:Hp) (vs:List V) (Q:VK) (E:XK),ZaJ k (A.deeper (envOfC qual (Zg st) s.heap.objs.size f cdv))→sp vs H Q E →
   ∃t,PSs (Zg2 CX0 P w K mg base N qual (Zg st) f cdv A outer s H E).nox (Zm st) t∧t { nx:=fun _ H'=>Q .non H',rt:=Q } (Zdd N vs) H):ZdC P w K mg base CX0 (k+1) f fd ps sp:=by
 obtain⟨oc,od,kV,doc,pm,an,cdv,ct,osl,rfl,lk,hcd⟩:=F.ex
 refine Zru lk hcd S len fun A outer s H vs Q E hr hsp=>?_
 obtain⟨t,h,q⟩:=hbody cdv A outer s H vs Q E hr hsp
 exact⟨t,h.nox,q⟩
theorem Fun.binds{x qual:Str}{st:Stmt}{f:Addr}{fd:FuncData}{ps:List Str}(F:Fun K x qual st f fd)
  (h:∀ (kV doc pm:Value) (an:Option Addr) (cdv ct:Value) (us:List Value),us.length=ps.length→bindArgs (PySem.W.fnOf x qual (Zq st) (Zm st) (Zg st) .none kV doc pm an cdv ct) ⟨us,[]⟩=pure (ps.zip us)):ZbZ K fd ps []:=by
 obtain⟨oc,od,kV,doc,pm,an,cdv,ct,osl,rfl,lk,hcd⟩:=F.ex
 exact .all (h kV doc pm an cdv ct)
theorem ZV{x qual:Str}{st:Stmt}{f:Addr}{oc:Value}{od an:Option Addr}{osl:Array (Option Value)}{kV doc pm cdv ct:Value}(l:K.lookup f=some ⟨oc,od,.func (PySem.W.fnOf x qual (Zq st) (Zm st) (Zg st) .none kV doc pm an cdv ct),osl⟩)
  (c:PySem.W.codeIn K cdv qual=true) (k:PySem.W.keepIn K (.ref f)=true):Fun K x qual st f (PySem.W.fnOf x qual (Zq st) (Zm st) (Zg st) .none kV doc pm an cdv ct):=⟨⟨oc,od,kV,doc,pm,an,cdv,ct,osl,rfl,l,c⟩,k⟩
end
theorem ZmT{A:Around}{k:Nat}(hr:ZaJ k A):A.units+1<cLine:=Q9 (Nat.add_le_add_left (by decide:1≤64) _) hr.units
theorem ZH{n:Nat}(h:n≤1000):n<sizeLine:=Q9 h (by decide)
section
variable {X:Cx}
theorem pv(i:Nat){x:Str}{pos:Pos}(hN:X.N[i]? = some x:=by rfl)(hv:Vis X.env.scope x:=by first|exact Or.inl rfl|exact Or.inr (Or.inl rfl)|exact Or.inr (Or.inr rfl))(hd:(x == ("__debug__" : Str))=false:=by decide)
  (hcd:(x == ("__classdict__" : Str))=false:=by decide):PE X (.Name x pos) (Zoz i):=Zjk hN hv hd hcd
end
theorem ZbM{A B:Prop}(h:B):if false=true then A else B:=by
 rw[if_neg Qt]
 exact h
theorem Zdj{A B:Prop}(h:A):if true=true then A else B:=by
 rw[if_pos rfl]
 exact h
theorem Za9{c A B:Prop}[Decidable c](h1:c→A)(h2:¬ c→B):if c then A else B:=by
 by_cases h:c
 ·rw[if_pos h]
  exact h1 h
 ·rw[if_neg h]
  exact h2 h
theorem ZfM{c A B:Prop}[Decidable c](hc:c)(h:B):if (!decide c)=true then A else B:=by
 rw[decide_eq_true hc]
 exact ZbM h
def Zw(H H':Hp):Prop:=∀b o,H b=some o→H' b=some o
theorem Zw.refl(H:Hp):Zw H H:=fun _ _ h=>h
theorem Zw.trans{H H1 H2:Hp}(a:Zw H H1)(b:Zw H1 H2):Zw H H2:=fun c o h=>b c o (a c o h)
theorem Zw.free{H H':Hp}(e:Zw H H'){l:Addr}(h:H' l=Option.none):H l=Option.none:=by
 cases q:H l with
 | none=>rfl
 | some o =>
  rw[e l o q]at h
  cases h
theorem Zw.seq{K:PySem.W.Frag}{H H':Hp}{a:Addr}{xs:List V}(e:Zw H H')(h:SqL K H a xs):SqL K H' a xs:=by
 rcases h with(h|⟨o,h⟩)|h
 ·exact .inl (.inl (e _ _ h))
 ·exact .inl (.inr ⟨o,e _ _ h⟩)
 ·exact .inr h
def ZaL(cells:List (Str×Addr)):List (Str×NameKind)→List (Str×Addr)→List (Str×Addr)
 | [],acc=>acc
 | (n,k)::r,acc=>if k == .free then ZaL cells r ((n,(cells.lookup n).getD 0)::acc) else ZaL cells r acc
theorem Zf4{sc:Scope}{env:Env}(h:∀y∈sc.names,y.2=.free→∃c,env.cells.lookup y.1=some c) :
  closureFor sc env=pure (ZaL env.cells sc.names []):=by
 have go:∀ (names:List (Str×NameKind)) (acc:List (Str×Addr)),(∀y∈names,y.2=.free→∃c,env.cells.lookup y.1=some c) →
   (forIn names acc fun (x:Str×NameKind) (r:List (Str×Addr))=>if (x.2 == NameKind.free)=true then (do let c ← cellOf env x.1;pure (ForInStep.yield ((x.1,c)::r))) else pure (ForInStep.yield r):Sem (List (Str×Addr)))=pure (ZaL env.cells names acc):=by
  intro names
  induction names with
  | nil=>intro acc _;rfl
  | cons y r ih =>
   intro acc hy
   obtain⟨n,k⟩:=y
   rw[List.forIn_cons]
   cases hk:(k == NameKind.free) with
   | false =>
    have e1:ZaL env.cells ((n,k)::r) acc=ZaL env.cells r acc:=by
     show (if (k == NameKind.free)=true then _ else _)=_
     rw[hk];rfl
    rw[e1,← ih acc fun z hz=>hy z (Qs _ hz)]
    simp only[hk,Bool.false_eq_true,if_false,pure_bind]
   | true =>
    have hk':k=.free:=by simpa using hk
    obtain⟨c,hc⟩:=hy (n,k) Q8 hk'
    have e1:ZaL env.cells ((n,k)::r) acc=ZaL env.cells r ((n,c)::acc):=by
     show (if (k == NameKind.free)=true then _ else _)=_
     rw[hk,hc];rfl
    have e2:cellOf env n=pure c:=by
     unfold cellOf
     rw[hc]
    rw[e1,← ih ((n,c)::acc) fun z hz=>hy z (Qs _ hz)]
    simp only[hk,if_true,e2,pure_bind]
 have q:=go sc.names [] h
 unfold closureFor
 first
  | (rw[show (forIn sc.names ([]:List (Str×Addr)) _:Sem (List (Str×Addr)))=pure (ZaL env.cells sc.names []) from q];rfl)
  | (simp only[bind_pure];exact q)
  | exact q
theorem Zdg(cells:List (Str×Addr)):∀ (names:List (Str×NameKind)) (acc:List (Str×Addr)) (x:Str) (c:Addr),(ZaL cells names acc).lookup x=some c →
  (∃y∈names,y.1=x∧y.2=.free∧c=(cells.lookup x).getD 0)∨acc.lookup x=some c
 | [],acc,x,c,h=>.inr h
 | (n,k)::r,acc,x,c,h=>by
  by_cases hk:(k == NameKind.free)=true
  ·have e:ZaL cells ((n,k)::r) acc=ZaL cells r ((n,(cells.lookup n).getD 0)::acc):=by
    show (if (k == NameKind.free)=true then _ else _)=_
    rw[if_pos hk]
   rw[e]at h
   rcases Zdg cells r _ x c h with⟨y,hy,q⟩|q
   ·exact .inl ⟨y,Qs _ hy,q⟩
   ·rw[QaC]at q
    by_cases hx:(x == n)=true
    ·rw[hx]at q
     have hx':x=n:=by simpa using hx
     subst hx'
     exact .inl ⟨(x,k),Q8,rfl,by simpa using hk,(Qm q).symm⟩
    ·have hx':(x == n)=false:=by simpa using hx
     rw[hx']at q
     exact .inr q
  ·have e:ZaL cells ((n,k)::r) acc=ZaL cells r acc:=by
    show (if (k == NameKind.free)=true then _ else _)=_
    rw[if_neg hk]
   rw[e]at h
   rcases Zdg cells r _ x c h with⟨y,hy,q⟩|q
   ·exact .inl ⟨y,Qs _ hy,q⟩
   ·exact .inr q
theorem Zfi(cells:List (Str×Addr)):∀ (names:List (Str×NameKind)) (acc:List (Str×Addr)) (x:Str),((∃y∈names,y.1=x∧y.2=.free)∨∃c,acc.lookup x=some c) →
  ∃c,(ZaL cells names acc).lookup x=some c
 | [],acc,x,h=>by
  rcases h with⟨y,hy,_⟩|h
  ·cases hy
  ·exact h
 | (n,k)::r,acc,x,h=>by
  by_cases hk:(k == NameKind.free)=true
  ·have e:ZaL cells ((n,k)::r) acc=ZaL cells r ((n,(cells.lookup n).getD 0)::acc):=by
    show (if (k == NameKind.free)=true then _ else _)=_
    rw[if_pos hk]
   rw[e]
   refine Zfi cells r _ x ?_
   by_cases hx:(x == n)=true
   ·exact .inr ⟨_,by rw[QaC,hx]⟩
   ·have hx':(x == n)=false:=by simpa using hx
    rcases h with⟨y,hy,q⟩|⟨c,q⟩
    ·rcases QO.mp hy with rfl|hy
     ·exact absurd (by simpa using q.1.symm) hx
     ·exact .inl ⟨y,hy,q⟩
    ·exact .inr ⟨c,by rw[QaC,hx'];exact q⟩
  ·have e:ZaL cells ((n,k)::r) acc=ZaL cells r acc:=by
    show (if (k == NameKind.free)=true then _ else _)=_
    rw[if_neg hk]
   rw[e]
   refine Zfi cells r _ x ?_
   rcases h with⟨y,hy,q⟩|h
   ·rcases QO.mp hy with rfl|hy
    ·exact absurd (by simpa using q.2) hk
    ·exact .inl ⟨y,hy,q⟩
   ·exact .inr h
structure ZK (N N':List Str) (o c:Scope):Prop where
 kind:c.kind=.function
 okind:o.kind=.function
 nocell:∀y∈c.names,y.2≠.cell
 loc:∀y∈c.names,y.2=.local→c.names.lookup y.1=some .local
 free:∀y∈c.names,y.2=.free→c.names.lookup y.1=some .free∧(o.names.lookup y.1=some .cell∨o.names.lookup y.1=some .free)
 len:N.length≤N'.length
 same:∀i∈List.range N.length,∀x∈N'[i]?,c.names.lookup x=some .local∨c.names.lookup x=some .free→c.names.lookup x=some .free∧N[i]? = some x
 nd:N'.Nodup
def ZaK(X:Cx)(c:Scope)(N':List Str)(C:Addr)(s:Shared)(H:Hp)(fp:List Addr):Cx :=
 { X with N:=N',s₀:=s,H₀:=H,env:=compEnvC c (ZaL X.env.cells c.names []) C X.env,outer:=X.stack,stack:=X.stack,ex:=fp,fn:=fun _=>false,pn:=[],xe:=fun _ _=>False }
theorem Zc9{env:Env}(hf:env.scope.kind=.function):∀ (names:List (Str×NameKind)) (x:Str),
  (names.map fun (p:Str×NameKind)=>if (p.2 == NameKind.free&&env.scope.kind == .function&&env.kindOf p.1 == some .cell)=true then (p.1,NameKind.cell) else (p.1,p.2)).lookup x =
   match names.lookup x with
   | some .free=>if env.kindOf x=some .cell then some .cell else some .free
   | k=>k
 | [],x=>rfl
 | (n,k)::r,x=>by
  have ih:=Zc9 hf r x
  rw[Qh]
  by_cases hx:(x == n)=true
  ·have hx':x=n:=by simpa using hx
   subst hx'
   have e2:List.lookup x ((x,k)::r)=some k:=by rw[QaC];simp
   rw[e2]
   by_cases hk:k=.free
   ·subst hk
    by_cases hc:env.kindOf x=some .cell
    ·simp[List.lookup_cons,hf,hc]
    ·simp[List.lookup_cons,hf,hc]
   ·have hk':(k == NameKind.free)=false:=by simpa using hk
    rw[hk']
    simp only[Bool.false_and,Bool.false_eq_true,if_false,List.lookup_cons,beq_self_eq_true]
    all_goals (cases k<;>first|rfl|exact absurd rfl hk)
  ·have hx':(x == n)=false:=by simpa using hx
   have e2:List.lookup x ((n,k)::r)=List.lookup x r:=by rw[QaC,hx']
   rw[e2,← ih]
   by_cases hc:(k == NameKind.free&&env.scope.kind == .function&&env.kindOf n == some .cell)=true
   ·simp only[hc,if_true,List.lookup_cons,hx']
   ·simp only[hc,if_false,List.lookup_cons,hx',Bool.false_eq_true]
section
variable {X:Cx} {N N':List Str} {o c:Scope}
theorem Zcj(S:ZK N N' o c)(ho:X.env.scope=o)(cl:List (Str×Addr))(C:Addr)(x:Str):(compEnvC c cl C X.env).kindOf x =
  match c.names.lookup x with
  | some .free=>if X.env.kindOf x=some .cell then some .cell else some .free
  | k=>k:=Zc9 (env:=X.env) (by rw[ho];exact S.okind) c.names x
theorem ZcE{names:List (Str×NameKind)}{x:Str}{k:NameKind}(h:names.lookup x=some k):(x,k)∈names:=Qai h
theorem ZbT(S:ZK N N' o c)(ho:X.env.scope=o)(ok:X.Ok){x:Str}{a:Addr}(h:(ZaL X.env.cells c.names []).lookup x=some a) :
  X.env.cells.lookup x=some a∧c.names.lookup x=some .free:=by
 rcases Zdg _ _ _ _ _ h with⟨y,hy,rfl,hf,e⟩|q
 ·have hk:=S.free y hy hf
  have hv:X.env.kindOf y.1=some .cell∨X.env.kindOf y.1=some .free:=by
   show X.env.scope.names.lookup y.1=_∨X.env.scope.names.lookup y.1=_
   rw[ho];exact hk.2
  obtain⟨b,hb⟩:=ok.has y.1 hv
  rw[hb]at e
  exact⟨by rw[hb,e];rfl,hk.1⟩
 ·cases q
theorem ZhU(S:ZK N N' o c)(ho:X.env.scope=o)(ok:X.Ok){x:Str}(h:c.names.lookup x=some .free):∃a,(ZaL X.env.cells c.names []).lookup x=some a∧X.env.cells.lookup x=some a:=by
 obtain⟨a,ha⟩:=Zfi X.env.cells c.names [] x (.inl ⟨(x,.free),ZcE h,rfl,rfl⟩)
 exact⟨a,ha,(ZbT S ho ok ha).1⟩
theorem ZnS(S:ZK N N' o c)(ho:X.env.scope=o){pins:List (Addr×Obj)}{σ:St}{H:Hp}{s:Shared}{fp:List Addr}(I:Inv X pins σ H s)
  (hf:∀b∈fp,ZeY X pins H b) (ht:∀b∈fp,b<s.heap.objs.size):(ZaK X c N' s.heap.objs.size s H fp).Ok where
 mod:=I.ok.mod
 kind:=S.kind
 glob:=I.ok.glob
 blt:=I.ok.blt
 above:=Qf _
 inj:=fun x y a h1 h2=>I.ok.inj x y a (ZbT S ho I.ok h1).1 (ZbT S ho I.ok h2).1
 has:=fun x hx=>by
  have e:=Zcj (X:=X) S ho (ZaL X.env.cells c.names []) s.heap.objs.size x
  have hx':(compEnvC c (ZaL X.env.cells c.names []) s.heap.objs.size X.env).kindOf x=some .cell∨(compEnvC c (ZaL X.env.cells c.names []) s.heap.objs.size X.env).kindOf x=some .free:=hx
  rw[e]at hx'
  cases q:c.names.lookup x with
  | none=>rw[q]at hx';rcases hx' with z|z<;>cases z
  | some k =>
   by_cases hk:k=.free
   ·subst hk
    obtain⟨a,ha,_⟩:=ZhU S ho I.ok q
    exact⟨a,ha⟩
   ·rw[q]at hx'
    have hc:k=.cell:=by
     cases k<;>first|rfl|exact absurd rfl hk|(rcases hx' with z|z<;>cases z)
    subst hc
    exact absurd rfl (S.nocell _ (ZcE q))
 cab:=fun x a h=>by cases (show false=true from h)
 hd:=I.ok.hd
 frames:=I.ok.frames
 stk:=.inl rfl
 exf:=fun b hb=>⟨QH (ht b hb),fun x a h=>(hf b hb).2.2.2.2.1 x a (ZbT S ho I.ok h).1⟩
 bs:=fun b ob e=>I.bs b ob e
 bsz:=QM I.ok.bsz I.sz
 noex:=fun b ob e hb=>by
  rcases(hf b hb).2.2.2.1 with z|z
  ·exact I.ok.noex b ob e z
  ·exact absurd (QG (Qv e) (QM I.ok.bsz z)) (Qaa _)
 exfs:=fun b hb hb'=>by
  rcases QO.mp (I.stkSub b hb') with z|z
  ·exact(hf b hb).2.1 z
  ·exact(hf b hb).2.2.1 z
 funs:=I.stack
 frf:=I.stkFree
theorem Zmz(S:ZK N N' o c)(hN:X.N=N)(ho:X.env.scope=o){pins:List (Addr×Obj)}{σ:St}{H:Hp}{s:Shared}{fp:List Addr}{h₁:Heap}{tk:Nat}{m₀:Str→Option Value}(I:Inv X pins σ H s)
  (hf:∀b∈fp,ZeY X pins H b) (ht:∀b∈fp,b<s.heap.objs.size) (hns:h₁.Ns s.heap.objs.size m₀) (hk:∀b ob,s.heap.get? b=some ob→h₁.get? b=some ob) :
  Inv (ZaK X c N' s.heap.objs.size s H fp) [] (σ++List.replicate (N'.length-N.length) none) H { s with heap:=h₁,toks:=tk } where
 ok:=ZnS S ho I hf ht
 os:=rfl
 bare:=I.bare
 base:=Un.kept hk
 loc:=by
  refine⟨m₀,hns,fun i x v e1 e2 e3=>?_⟩
  obtain⟨m,hn,hl⟩:=I.loc
  have hlen:σ.length=N.length:=by rw[I.len,hN]
  have hi:i<σ.length:=by
   by_cases hi:i<σ.length
   ·exact hi
   ·rw[QY (by omega),List.getElem?_replicate]at e2
    split at e2<;>cases e2
  have e2':σ[i]? = some (some v):=by rw[QW hi]at e2;exact e2
  have kd:=Zcj (X:=X) S ho (ZaL X.env.cells c.names []) s.heap.objs.size x
  have vis:c.names.lookup x=some .local∨c.names.lookup x=some .free:=by
   have e3':(compEnvC c (ZaL X.env.cells c.names []) s.heap.objs.size X.env).kindOf x=some .local∨(compEnvC c (ZaL X.env.cells c.names []) s.heap.objs.size X.env).kindOf x=some .cell∨(compEnvC c (ZaL X.env.cells c.names []) s.heap.objs.size X.env).kindOf x=some .free:=e3
   rw[kd]at e3'
   cases q:c.names.lookup x with
   | none=>rw[q]at e3';rcases e3' with z|z|z<;>cases z
   | some k =>
    cases k with
    | «local»=>exact .inl rfl
    | free=>exact .inr rfl
    | cell=>exact absurd rfl (S.nocell _ (ZcE q))
    | _=>rw[q]at e3';rcases e3' with z|z|z<;>cases z
  obtain⟨hfr,hNi⟩:=S.same i (Qab.mpr (by omega)) x (by rw[show N'[i]? = some x from e1];rfl) vis
  have hok:X.env.kindOf x=some .cell∨X.env.kindOf x=some .free:=by
   show X.env.scope.names.lookup x=_∨X.env.scope.names.lookup x=_
   rw[ho];exact(S.free _ (ZcE hfr) rfl).2
  obtain⟨u,r,l⟩:=hl i x v (by rw[hN];exact hNi) e2' (.inr hok)
  refine⟨u,r,.inr ⟨?_,?_⟩⟩
  ·show (compEnvC c (ZaL X.env.cells c.names []) s.heap.objs.size X.env).kindOf x=some .cell∨(compEnvC c (ZaL X.env.cells c.names []) s.heap.objs.size X.env).kindOf x=some .free
   rw[kd,hfr]
   show (if X.env.kindOf x=some .cell then some NameKind.cell else some NameKind.free)=some .cell∨(if X.env.kindOf x=some .cell then some NameKind.cell else some NameKind.free)=some .free
   by_cases q:X.env.kindOf x=some .cell
   ·rw[if_pos q];exact .inl rfl
   ·rw[if_neg q];exact .inr rfl
  ·obtain⟨a,ha,ha'⟩:=ZhU S ho I.ok hfr
   refine⟨a,ha,?_⟩
   rcases l with⟨z,_⟩|⟨_,a',e,ob,hob,hd⟩
   ·rcases hok with q|q<;>rw[q]at z<;>cases z
   ·rw[ha']at e;cases e
    exact⟨ob,hk _ _ hob,hd⟩
 cell:=fun x a h=>by
  obtain⟨v,ob,e,d⟩:=I.cell x a (ZbT S ho I.ok h).1
  exact⟨v,ob,hk _ _ e,d⟩
 free:=I.hok.fresh (Qf _)
 freeC:=fun x a h=>I.freeC x a (ZbT S ho I.ok h).1
 pin:=fun p hp=>absurd (show p∈([]:List (Addr×Obj)) from hp) (by simp)
 hok:=I.hok.kept hk
 len:=by
  have hlen:σ.length=N.length:=by rw[I.len,hN]
  have:=S.len
  show (σ++List.replicate (N'.length-N.length) none).length=N'.length
  rw[Qg,Q7]
  omega
end
abbrev ZjD(ifs:List Expr)(env:Env):Sem Bool :=
 forIn ifs true fun k r=>if r=true then do let ok ← isTrue k env (eval k env);pure (ForInStep.yield ok) else pure (ForInStep.yield r)
def PTs(X:Cx)(ifs:List Expr)(t:TT):Prop :=
 ∀ (pins:List (Addr×Obj)) (s:Shared) (σ:St) (H:Hp) (Q:Bool→Hp→Prop),Inv X pins σ H s→t σ H Q→wpAny (model X.prog X.w) X.A (ZjD ifs X.env) (TP X pins σ Q) X.xe s
def ZfQ:TT:=fun _ H Q=>Q true H
theorem Zao{X:Cx}:PTs X [] ZfQ:=fun _ _ _ H _ I h=>wpAny_tests_nil ⟨H,I,h⟩
theorem ZjO{X:Cx}{e:Expr}{t:TT}(h:PT X e t):PTs X [e] t:=fun pins s σ H Q I q=>wpAny_tests_one (h pins s σ H Q I q)
section
variable {prog:Program} {w:World} {A:Around} {R:Result→Shared→Prop} {s:Shared}
theorem Zg7{elt target iter:Expr}{ifs:List Expr}{scope:Scope}{pos:Pos}{it acc:Value}{env:Env}{E:Value→Shared→Prop}(I:Nat→Shared→Prop)
  (hE:∀e s',E e s'→False)
  (turn:∀n s,I n s→wpAny (model prog w) A (pyNext it) (fun r s₁=>match r with
   | none=>R (.ok .next) s₁
   | some v=>wpAny (model prog w) A (letOwnedTupleGo target it v) (fun _ s₀=>wpAny (model prog w) A (assign target env v) (fun _ s₂ =>
     wpAny (model prog w) A (ZjD ifs env) (fun ok s₃ =>
      if ok=true then wpAny (model prog w) A (eval elt env) (fun x s₄ =>
       wpAny (model prog w) A (call (.builtin "list.append") [acc,x]) (fun _ s₅=>∃m,m<n∧I m s₅) E s₄) E s₃
      else ∃m,m<n∧I m s₃) E s₂) E s₀) E s₁) E s)
  (n:Nat) (h:I n s):codeAny (model prog w) A (.compLoop (.ListComp elt [⟨target,iter,ifs,0⟩] scope pos) 0 it acc env) R s:=by
 have go:∀ {α:Type} {t:Sem α} {Q:α→Shared→Prop} {s:Shared},wpAny (model prog w) A t Q E s→wpAny (model prog w) A t Q (notedBy (model prog w) A env fun e s'=>R (.error e) s') s :=
  fun {α t Q s} q=>wpAny_mono q (fun _ _ z=>z) fun e s' z=>(hE e s' z).elim
 refine codeAny_loop rfl I (fun n s hI=>?_) n h
 show wpAny _ A ((compTurn (.ListComp elt [⟨target,iter,ifs,0⟩] scope pos) 0 it acc env).onRaise (fun x=>do noteFrame x env;theTreesLotGoes x)) _ _ s
 refine wpAny_noted ?_
 rw[compTurn_list]
 refine wpAny_bind (wpAny_standAt (wpAny_bind (thn (go (turn n s hI)) fun r s₁ h₁=>?_)))
 cases r with
 | none=>exact wpAny_pure h₁
 | some v =>
  refine wpAny_bind (thn (go h₁) fun _ s₀ h₀=>wpAny_bind (thn (go h₀) fun _ s₂ h₂=>wpAny_bind (thn (go h₂) fun ok s₃ h₃=>?_)))
  cases ok with
  | false=>exact wpAny_pure ⟨rfl,h₃⟩
  | true =>
   exact wpAny_bind (wpAny_bind (thn (go h₃) fun x s₄ h₄=>wpAny_bind (thn (go h₄) fun _ s₅ h₅=>wpAny_pure (wpAny_pure ⟨rfl,h₅⟩))))
end
def Zc8(J:It)(D:Addr)(k:Nat)(σ:St)(H1:Hp)(g:TG)(tc:TT)(te:TE)(Q:VK):Prop :=
 ∃W:Nat→Nat→List V→St→Hp→Prop,(∃m,W 0 m [] (σ++List.replicate k none) (upd H1 D (.lst []))) ∧
  ∀i m ys σ2 H2,W i m ys σ2 H2→(J.stop i H2∧Q (.ref D) H2) ∨
   (J.go i H2∧∃N:List V→St→Hp→Prop,(∀ys' σ' H',N ys' σ' H'→∃m',m'<m∧W (i+1) m' ys' σ' H')∧∀x H3,J.yld i H2 x H3→g x σ2 H3 fun σ4 H4=>tc σ4 H4 fun b H5 =>
    if b=true then te σ4 H5 fun y H6=>H6 D=some (.lst ys)∧ys.length<sizeLine∧N (ys++[y]) σ4 (upd H6 D (.lst (ys++[y]))) else N ys σ4 H5)
def Znv(n:Nat)(wi:TI)(g:TG)(tc:TT)(te:TE):TE:=fun σ H Q=>wi σ H fun J H1=>∀D,H1 D=none→Zc8 J D n σ H1 g tc te Q
section
variable {X:Cx} {N N':List Str} {o c:Scope}
theorem ZiG{elt tg iter:Expr}{ifs:List Expr}{pos pos':Pos}{wi:TI}{g:TG}{tc:TT}{te:TE}{use:Option (Value→Sem Unit)}{QQ:Value→Shared→Prop}(S:ZK N N' o c)(hN:X.N=N)(ho:X.env.scope=o)(hc:X.calm=true)
  (hi:PI X tg iter wi) (hg:∀C s H fp,PG (ZaK X c N' C s H fp) tg g) (ht:∀C s H fp,PTs (ZaK X c N' C s H fp) ifs tc) (he:∀C s H fp,PE (ZaK X c N' C s H fp) elt te)
  (hs:∀x,foldedSetIterable iter X.env x=pure x) {pins:List (Addr×Obj)} {s:Shared} {σ:St} {H:Hp} {Q:VK} (I:Inv X pins σ H s) (h:Znv (N'.length-N.length) wi g tc te σ H Q)
  (post:∀ (D C:Addr) (s5:Shared) (H5:Hp) (m:Str→Option Value),Inv X pins σ H5 s5→H5 C=none→s5.heap.Ns C m→C≠X.env.locals→X.s₀.heap.objs.size≤C→(∀x a,X.env.cells.lookup x=some a→a≠C)→(∀p∈X.pn++pins,p.1≠C) →
   Q (.ref D) H5→compPost (model X.prog X.w) X.A X.xe use QQ (.ref D) C (.ok .next) s5) :
  wpAny (model X.prog X.w) X.A (comprehension (.ListComp elt [⟨tg,iter,ifs,0⟩] c pos) c X.env pos' (newList []) false (eval iter X.env) use) QQ X.xe s:=by
 have hclos:closureFor c X.env=pure (ZaL X.env.cells c.names []):=Zf4 fun y hy hf=>by
  refine I.ok.has y.1 ?_
  show X.env.scope.names.lookup y.1=_∨X.env.scope.names.lookup y.1=_
  rw[ho];exact(S.free y hy hf).2
 refine wpAny_comprehension_free (use:=use) rfl hs hclos S.kind S.loc (thn (hi pins s σ H _ I h) fun v s1 h1=>thn h1 fun itv s2 h2=>?_)
 obtain⟨it,fp,tn,J,H2,e,I2,T,st2,f2,hR⟩:=h2
 subst e
 have hD:H2 s2.heap.objs.size=none:=I2.fresh
 have I3:Inv X pins σ (upd H2 s2.heap.objs.size (.lst [])) { s2 with heap:=s2.heap.push { cls:=.type "list",data:=.seq ([]:List Value).toArray } } :=
  I2.lnew (ys:=[]) (its:=[]) (t':=s2.toks) .nil (Qq _)
 have fpl:∀b∈fp,b<s2.heap.objs.size:=fun b hb=>by
  obtain⟨ob,e,_⟩:=T.obj 0 _ st2 b hb
  exact Qv e
 refine wpAny_newObj_type (wpAny_newFunctionEnv S.nocell (by intro y hy;simp at hy) (fun h₁ hns₁ hsb₁=>?_) S.kind)
 have e3:∃s3:Shared,s3={ s2 with heap:=s2.heap.push { cls:=.type "list",data:=.seq ([]:List Value).toArray } }:=⟨_,rfl⟩
 obtain⟨s3,hs3⟩:=e3
 have e3:s3.heap=s2.heap.push { cls:=.type "list",data:=.seq ([]:List Value).toArray }:=by rw[hs3]
 have sz3:s3.heap.objs.size=s2.heap.objs.size+1:=by rw[e3,Qac]
 have fpl3:∀b∈fp,b<s3.heap.objs.size:=fun b hb=>QG (fpl b hb) (by rw[sz3];exact Qao _)
 have f3:∀b∈fp,ZeY X pins (upd H2 s2.heap.objs.size (.lst [])) b:=fun b hb=>⟨by rw[Zd (QH (fpl b hb))];exact(f2 b hb).1,(f2 b hb).2⟩
 have st3:tn 0 s3.heap:=T.keep 0 _ _ st2 fun b _ ob e=>by rw[e3];exact Qc _ e
 rw[← hs3]at I3
 show codeAny (model X.prog X.w) X.A (.compStart _ 0 (.ref it) (.ref s2.heap.objs.size) (compEnvC c (ZaL X.env.cells c.names []) (s2.heap.push { cls:=.type "list",data:=.seq ([]:List Value).toArray }).objs.size X.env))
  (compPost (model X.prog X.w) X.A X.xe use QQ (.ref s2.heap.objs.size) (s2.heap.push { cls:=.type "list",data:=.seq ([]:List Value).toArray }).objs.size)
  { s2 with heap:=h₁,toks:=s2.toks+([]:List (Str×Value)).length }
 have hns:h₁.Ns s3.heap.objs.size (fun x=>([]:List (Str×Value)).reverse.lookup x):=by rw[e3];exact hns₁
 have hk1:∀b ob,s3.heap.get? b=some ob→h₁.get? b=some ob:=fun b ob e=>by
  rw[e3]at e
  exact hsb₁.extBut b ob (QH (Qv e)) (Qc _ e)
 rw[← e3]
 have es4:({ s2 with heap:=h₁,toks:=s2.toks+([]:List (Str×Value)).length }:Shared)={ s3 with heap:=h₁,toks:=s2.toks }:=by rw[hs3];rfl
 rw[es4]
 obtain⟨W,⟨m0,w0⟩,turn⟩:=hR s2.heap.objs.size hD
 have I4:=Zmz (tk:=s2.toks) S hN ho I3 f3 fpl3 hns hk1
 have st4:tn 0 h₁:=T.keep 0 _ _ st3 fun b _ ob e=>hk1 b ob e
 generalize hX:ZaK X c N' s3.heap.objs.size s3 (upd H2 s2.heap.objs.size (.lst [])) fp=Y at I4
 have Yp:Y.prog=X.prog:=by rw[← hX];rfl
 have Yw:Y.w=X.w:=by rw[← hX];rfl
 have YK:Y.K=X.K:=by rw[← hX];rfl
 have Yc:Y.calm=true:=by rw[← hX];exact hc
 have YA:Y.A=X.A:=by rw[← hX];rfl
 have Yenv:Y.env=compEnvC c (ZaL X.env.cells c.names []) s3.heap.objs.size X.env:=by rw[← hX];rfl
 have Yl:Y.env.locals=s3.heap.objs.size:=by rw[Yenv];rfl
 have Yxe:Y.xe=fun _ _=>False:=by rw[← hX];rfl
 have hg':=hg s3.heap.objs.size s3 (upd H2 s2.heap.objs.size (.lst [])) fp
 have ht':=ht s3.heap.objs.size s3 (upd H2 s2.heap.objs.size (.lst [])) fp
 have he':=he s3.heap.objs.size s3 (upd H2 s2.heap.objs.size (.lst [])) fp
 rw[hX]at hg' ht' he'
 have stat:∀ {H':Hp},(∀b∈fp,H' b=none)→∀b∈fp,ZeY Y [] H' b:=fun {H'} hn b hb=>by
  obtain⟨_,q1,q2,q3,q4,_⟩:=f3 b hb
  have z1:=I4.ok.exf b (by rw[← hX];exact hb)
  refine⟨hn b hb,z1.1,I4.ok.exfs b (by rw[← hX];exact hb),.inl (by rw[← hX];exact hb),z1.2,fun p hp=>?_⟩
  have hp':p∈([]:List (Addr×Obj)):=by
   have:Y.pn=[]:=by rw[← hX];rfl
   rw[this]at hp;exact hp
  cases hp'
 have fin:∀ (s5:Shared) (σ5:St) (H5:Hp),Inv Y [] σ5 H5 s5→Q (.ref s2.heap.objs.size) H5→compPost (model X.prog X.w) X.A X.xe use QQ (.ref s2.heap.objs.size) s3.heap.objs.size (.ok .next) s5:=fun s5 σ5 H5 I5 q=>by
  obtain⟨m,hn,_⟩:=id I5.loc
  rw[Yl]at hn
  have hCn:H5 s3.heap.objs.size=none:=by have:=I5.free;rw[Yl]at this;exact this
  have un:Un (frs X.stack) fp (upd H2 s2.heap.objs.size (.lst [])) H5 s3.heap s5.heap:=by
   have:=I5.base
   rw[← hX]at this
   exact this
  have os5:s5.os=s3.os:=by have:=I5.os;rw[← hX]at this;exact this
  have hok5:HOk X.prog X.w H5 s5.heap:=by
   have:=I5.hok
   rw[Yp,Yw]at this
   exact this
  refine post _ _ s5 H5 m (I3.call' (s':=s5) (ch:=fp) os5 un hok5 I5.bare fun b hb=>?_) hCn hn (Q5 I3.lt) I3.sz (fun x a e=>?_) (fun p hp=>?_) q
  ·obtain⟨_,q1,_,q3,q4,q5⟩:=f3 b hb
   exact⟨q3,q1,q4,q5⟩
  ·obtain⟨v,ob,e',_⟩:=I3.cell x a e
   exact QH (Qv e')
  ·exact QH (Qv (I3.pin p hp).1)
 have loop:codeAny (model X.prog X.w) X.A (.compLoop (.ListComp elt [⟨tg,iter,ifs,0⟩] c pos) 0 (.ref it) (.ref s2.heap.objs.size) (compEnvC c (ZaL X.env.cells c.names []) s3.heap.objs.size X.env))
   (compPost (model X.prog X.w) X.A X.xe use QQ (.ref s2.heap.objs.size) s3.heap.objs.size) { s3 with heap:=h₁,toks:=s2.toks }:=by
  rw[← Yenv,← YA]
  refine Zg7 (E:=fun _ _=>False) (fun n s'=>∃i ys σ' H',Inv Y [] σ' H' s'∧tn i s'.heap∧(∀b∈fp,H' b=none)∧W i n ys σ' H') (fun _ _ z=>z) ?_ m0
   ⟨0,[],_,_,I4,st4,fun b hb=>(f3 b hb).1,?_⟩
  ·rintro n s5 ⟨i,ys,σ5,H5,I5,st5,fr5,w5⟩
   rcases turn i n ys σ5 H5 w5 with⟨stop,qn⟩|⟨go,Nn,hNn,step⟩
   ·refine thn (T.done Y Yp Yw YK Yc i [] s5 σ5 H5 _ I5 (stat fr5) st5 stop) ?_
    rintro r s6 ⟨hr,I6⟩
    subst hr
    have fq:=fin s6 σ5 H5 I6 qn
    rw[← YA]at fq
    exact fq
   ·refine thn (T.item Y Yp Yw YK Yc i [] s5 σ5 H5 _ I5 (stat fr5) st5 go) ?_
    rintro r s6 ⟨u,hr,h6⟩
    subst hr
    refine thn h6 ?_
    rintro _ s7 ⟨x,H7,I7,r7,y7,st7,fr7⟩
    have I7':=I7.pinned (stat fr7) (T.obj _ _ st7)
    have back:∀ {σ9:St} {H9:Hp} {s9:Shared},Inv Y ([]++ZfR fp s7.heap) σ9 H9 s9→Inv Y [] σ9 H9 s9∧tn (i+1) s9.heap∧∀b∈fp,H9 b=none:=fun {σ9 H9 s9} I9=>by
     refine⟨I9.unpinned,T.keep _ _ _ st7 fun b hb ob e=>(I9.pin (b,ob) (Qz _ (Qz _ (ZcI hb e)))).1,fun b hb=>?_⟩
     obtain⟨ob,e,d⟩:=T.obj _ _ st7 b hb
     exact(I9.pin (b,ob) (Qz _ (Qz _ (ZcI hb e)))).2.1
    have P1:=hg' _ s7 σ5 H7 x u _ I7' r7 (step x H7 y7)
    rw[Yp,Yw,Yxe]at P1
    refine thn P1 ?_
    rintro _ s8 ⟨σ8,H8,I8,q8⟩
    have P2:=ht' _ s8 σ8 H8 _ I8 q8
    rw[Yp,Yw,Yxe]at P2
    refine thn P2 ?_
    rintro ok s9 ⟨H9,I9,q9⟩
    cases ok with
    | false =>
     rw[if_neg Qt]at q9
     rw[if_neg Qt]
     obtain⟨b1,b2,b3⟩:=back I9
     obtain⟨m',hm',w9⟩:=hNn _ _ _ q9
     exact⟨m',hm',i+1,ys,σ8,H9,b1,b2,b3,w9⟩
    | true =>
     rw[if_pos rfl]at q9
     rw[if_pos rfl]
     have P3:=he' _ s9 σ8 H9 _ I9 q9
     rw[Yp,Yw,Yxe]at P3
     refine thn P3 ?_
     rintro y s10 ⟨vy,H10,I10,r10,hDl,hsz,q10⟩
     have P4:=Zaj (X:=Y) _ s10 σ8 H10 (.ref s2.heap.objs.size) [vy] (.ref s2.heap.objs.size) [y] (fun _ H'=>Nn (ys++[vy]) σ8 H') I10 rfl (.cons r10 .nil) ⟨_,ys,vy,rfl,rfl,hDl,hsz,q10⟩
     rw[Yp,Yw,Yxe]at P4
     refine thn P4 ?_
     rintro _ s11 ⟨_,H11,I11,_,q11⟩
     obtain⟨b1,b2,b3⟩:=back I11
     obtain⟨m',hm',w11⟩:=hNn _ _ _ q11
     exact⟨m',hm',i+1,ys++[vy],σ8,H11,b1,b2,b3,w11⟩
  ·exact w0
 have lp:=T.self X.A 0 { s3 with heap:=h₁,toks:=s2.toks } (fun it' s'=>codeAny (model X.prog X.w) X.A (.compLoop (.ListComp elt [⟨tg,iter,ifs,0⟩] c pos) 0 it' (.ref s2.heap.objs.size) (compEnvC c (ZaL X.env.cells c.names []) s3.heap.objs.size X.env))
   (compPost (model X.prog X.w) X.A X.xe use QQ (.ref s2.heap.objs.size) s3.heap.objs.size) s') (fun _ _=>False) st4 loop
 exact codeAny_compStart_list loop (wpAny_mono lp (fun _ _ z=>z) fun _ _ z=>z.elim)
theorem Inv.let{pins:List (Addr×Obj)}{σ:St}{H:Hp}{s:Shared}{C:Addr}{h':Heap}(I:Inv X pins σ H s)(hn:H C=none)(hL:C≠X.env.locals)(h1:X.s₀.heap.objs.size≤C)
  (h2:∀x a,X.env.cells.lookup x=some a→a≠C) (h3:∀p∈X.pn++pins,p.1≠C) (hs:Heap.SameBut C s.heap h'):Inv X pins σ H { s with heap:=h' } :=
 I.turned (t':=s.toks) (fun b ob hb e=>hs.extBut b ob hb e) hn hL (.inr h1) h2 h3
theorem ZaE{elt tg iter:Expr}{ifs:List Expr}{pos:Pos}{wi:TI}{g:TG}{tc:TT}{te:TE}(S:ZK N N' o c)(hN:X.N=N)(ho:X.env.scope=o)(hc:X.calm=true)
  (hi:PI X tg iter wi) (hg:∀C s H fp,PG (ZaK X c N' C s H fp) tg g) (ht:∀C s H fp,PTs (ZaK X c N' C s H fp) ifs tc) (he:∀C s H fp,PE (ZaK X c N' C s H fp) elt te)
  (hs:∀x,foldedSetIterable iter X.env x=pure x:=by intro _;rfl) :
  PE X (.ListComp elt [⟨tg,iter,ifs,0⟩] c pos) (Znv (N'.length-N.length) wi g tc te):=by
 intro pins s σ H Q I h
 rw[eval_ListComp]
 refine ZiG (use:=none) S hN ho hc hi hg ht he hs I h fun D C s5 H5 m I5 hCn hn n1 n2 n3 n4 q=>⟨m,hn,fun h' hsb=>?_⟩
 exact⟨.ref D,H5,I5.let hCn n1 n2 n3 n4 hsb,rfl,q⟩
theorem ZcM{i:Nat}{x:Str}{elt tg iter:Expr}{ifs:List Expr}{pos pos' spos:Pos}{wi:TI}{g:TG}{tc:TT}{te:TE}(hnd:X.N.Nodup)(hx:X.N[i]? = some x)(hl:Loc X.env.scope x)(S:ZK N N' o c)(hN:X.N=N)(ho:X.env.scope=o)(hc:X.calm=true)
  (hi:PI X tg iter wi) (hg:∀C s H fp,PG (ZaK X c N' C s H fp) tg g) (ht:∀C s H fp,PTs (ZaK X c N' C s H fp) ifs tc) (he:∀C s H fp,PE (ZaK X c N' C s H fp) elt te)
  (hsw:swapsWith (.ListComp elt [⟨tg,iter,ifs,0⟩] c pos) (some (.Name x pos')) spos.line X.env=pure true)
  (hs:∀x,foldedSetIterable iter X.env x=pure x:=by intro _;rfl) (hf:X.fn x=true∨X.env.scope.names.lookup x=some .local:=by first|exact .inl rfl|exact .inr rfl|assumption) :
  PS X (.Assign [.Name x pos'] (.ListComp elt [⟨tg,iter,ifs,0⟩] c pos) spos) (ZpO (Znv (N'.length-N.length) wi g tc te) (ZjF i)):=by
 intro pins s σ H D I h
 rw[exec_Assign_Name_used _ _ _ _ hsw]
 refine wpAny_bind (wpAny_standAt (wpAny_bind ?_))
 show wpAny _ X.A (do let _ ← comprehension (.ListComp elt [⟨tg,iter,ifs,0⟩] c pos) c X.env _ (newList []) false (eval iter X.env) (some (assign (.Name x pos') X.env))) _ _ s
 refine wpAny_bind (thn (ZiG (QQ:=fun _ s'=>SP X pins D .next s') (use:=some (assign (.Name x pos') X.env)) S hN ho hc hi hg ht he hs I h ?_) fun _ s' hq=>wpAny_pure (wpAny_pure hq))
 intro L C s5 H5 m I5 hCn hn n1 n2 n3 n4 q
 show wpAny _ X.A (assign (.Name x pos') X.env (.ref L)) _ _ _
 refine wpAny_assign_Name (Zgy (v:=.ref L) I5 hnd hx hl rfl (?_) hf)
 rintro s6 I6 ⟨a,hsb,ha⟩
 have nCa:C≠a:=by
  rcases ha with z|z
  ·rw[z];exact n1
  ·exact(n3 x a z).symm
 exact⟨m,hn.sameBut hsb nCa,fun h' hsb'=>⟨_,H5,I6.let hCn n1 n2 n3 n4 hsb',q⟩⟩
end
theorem Zfy{ys:List Str}:∀ {us:List Value},Zv (ys.map V.str) us→StrsAre us ys:=by
 induction ys with
 | nil=>intro us r;rw[Qat]at r;cases r;exact .nil
 | cons y ys ih =>
  intro us r
  rw[Qh]at r
  cases r with
  | cons r1 r2 =>
   obtain⟨t,e⟩:=r1
   subst e
   exact .cons _ _ (ih r2)
theorem Zgq:∀ {vs:List Value} {ys:List Str},StrsAre vs ys→Zv (ys.map V.str) vs
 | _,_,.nil=>.nil
 | _,_,.cons _ t h=>.cons ⟨t,rfl⟩ (Zgq h)
section
variable {X:Cx}
def Zrn(K:PySem.W.Frag):List V→Hp→VK→Prop:=fun xs H Q=>∃x c t b,xs=[x,.ty c]∧Zee K H x t∧PySem.W.kitOne K t (.type c)=some b∧Q (.bl b) H
theorem Zng:Z8 X (.builtin "isinstance") (Zrn X.K):=by
 intro pins s σ H xs us Q I r h
 obtain⟨x,c,t,b,rfl,ty,e,q⟩:=h
 obtain⟨u,w',rfl,rx,rc⟩:=ZjP r
 cases rc
 exact ZkZ I rx ty e fun tk=>⟨.bl b,H,I.tok _,rfl,q⟩
def Zo5(K:PySem.W.Frag):List V→Hp→VK→Prop:=fun xs H Q=>∃ (x:V) (tp:Addr) (cs:List String) (t:Value) (b:Bool),xs=[x,.ref tp]∧H tp=some (.tup (cs.map V.ty))∧Zee K H x t∧PySem.W.kitAny K t (cs.map Value.type)=some b∧Q (.bl b) H
theorem ZnG{cs:List String}:∀ {us:List Value},Zv (cs.map V.ty) us→us=cs.map Value.type:=by
 induction cs with
 | nil=>intro us r;rw[Qat]at r;cases r;rfl
 | cons y ys ih =>
  intro us r
  rw[Qh]at r
  cases r with
  | cons r1 r2=>rw[show _=Value.type y from r1,ih r2];rfl
theorem Zlc:Z8 X (.builtin "isinstance") (Zo5 X.K):=by
 intro pins s σ H xs us Q I r h
 obtain⟨x,tp,cs,t,b,rfl,ht,ty,e,q⟩:=h
 obtain⟨u,w',rfl,rx,rc⟩:=ZjP r
 cases rc
 obtain⟨_,its,rv,⟨ot,e1,e2,n,e3⟩⟩:=I.hok tp _ ht
 have ei:=ZnG rv
 subst ei
 obtain⟨oc,od,dt,sl⟩:=ot
 have e2':oc=Value.type "tuple":=e2
 have e3':dt=Data.seq (cs.map Value.type).toArray n:=e3
 subst e2';subst e3'
 have fin:∀tk,EP X pins σ Q (.bool b) { s with toks:=tk }:=fun tk=>⟨.bl b,H,I.tok _,rfl,q⟩
 cases ty with
 | non=>cases (show u=Value.none from rx);exact Q0 PySem.W.kitx_none I.kIn True.intro e1 e (fun z=>nomatch z) fin
 | bl y=>cases (show u=Value.bool y from rx);exact Q0 PySem.W.kitx_bool I.kIn True.intro e1 e (fun z=>nomatch z) fin
 | int i=>obtain⟨t,q⟩:=(show ∃t,u=Value.int i t from rx);cases q;exact Q0 PySem.W.kitx_int I.kIn True.intro e1 e (fun z=>nomatch z) fin
 | str y=>obtain⟨t,q⟩:=(show ∃t,u=Value.str y t from rx);cases q;exact Q0 PySem.W.kitx_str I.kIn True.intro e1 e (fun z=>nomatch z) fin
 | flt y=>obtain⟨t,q⟩:=(show ∃t,u=Value.float y t from rx);cases q;exact Q0 PySem.W.kitx_float I.kIn True.intro e1 e (fun z=>nomatch z) fin
 | @lst a xs ea =>
  cases (show u=Value.ref a from rx)
  obtain⟨_,_,n,_,h1⟩:=(show Zac X.prog X.w H s.heap a (.lst xs) from I.hok a _ ea)
  exact Q0 QaN I.kIn ⟨_,h1,rfl⟩ e1 e (fun z=>nomatch z) fin
 | @frz a ob xs ea =>
  cases (show u=Value.ref a from rx)
  obtain⟨_,_,_,n,_,h1⟩:=(show Zac X.prog X.w H s.heap a (.frz ob (.lst xs)) from I.hok a _ ea)
  exact Q0 QaN I.kIn ⟨_,h1,rfl⟩ e1 e (fun z=>nomatch z) fin
 | @tup a xs ea =>
  cases (show u=Value.ref a from rx)
  obtain⟨_,_,_,p⟩:=(show Zac X.prog X.w H s.heap a (.tup xs) from I.hok a _ ea)
  obtain⟨o,h1,h2,_⟩:=p
  exact Q0 PySem.W.kitx_tuple I.kIn ⟨o,h1,h2⟩ e1 e (fun z=>nomatch z) fin
 | @dK a kvs ea =>
  cases (show u=Value.ref a from rx)
  obtain⟨_,_,vs,_,p⟩:=(show Zac X.prog X.w H s.heap a (.dK kvs) from I.hok a _ ea)
  obtain⟨o,es,ep,h1,h2,_⟩:=p
  exact Q0 QaO I.kIn ⟨o,h1,h2.1⟩ e1 e (fun z=>nomatch z) fin
 | @dT a kvs ea =>
  cases (show u=Value.ref a from rx)
  obtain⟨_,_,xs,_,o,es,ep,h1,h2,_⟩:=(show Zac X.prog X.w H s.heap a (.dT kvs) from I.hok a _ ea)
  exact Q0 QaO I.kIn ⟨o,h1,h2.1⟩ e1 e (fun z=>nomatch z) fin
 | @ins a C dx fs ea cl ha hn htk hm =>
  cases (show u=Value.ref a from rx)
  obtain⟨mA,O,_⟩:=Zeg I.hok ea
  obtain⟨od,J,_⟩:=O.look
  exact Q0 (PySem.W.kitx_own (cl.get _) cl.hd ha hn htk hm) I.kIn J e1 e (fun z=>nomatch z) fin
theorem Zl8(hc:X.calm=true):Z8 X (.builtin "all") (fun xs H Q=>∃ (p:Addr) (bs:List Bool),xs=[.ref p]∧SqL X.K H p (bs.map V.bl)∧Q (.bl (bs.all id)) H):=by
 intro pins s σ H xs us Q I r h
 obtain⟨p,bs,rfl,hq,q⟩:=h
 obtain⟨u,rfl,rx⟩:=ZbB r
 cases rx
 obtain⟨its,rv,pl,hz⟩:=I.list hq
 have hl:=pl.isList
 have hlt:p<s.heap.objs.size:=by obtain⟨_,e,_⟩:=hl;exact Qv e
 refine call_all_walk (wpAny_pyIter_list hl ?_)
 refine⟨s.heap.objs.size,[s.heap.objs.size,p],[s.heap.objs.size],its.toArray.size,_,_,fun i=>(bs[i]?).getD true,rfl,Walks.list (A:=X.A.in1) (I.ok.hd hc) _ p (QH hlt) its.toArray,
  ⟨⟨_,Qu _ rfl,rfl,rfl⟩,hl.push _⟩,fun i v s' Q' E' hP hQ=>?_,fun h' tk hk=>?_⟩
 ·have hP':its[i]? = some v:=by simpa using hP
  have hi:i<its.length:=(Qd.mp hP').1
  have hlen:=rv.length
  have hb:(bs.map V.bl)[i]? = some (V.bl (bs[i]'(by rw[Qb]at hlen;omega))):=by
   rw[Qj,Qa (by rw[Qb]at hlen;omega)];rfl
  obtain⟨u',hu',ru'⟩:=rv.get hb
  rw[hP']at hu';cases hu'
  obtain rfl:v=Value.bool _:=ru'
  have hQ2:Q' ((bs[i]?).getD true) s':=hQ
  rw[Qa (by rw[Qb]at hlen;omega)]at hQ2
  exact wpAny_truthy_bool hQ2
 ·have e:((List.range its.toArray.size).all fun i=>(bs[i]?).getD true)=bs.all id:=by
   have hlen:=rv.length
   rw[Qb]at hlen
   rw[Qr,← hlen,QaI,QaX,QaX]
   constructor
   ·intro z b hb
    obtain⟨i,hi,rfl⟩:=List.mem_iff_getElem.mp hb
    have:=z i (Qab.mpr hi)
    rw[Qa hi]at this
    exact this
   ·intro z i hi
    have hi':=Qab.mp hi
    rw[Qa hi']
    exact z _ (QV hi')
  refine⟨.bl (bs.all id),H,I.kept fun b ob e'=>hk b ob (fun hm=>?_) (Qc _ e'),by rw[e];rfl,q⟩
  rw[Qi.mp hm]at e'
  exact Qaa _ (Qv e')
theorem Zha:Z8 X (.builtin "sorted") (fun xs H Q=>∃ (p:Addr) (ss:List Str),xs=[.ref p]∧SqL X.K H p (ss.map V.str)∧ss.length<64 ∧
  ∀ (l:Addr) (ss':List Str),H l=none→ss'.Perm ss→sortedS ss'=true→Q (.ref l) (upd H l (.lst (ss'.map V.str)))):=by
 intro pins s σ H xs us Q I r h
 obtain⟨p,ss,rfl,hq,h64,q⟩:=h
 obtain⟨u,rfl,rx⟩:=ZbB r
 cases rx
 obtain⟨its,rv,pl,hz⟩:=I.list hq
 have hlen:=rv.length
 rw[Qb]at hlen hz
 refine sorted_strs pl.isList (Zfy rv) (by omega) fun out ss' a1 a2 a3=>?_
 obtain⟨e,he⟩:=sortedAll_at s.heap its out
 have hp:=a2.length_eq
 refine⟨.ref (s.heap.objs.size+1),_,I.laid (t':=s.toks) (o:=.lst (ss'.map V.str)) (fun _ _=>sortedAll_old) (Qao _) ⟨by rw[Qb];omega,out.toList,e,Zgq a1,by simpa using he⟩,rfl,q _ ss' (I.hok.fresh (Qao _)) a2 a3⟩
theorem ZnJ:MtR X "str.join" (fun x vs H Q=>∃ (sep:Str) (p:Addr) (ys:List Str),x=.str sep∧vs=[.ref p]∧SqL X.K H p (ys.map V.str)∧(ys.map (·.length)).sum+ys.length*sep.length≤16777216∧Q (.str (Txt.join sep ys)) H):=by
 intro pins s σ H x vs v us Q I rx rv h
 obtain⟨sep,p,ys,rfl,rfl,hq,hz,q⟩:=h
 obtain⟨t,rfl⟩:=rx
 obtain⟨u,rfl,ru⟩:=rv.one
 cases ru
 obtain⟨its,r',pl,_⟩:=I.list hq
 exact join_list pl.isList (Zfy r') hz fun t' k=>⟨.str _,H,I.tok _,⟨_,rfl⟩,q⟩
theorem ZoC:OpR X (binaryOp .Mult) (fun x y H Q=>∃a n,x=.str a∧y=.int n∧0≤n∧n≤1000000∧(a.length:Int)*n≤1000000∧Q (.str (Txt.mul a n)) H):=by
 intro pins s σ H x y v u Q I rx ry h
 obtain⟨a,n,rfl,rfl,h0,h1,h2,q⟩:=h
 obtain⟨t,rfl⟩:=rx
 obtain⟨t',rfl⟩:=ry
 have h2':a.length*n.toNat≤1000000:=by
  have e:((a.length*n.toNat:Nat):Int)=(a.length:Int)*n:=by rw[Int.natCast_mul,Int.toNat_of_nonneg h0]
  omega
 refine PySem.P.mul_str ?_ (fun c1 c2=>?_) (fun c1 c2=>?_) ?_
 ·have e1:decide (n < -(2 ^ 63:Int))=false:=decide_eq_false (by omega)
  have e2:decide (n≥2 ^ 63)=false:=decide_eq_false (by omega)
  rw[e1,e2];rfl
 ·have hn:(1:Int)≤n:=by omega
  have q1:(a.length:Int)*1≤(a.length:Int)*n:=Int.mul_le_mul_of_nonneg_left hn (Int.natCast_nonneg _)
  have q2:(1000000:Int)≤(2 ^ 63-1) / n:=by
   rw[Int.le_ediv_iff_mul_le (by omega)]
   have:(1000000:Int)*n≤1000000*1000000:=Int.mul_le_mul_of_nonneg_left h1 (by decide)
   omega
  omega
 ·unfold Builtin.Str.tooLong
  have hl:sizeLine=16777216:=sizeLine_eq
  exact decide_eq_false (by omega)
 ·have e:Txt.mul a n=if n<1 then Str.empty else if (n == 1||a.length == 0)=true then a else ⟨(List.replicate n.toNat a.cps).foldl (·++·) #[]⟩:=rfl
  rw[e]at q
  by_cases c1:n<1
  ·rw[if_pos c1]at q ⊢
   exact⟨by decide,.str _,H,I.tok _,⟨_,rfl⟩,q⟩
  ·rw[if_neg c1]at q ⊢
   by_cases c2:(n == 1||a.length == 0)=true
   ·rw[if_pos c2]at q ⊢
    exact⟨.str _,H,I,⟨_,rfl⟩,q⟩
   ·rw[if_neg c2]at q ⊢
    refine⟨?_,.str _,H,I.tok _,⟨_,rfl⟩,q⟩
    have hfold:∀ (k:Nat) (acc:Array Nat),((List.replicate k a.cps).foldl (·++·) acc).size=acc.size+k*a.cps.size:=by
     intro k
     induction k with
     | zero=>intro acc;simp
     | succ k ih=>intro acc;rw[List.replicate_succ,List.foldl_cons,ih,Array.size_append,Nat.succ_mul];omega
    show ((List.replicate n.toNat a.cps).foldl (·++·) #[]).size≤sizeLine
    rw[hfold]
    have e2:a.cps.size=a.length:=rfl
    have:n.toNat*a.cps.size≤1000000:=by rw[e2,Nat.mul_comm];exact h2'
    have hl:sizeLine=16777216:=sizeLine_eq
    simp only[List.size_toArray,List.length_nil]
    omega
def rSlS:V→Option Int→Option Int→Hp→VK→Prop:=fun x lo hi H Q=>∃z,x=.str z∧z.length≤sizeLine∧Q (.str (Txt.slice z lo hi)) H
end
inductive Src where
 | l (a:Addr)|t (a:Addr)|s (z:Str)
def Src.val:Src→V
 | .l a=>.ref a
 | .t a=>.ref a
 | .s z=>.str z
def Zoy(c:Nat):V:=.str ⟨#[c]⟩
def Src.its(K:PySem.W.Frag)(H:Hp):Src→List V→Prop
 | .l a,xs=>SqL K H a xs
 | .t a,xs=>SqT K H a xs
 | .s z,xs=>xs=z.cps.toList.map Zoy
def Src.at(h:Heap)(i:Addr):Src→Nat→Prop
 | .l a,k=>h.IsListIter i a k
 | .t a,k=>h.IsTupleIter i a k
 | .s z,k=>∃tk,h.IsStrIter i (strIterType z) z tk k
def Src.raw(h:Heap):Src→List Value→Prop
 | .l a,us=>h.IsList a us.toArray
 | .t a,us=>h.IsTuple a us.toArray
 | .s _,_=>True
def Src.fit:Src→List Value→Nat→Value→Prop
 | .l _,us,k,u=>us[k]? = some u
 | .t _,us,k,u=>us[k]? = some u
 | .s z,_,k,u=>∃c tk,z.cps[k]? = some c∧u=.str ⟨#[c]⟩ tk
def Src.many:Src→List Value→Nat
 | .l _,us=>us.length
 | .t _,us=>us.length
 | .s z,_=>z.cps.size
def Src.off:Src→Addr→Prop
 | .l a,b=>a≠b
 | .t a,b=>a≠b
 | .s _,_=>True
theorem Src.at_obj{h:Heap}{i:Addr}:∀ {S:Src} {k:Nat},S.at h i k→∃o vs,h.get? i=some o∧o.data=.fields vs
 | .l _,_,⟨o,e,_,d⟩=>⟨o,_,e,d⟩
 | .t _,_,⟨o,e,_,d⟩=>⟨o,_,e,d⟩
 | .s _,_,⟨_,o,e,_,d⟩=>⟨o,_,e,d⟩
theorem Src.at_keep{h h':Heap}{i:Addr}(k':∀o,h.get? i=some o→h'.get? i=some o):∀ {S:Src} {k:Nat},S.at h i k→S.at h' i k
 | .l _,_,⟨o,e,d⟩=>⟨o,k' o e,d⟩
 | .t _,_,⟨o,e,d⟩=>⟨o,k' o e,d⟩
 | .s _,_,⟨tk,o,e,d⟩=>⟨tk,o,k' o e,d⟩
theorem Src.raw_keep{h h':Heap}{b:Addr}(k':∀c o,c≠b→h.get? c=some o→h'.get? c=some o):∀ {S:Src} {us:List Value},S.off b→S.raw h us→S.raw h' us
 | .l _,_,f,⟨o,e,d⟩=>⟨o,k' _ o f e,d⟩
 | .t _,_,f,⟨o,e,d⟩=>⟨o,k' _ o f e,d⟩
 | .s _,_,_,_=>trivial
section
variable {prog:Program} {w:World} {A:Around} {E:Value→Shared→Prop} {s:Shared}
theorem Zhc{it t:Addr}{i:Nat}{items:Array Value}{x:Value}{Q:Value→Shared→Prop}(hit:s.heap.IsTupleIter it t i)(ht:s.heap.IsTuple t items)(hx:items[i]? = some x)
  (hQ:∀h',h'.IsTupleIter it t (i+1)→Heap.SameBut it s.heap h'→Q x { s with heap:=h' }):wpAny (model prog w) A (Builtin.SmallTypes.nextOf (.ref it)) Q E s:=by
 obtain⟨o,ho,hc,hd⟩:=id hit
 obtain⟨ol,hol,_,nl,hdl⟩:=ht
 unfold Builtin.SmallTypes.nextOf
 refine wpAny_bind (wpAny_callSpecial?_slot (name:=Str.ofString "__next__") hit.typeIs F.slot_tuple_iterator_next
  (wpAny_call_entry F.slot_tuple_iterator_next hit.typeIs F.entry_tuple_iterator_next ?_ (F.args_tuple_iterator_next_1 _)))
 show wpAny _ _ (field (.ref it) 0 >>= _) _ _ s
 refine wpAny_bind (wpAny_field ho hd (x:=.ref t) rfl ?_)
 show wpAny _ _ (if (Value.ref t == Value.none)=true then _ else _) _ _ s
 rw[if_neg (show ¬ ((Value.ref t == Value.none)=true) from Qt)]
 show wpAny _ _ (field (.ref it) 1 >>= _) _ _ s
 refine wpAny_bind (wpAny_field ho hd (x:=.int i 0) rfl ?_)
 show wpAny _ _ (seqItems? (.ref t) >>= _) _ _ s
 refine wpAny_bind (wpAny_seqItems hol hdl ?_)
 simp only[Int.toNat_natCast,hx]
 refine wpAny_bind (wpAny_setField ho hd (by simp) (wpAny_pure ⟨x,rfl,wpAny_pure (hQ _ ?_ (Heap.SameBut.update ..))⟩))
 exact⟨_,Heap.get?_update_self _ ho (Obj.isFreed_of_fields (Obj.data_mapFields hd _)),(Obj.cls_mapFields ..).trans hc,by
  rw[Obj.data_mapFields hd];simp[rawInt]⟩
theorem Zdb{i:Addr}{k:Nat}{us:List Value}{Q:Value→Shared→Prop}:∀ {S:Src},S.at s.heap i k→S.raw s.heap us→k<S.many us →
  (∀h' tk u,S.fit us k u→S.at h' i (k+1)→Heap.SameBut i s.heap h'→Q u { s with heap:=h',toks:=tk })→wpAny (model prog w) A (Builtin.SmallTypes.nextOf (.ref i)) Q E s
 | .l a,h1,h2,h3,hQ=>wpAny_nextOf_list_item h1 h2 (x:=us[k]'h3) (by rw[Qal];exact Qa h3) fun h' q1 q2=>hQ h' s.toks _ (Qa h3) q1 q2
 | .t a,h1,h2,h3,hQ=>Zhc h1 h2 (x:=us[k]'h3) (by rw[Qal];exact Qa h3) fun h' q1 q2=>hQ h' s.toks _ (Qa h3) q1 q2
 | .s z,⟨tk,h1⟩,h2,h3,hQ=>by
  have hx:z.cps[k]? = some z.cps[k]:=Array.getElem?_eq_getElem h3
  by_cases ha:z.cps.all (·<128)=true
  ·have e:strIterType z = "str_ascii_iterator":=by unfold strIterType;rw[if_pos ha]
   rw[e]at h1
   exact wpAny_nextOf_ascii_item h1 hx fun h' q1 q2=>hQ h' _ _ ⟨_,_,hx,rfl⟩ ⟨tk,by rw[e];exact q1⟩ q2
  ·have e:strIterType z = "str_iterator":=by unfold strIterType;rw[if_neg ha]
   rw[e]at h1
   exact wpAny_nextOf_wide_item h1 hx fun h' q1 q2=>hQ h' _ _ ⟨_,_,hx,rfl⟩ ⟨tk,by rw[e];exact q1⟩ q2
theorem ZeE{it t:Addr}{i:Nat}{items:Array Value}{Q:Value→Shared→Prop}(hh:A.handled=none)(hit:s.heap.IsTupleIter it t i)(ht:s.heap.IsTuple t items)(hx:items[i]? = none)
  (hE:∀h' e,Heap.ExtBut it s.heap h'→(∃o,h'.get? e=some o∧o.cls=.type "StopIteration")→E (.ref e) { s with heap:=h' }):wpAny (model prog w) A (Builtin.SmallTypes.nextOf (.ref it)) Q E s:=by
 obtain⟨o,ho,hc,hd⟩:=id hit
 obtain⟨ol,hol,_,nl,hdl⟩:=ht
 unfold Builtin.SmallTypes.nextOf
 refine wpAny_bind (wpAny_callSpecial?_slot (name:=Str.ofString "__next__") hit.typeIs F.slot_tuple_iterator_next
  (wpAny_call_entry F.slot_tuple_iterator_next hit.typeIs F.entry_tuple_iterator_next ?_ (F.args_tuple_iterator_next_1 _)))
 show wpAny _ _ (field (.ref it) 0 >>= _) _ _ s
 refine wpAny_bind (wpAny_field ho hd (x:=.ref t) rfl ?_)
 show wpAny _ _ (if (Value.ref t == Value.none)=true then _ else _) _ _ s
 rw[if_neg (show ¬ ((Value.ref t == Value.none)=true) from Qt)]
 show wpAny _ _ (field (.ref it) 1 >>= _) _ _ s
 refine wpAny_bind (wpAny_field ho hd (x:=.int i 0) rfl ?_)
 show wpAny _ _ (seqItems? (.ref t) >>= _) _ _ s
 refine wpAny_bind (wpAny_seqItems hol hdl ?_)
 simp only[Int.toNat_natCast,hx]
 refine wpAny_bind (wpAny_rule (wpAny_bind (wpAny_setField ho hd (by simp) ?_)))
 show wpAny _ _ (newExc (.type "StopIteration") [] >>= _) _ _ _
 refine wpAny_bind ?_
 simp only[newExc,newTuple]
 refine wpAny_bind (wpAny_newObj_type ?_ (by size_fits))
 refine wpAny_bind (m:=firstArgMember _ _) (wpAny_of_eq (a:=Value.none) (by first|rfl|(simp only[firstArgMember];rfl)) ?_)
 refine wpAny_newObj_type ?_ (by size_fits)
 simp only[raiseNew]
 refine wpAny_bind (wpAny_handled ?_)
 first|rw[show A.in1.handled=none from hh]|rw[hh]
 refine wpAny_bind (wpAny_pure (wpAny_throw ?_))
 exact hE _ _ (((Heap.SameBut.update ..).extBut.push _).push _) ⟨_,Qu _ rfl,rfl⟩
theorem ZfG{i:Addr}{k:Nat}{us:List Value}{Q:Value→Shared→Prop}(hh:A.handled=none):∀ {S:Src},S.at s.heap i k→S.raw s.heap us→S.many us≤k →
  (∀h' e,Heap.ExtBut i s.heap h'→(∃o,h'.get? e=some o∧o.cls=.type "StopIteration")→E (.ref e) { s with heap:=h' })→wpAny (model prog w) A (Builtin.SmallTypes.nextOf (.ref i)) Q E s
 | .l a,h1,h2,h3,hE=>wpAny_nextOf_list_end hh h1 h2 (by rw[Qal];exact QN h3) hE
 | .t a,h1,h2,h3,hE=>ZeE hh h1 h2 (by rw[Qal];exact QN h3) hE
 | .s z,⟨tk,h1⟩,h2,h3,hE=>by
  have hx:z.cps[k]? = none:=Array.getElem?_eq_none h3
  by_cases ha:z.cps.all (·<128)=true
  ·have e:strIterType z = "str_ascii_iterator":=by unfold strIterType;rw[if_pos ha]
   rw[e]at h1
   exact wpAny_nextOf_ascii_end hh h1 hx hE
  ·have e:strIterType z = "str_iterator":=by unfold strIterType;rw[if_neg ha]
   rw[e]at h1
   exact wpAny_nextOf_wide_end hh h1 hx hE
structure Zhr (z TI TO i1 i2:Addr) (S1 S2:Src):Prop where
 TIz:TI≠z
 TOz:TO≠z
 i1z:i1≠z
 i2z:i2≠z
 TITO:TI≠TO
 TIi1:TI≠i1
 TIi2:TI≠i2
 TOi1:TO≠i1
 TOi2:TO≠i2
 i12:i1≠i2
 s1z:S1.off z
 s1TO:S1.off TO
 s1i1:S1.off i1
 s1i2:S1.off i2
 s2z:S2.off z
 s2TO:S2.off TO
 s2i1:S2.off i1
 s2i2:S2.off i2
theorem Zm1{z TI TO i1 i2:Addr}{S1 S2:Src}{k:Nat}{us1 us2:List Value}{a b:Value}{Q:Option Value→Shared→Prop}(D:Zhr z TI TO i1 i2 S1 S2)
  (hz:IsZip s.heap z TI TO .none) (hTI:IsPair s.heap TI (.ref i1) (.ref i2)) (hTO:IsPair s.heap TO a b)
  (h1:S1.at s.heap i1 k) (h2:S2.at s.heap i2 k) (r1:S1.raw s.heap us1) (r2:S2.raw s.heap us2) (m1:k<S1.many us1) (m2:k<S2.many us2)
  (hQ:∀h' tk x y,S1.fit us1 k x→S2.fit us2 k y→IsZip h' z TI TO (rawInt s.heap.objs.size)→IsPair h' TO x y→S1.at h' i1 (k+1)→S2.at h' i2 (k+1)→IsPair h' s.heap.objs.size x y→h'.objs.size=s.heap.objs.size+1 →
   (∀c o,c≠z→c≠TO→c≠i1→c≠i2→s.heap.get? c=some o→h'.get? c=some o)→Q (some (.ref s.heap.objs.size)) { s with heap:=h',toks:=tk }) :
  wpAny (model prog w) A (pyNext (.ref z)) Q E s:=by
 have hT:s.TypeIs (.ref z) "zip":=⟨_,hz,rfl⟩
 unfold pyNext
 refine wpAny_bind (wpAny_attempt (wpAny_callSpecial?_slot (name:=Str.ofString "__next__") hT F.slot_zip_next (wpAny_call_entry F.slot_zip_next hT F.entry_zip_next ?_ (F.args_zip_next_1 _))))
 show wpAny _ _ (field (.ref z) 2 >>= _) _ _ _
 refine wpAny_bind (wpAny_field hz rfl (x:=.bool false) rfl ?_)
 show wpAny _ _ (field (.ref z) 3 >>= _) _ _ _
 refine wpAny_bind (wpAny_field hz rfl (x:=.ref TI) rfl (wpAny_bind (wpAny_seqItems hTI rfl ?_)))
 show wpAny _ _ (Builtin.SmallTypes.ownedTupleIsFree (.ref z) >>= _) _ _ _
 unfold Builtin.SmallTypes.ownedTupleIsFree
 refine wpAny_bind (wpAny_bind (wpAny_field hz rfl (x:=.none) rfl (wpAny_pure ?_)))
 simp only[if_true]
 refine wpAny_bind (wpAny_rule (wpAny_bind (wpAny_field hz rfl (x:=.ref TO) rfl (wpAny_bind (wpAny_setField_rec hz (by simp) fun h₁ hz₁ hs₁=>?_)))))
 replace hz₁:IsZip h₁ z TI TO .ellipsis:=hz₁
 refine wpAny_bind ?_
 simp only[List.zipIdx_cons,List.zipIdx_nil,List.forIn_cons,List.forIn_nil]
 refine wpAny_bind (wpAny_bind (wpAny_onRaise ?_))
 show wpAny _ _ (Builtin.SmallTypes.nextOf (.ref i1) >>= _) _ _ _
 refine wpAny_bind (Zdb (S:=S1) (us:=us1) (k:=k) (S1.at_keep (fun o e=>hs₁.extBut _ o D.i1z e) h1) (S1.raw_keep (fun c o n e=>hs₁.extBut c o n e) D.s1z r1) m1 fun h₂ tk₂ x fx h1₂ hs₂=>wpAny_pure ?_)
 have hs₂':Heap.SameBut i1 h₁ h₂:=hs₂
 have hTO₂:IsPair h₂ TO a b:=hs₂'.extBut _ _ D.TOi1 (hs₁.extBut _ _ D.TOz hTO)
 refine wpAny_bind (wpAny_seqItems hTO₂ rfl (wpAny_bind (wpAny_updateSeq_pair hTO₂ fun h₃ hTO₃ hs₃=>wpAny_bind (wpAny_letGo (wpAny_pure ?_)))))
 replace hTO₃:IsPair h₃ TO x b:=hTO₃
 have hs₃':Heap.SameBut TO h₂ h₃:=hs₃
 refine wpAny_bind (wpAny_bind (wpAny_onRaise ?_))
 show wpAny _ _ (Builtin.SmallTypes.nextOf (.ref i2) >>= _) _ _ _
 refine wpAny_bind (Zdb (S:=S2) (us:=us2) (k:=k)
  (S2.at_keep (fun o e=>hs₃'.extBut _ o D.TOi2.symm (hs₂'.extBut _ o D.i12.symm (hs₁.extBut _ o D.i2z e))) h2)
  (S2.raw_keep (fun c o n e=>hs₃'.extBut c o n e) D.s2TO (S2.raw_keep (fun c o n e=>hs₂'.extBut c o n e) D.s2i1 (S2.raw_keep (fun c o n e=>hs₁.extBut c o n e) D.s2z r2))) m2 fun h₄ tk₄ y fy h2₄ hs₄=>wpAny_pure ?_)
 have hs₄':Heap.SameBut i2 h₃ h₄:=hs₄
 have hTO₄:IsPair h₄ TO x b:=hs₄'.extBut _ _ D.TOi2 hTO₃
 refine wpAny_bind (wpAny_seqItems hTO₄ rfl (wpAny_bind (wpAny_updateSeq_pair hTO₄ fun h₅ hTO₅ hs₅=>wpAny_bind (wpAny_letGo (wpAny_pure (wpAny_pure ?_))))))
 replace hTO₅:IsPair h₅ TO x y:=hTO₅
 have hs₅':Heap.SameBut TO h₄ h₅:=hs₅
 refine wpAny_bind (wpAny_seqItems hTO₅ rfl (wpAny_bind (wpAny_newTuple ?_)))
 have hsz:h₅.objs.size=s.heap.objs.size:=by rw[hs₅'.1,hs₄'.1,hs₃'.1,hs₂'.1,hs₁.1]
 have hz₅:IsZip h₅ z TI TO .ellipsis:=hs₅'.extBut _ _ D.TOz.symm (hs₄'.extBut _ _ D.i2z.symm (hs₃'.extBut _ _ D.TOz.symm (hs₂'.extBut _ _ D.i1z.symm hz₁)))
 have hk₅:∀c o,c≠z→c≠TO→c≠i1→c≠i2→s.heap.get? c=some o→h₅.get? c=some o:=fun c o c1 c2 c3 c4 e =>
  hs₅'.extBut _ _ c2 (hs₄'.extBut _ _ c4 (hs₃'.extBut _ _ c2 (hs₂'.extBut _ _ c3 (hs₁.extBut _ _ c1 e))))
 have h1₅:S1.at h₅ i1 (k+1):=S1.at_keep (fun o e=>hs₅'.extBut _ o D.TOi1.symm (hs₄'.extBut _ o D.i12 (hs₃'.extBut _ o D.TOi1.symm e))) h1₂
 have h2₅:S2.at h₅ i2 (k+1):=S2.at_keep (fun o e=>hs₅'.extBut _ o D.TOi2.symm e) h2₄
 have hzlt:z<h₅.objs.size:=Qv hz₅
 show wpAny _ _ (Builtin.SmallTypes.ownedTupleHandOut (.ref z) (.ref h₅.objs.size) >>= _) _ _ _
 refine wpAny_bind ?_
 unfold Builtin.SmallTypes.ownedTupleHandOut
 have hz₆:IsZip (h₅.push { cls:=.type "tuple",data:=.seq #[x,y] }) z TI TO .ellipsis:=Qc _ hz₅
 refine wpAny_bind (wpAny_setField_rec hz₆ (by simp) fun h₇ hz₇ hs₇=>?_)
 replace hz₇:IsZip h₇ z TI TO (rawInt h₅.objs.size):=hz₇
 refine wpAny_setField_rec hz₇ (by simp) fun h₈ hz₈ hs₈=>?_
 replace hz₈:IsZip h₈ z TI TO (rawInt h₅.objs.size):=hz₈
 have up:∀c o,c≠z→h₅.get? c=some o→h₈.get? c=some o:=fun c o c1 e=>hs₈.extBut _ _ c1 (hs₇.extBut _ _ c1 (Qc _ e))
 have hT₈:IsPair h₈ h₅.objs.size x y:=hs₈.extBut _ _ (Q5 hzlt) (hs₇.extBut _ _ (Q5 hzlt) (Qu _ rfl))
 have hz8:h₈.objs.size=h₅.objs.size+1:=by rw[hs₈.1,hs₇.1,Qac]
 rw[hsz]at hz₈ hT₈ hz8
 refine wpAny_pure ⟨_,rfl,wpAny_pure ?_⟩
 show Q (some (.ref h₅.objs.size)) _
 rw[hsz]
 exact hQ h₈ tk₄ x y fx fy hz₈ (up _ _ D.TOz hTO₅) (S1.at_keep (fun o e=>up _ o D.i1z e) h1₅) (S2.at_keep (fun o e=>up _ o D.i2z e) h2₅) hT₈ hz8 fun c o c1 c2 c3 c4 e=>up c o c1 (hk₅ c o c1 c2 c3 c4 e)
theorem Znr{z TI TO i1 i2:Addr}{S1 S2:Src}{k:Nat}{us1 us2:List Value}{a b:Value}{Q:Option Value→Shared→Prop}(hh:A.handled=none)(D:Zhr z TI TO i1 i2 S1 S2)
  (hz:IsZip s.heap z TI TO .none) (hTI:IsPair s.heap TI (.ref i1) (.ref i2)) (hTO:IsPair s.heap TO a b)
  (h1:S1.at s.heap i1 k) (h2:S2.at s.heap i2 k) (r1:S1.raw s.heap us1) (r2:S2.raw s.heap us2) (hend:S1.many us1≤k∨S2.many us2≤k)
  (hQ:∀h' tk,(∀c o,c≠z→c≠TO→c≠i1→c≠i2→s.heap.get? c=some o→h'.get? c=some o)→Q none { s with heap:=h',toks:=tk }) :
  wpAny (model prog w) A (pyNext (.ref z)) Q E s:=by
 have hT:s.TypeIs (.ref z) "zip":=⟨_,hz,rfl⟩
 unfold pyNext
 have done:∀ (h':Heap) (tk:Nat) (e:Addr),(∀c o,c≠z→c≠TO→c≠i1→c≠i2→s.heap.get? c=some o→h'.get? c=some o)→(∃o,h'.get? e=some o∧o.cls=.type "StopIteration") →
   wpAny (model prog w) A (do if (← isInstance (.ref e) (.type "StopIteration")) then pure none else throw (.ref e):Sem (Option Value)) Q E { s with heap:=h',toks:=tk }:=fun h' tk e hk ⟨o,ho,hc⟩=>
  wpAny_bind (wpAny_isInstance (T := "StopIteration") (b:=true) ⟨o,ho,hc⟩ isSubtype_stop (wpAny_pure (hQ h' tk hk)))
 refine wpAny_bind (wpAny_attempt (wpAny_callSpecial?_slot (name:=Str.ofString "__next__") hT F.slot_zip_next (wpAny_call_entry F.slot_zip_next hT F.entry_zip_next ?_ (F.args_zip_next_1 _))))
 show wpAny _ _ (field (.ref z) 2 >>= _) _ _ _
 refine wpAny_bind (wpAny_field hz rfl (x:=.bool false) rfl ?_)
 show wpAny _ _ (field (.ref z) 3 >>= _) _ _ _
 refine wpAny_bind (wpAny_field hz rfl (x:=.ref TI) rfl (wpAny_bind (wpAny_seqItems hTI rfl ?_)))
 show wpAny _ _ (Builtin.SmallTypes.ownedTupleIsFree (.ref z) >>= _) _ _ _
 unfold Builtin.SmallTypes.ownedTupleIsFree
 refine wpAny_bind (wpAny_bind (wpAny_field hz rfl (x:=.none) rfl (wpAny_pure ?_)))
 simp only[if_true]
 refine wpAny_bind (wpAny_rule (wpAny_bind (wpAny_field hz rfl (x:=.ref TO) rfl (wpAny_bind (wpAny_setField_rec hz (by simp) fun h₁ hz₁ hs₁=>?_)))))
 replace hz₁:IsZip h₁ z TI TO .ellipsis:=hz₁
 refine wpAny_bind ?_
 simp only[List.zipIdx_cons,List.zipIdx_nil,List.forIn_cons,List.forIn_nil]
 refine wpAny_bind (wpAny_bind (wpAny_onRaise ?_))
 show wpAny _ _ (Builtin.SmallTypes.nextOf (.ref i1) >>= _) _ _ _
 by_cases m1:k<S1.many us1
 ·have m2:S2.many us2≤k:=by rcases hend with z'|z';omega;exact z'
  refine wpAny_bind (Zdb (S:=S1) (us:=us1) (k:=k) (S1.at_keep (fun o e=>hs₁.extBut _ o D.i1z e) h1) (S1.raw_keep (fun c o n e=>hs₁.extBut c o n e) D.s1z r1) m1 fun h₂ tk₂ x fx h1₂ hs₂=>wpAny_pure ?_)
  have hs₂':Heap.SameBut i1 h₁ h₂:=hs₂
  have hTO₂:IsPair h₂ TO a b:=hs₂'.extBut _ _ D.TOi1 (hs₁.extBut _ _ D.TOz hTO)
  refine wpAny_bind (wpAny_seqItems hTO₂ rfl (wpAny_bind (wpAny_updateSeq_pair hTO₂ fun h₃ hTO₃ hs₃=>wpAny_bind (wpAny_letGo (wpAny_pure ?_)))))
  have hs₃':Heap.SameBut TO h₂ h₃:=hs₃
  refine wpAny_bind (wpAny_bind (wpAny_onRaise ?_))
  show wpAny _ _ (Builtin.SmallTypes.nextOf (.ref i2) >>= _) _ _ _
  refine wpAny_bind (ZfG (S:=S2) (us:=us2) (k:=k) hh
   (S2.at_keep (fun o e=>hs₃'.extBut _ o D.TOi2.symm (hs₂'.extBut _ o D.i12.symm (hs₁.extBut _ o D.i2z e))) h2)
   (S2.raw_keep (fun c o n e=>hs₃'.extBut c o n e) D.s2TO (S2.raw_keep (fun c o n e=>hs₂'.extBut c o n e) D.s2i1 (S2.raw_keep (fun c o n e=>hs₁.extBut c o n e) D.s2z r2))) m2 fun h₄ e hs₄ he=>?_)
  obtain⟨oe,hoe,hce⟩:=he
  have hz₄:IsZip h₄ z TI TO .ellipsis:=hs₄ _ _ D.i2z.symm (hs₃'.extBut _ _ D.TOz.symm (hs₂'.extBut _ _ D.i1z.symm hz₁))
  have hez:e≠z:=fun x=>by subst x;rw[hz₄]at hoe;cases hoe;simp at hce
  exact wpAny_setField_rec hz₄ (by simp) fun h₅ _ hs₅=>done h₅ _ e (fun c o c1 c2 c3 c4 x=>hs₅.extBut _ _ c1 (hs₄ _ _ c4 (hs₃'.extBut _ _ c2 (hs₂'.extBut _ _ c3 (hs₁.extBut _ _ c1 x))))) ⟨oe,hs₅.extBut _ _ hez hoe,hce⟩
 ·refine wpAny_bind (ZfG (S:=S1) (us:=us1) (k:=k) hh (S1.at_keep (fun o e=>hs₁.extBut _ o D.i1z e) h1) (S1.raw_keep (fun c o n e=>hs₁.extBut c o n e) D.s1z r1) (by omega) fun h₂ e hs₂ he=>?_)
  obtain⟨oe,hoe,hce⟩:=he
  have hz₂:IsZip h₂ z TI TO .ellipsis:=hs₂ _ _ D.i1z.symm hz₁
  have hez:e≠z:=fun x=>by subst x;rw[hz₂]at hoe;cases hoe;simp at hce
  exact wpAny_setField_rec hz₂ (by simp) fun h₃ _ hs₃=>done h₃ _ e (fun c o c1 _ c3 _ x=>hs₃.extBut _ _ c1 (hs₂ _ _ c3 (hs₁.extBut _ _ c1 x))) ⟨oe,hs₃.extBut _ _ hez hoe,hce⟩
end
def Src.iter(tk:Tok):Src→Obj
 | .l a=>{ cls:=.type "list_iterator",data:=.fields #[.ref a,.int 0 0] }
 | .t a=>{ cls:=.type "tuple_iterator",data:=.fields #[.ref a,.int 0 0] }
 | .s z=>{ cls:=.type (strIterType z),data:=.fields #[.str z tk,.int 0 0] }
def Src.value(tk:Tok):Src→Value
 | .l a=>.ref a
 | .t a=>.ref a
 | .s z=>.str z tk
theorem Src.iter_at{h:Heap}{i:Addr}{tk:Tok}:∀ {S:Src},h.get? i=some (S.iter tk)→S.at h i 0
 | .l _,e=>⟨_,e,rfl,rfl⟩
 | .t _,e=>⟨_,e,rfl,rfl⟩
 | .s _,e=>⟨tk,_,e,rfl,rfl⟩
theorem Src.pyIter{prog:Program}{w:World}{A:Around}{E:Value→Shared→Prop}{s:Shared}{tk:Tok}{us:List Value}{Q:Value→Shared→Prop}:∀ {S:Src},S.raw s.heap us →
  Q (.ref s.heap.objs.size) { s with heap:=s.heap.push (S.iter tk) }→wpAny (model prog w) A (pyIter (S.value tk)) Q E s
 | .l _,r,q=>wpAny_pyIter_list r q
 | .t _,r,q=>wpAny_pyIter_tuple r q
 | .s _,_,q=>wpAny_pyIter_strU q
theorem Src.raw_push{h:Heap}{ob:Obj}:∀ {S:Src} {us:List Value},S.raw h us→S.raw (h.push ob) us
 | .l _,_,⟨o,e,d⟩=>⟨o,Qc _ e,d⟩
 | .t _,_,⟨o,e,d⟩=>⟨o,Qc _ e,d⟩
 | .s _,_,_=>trivial
abbrev zH1(h:Heap)(S1:Src)(t1:Tok):Heap:=h.push (S1.iter t1)
abbrev zH2(h:Heap)(S1 S2:Src)(t1 t2:Tok):Heap:=(zH1 h S1 t1).push (S2.iter t2)
abbrev zH3(h:Heap)(S1 S2:Src)(t1 t2:Tok):Heap:=(zH2 h S1 S2 t1 t2).push { cls:=.type "tuple",data:=.seq #[.ref h.objs.size,.ref (zH1 h S1 t1).objs.size] }
abbrev zH4(h:Heap)(S1 S2:Src)(t1 t2:Tok):Heap:=(zH3 h S1 S2 t1 t2).push { cls:=.type "tuple",data:=.seq #[.none,.none] }
abbrev zH5(h:Heap)(S1 S2:Src)(t1 t2:Tok):Heap:=(zH4 h S1 S2 t1 t2).push { cls:=.type "zip",data:=.fields #[.none,.bool false,.bool false,.ref (zH2 h S1 S2 t1 t2).objs.size,.ref (zH3 h S1 S2 t1 t2).objs.size] }
theorem ZnQ(S1 S2:Src)(t1 t2:Tok)(us1 us2:List Value) :
  Meets (Builtin.«zip.__new__» ⟨[.type "zip",S1.value t1,S2.value t2],[]⟩) (fun _ R s=>S1.raw s.heap us1∧S2.raw s.heap us2 ∧
   R (.ok (.ret (.ref (zH4 s.heap S1 S2 t1 t2).objs.size))) { s with heap:=zH5 s.heap S1 S2 t1 t2 }) :=
 .of_wp fun prog w A R s h=>by
  obtain⟨hp,g,d,tk,os⟩:=s;obtain⟨r1,r2,h⟩:=h
  have hsub:=sub_zip
  have q1:∀ {A:Around} {E:Value→Shared→Prop} {Q:Value→Shared→Prop},Q (.ref hp.objs.size) ⟨zH1 hp S1 t1,g,d,tk,os⟩→wpAny (model prog w) A (pyIter (S1.value t1)) Q E ⟨hp,g,d,tk,os⟩:=
   fun {A E Q} q=>Src.pyIter (s:=⟨hp,g,d,tk,os⟩) (us:=us1) r1 q
  have q2:∀ {A:Around} {E:Value→Shared→Prop} {Q:Value→Shared→Prop},Q (.ref (zH1 hp S1 t1).objs.size) ⟨zH2 hp S1 S2 t1 t2,g,d,tk,os⟩→wpAny (model prog w) A (pyIter (S2.value t2)) Q E ⟨zH1 hp S1 t1,g,d,tk,os⟩:=
   fun {A E Q} q=>Src.pyIter (s:=⟨zH1 hp S1 t1,g,d,tk,os⟩) (us:=us2) (S2.raw_push r2) q
  generalize S1.value t1=v1 at q1 ⊢
  generalize S2.value t2=v2 at q2 ⊢
  wp_walk using q1,q2
  exact⟨_,rfl,h⟩
section
variable {prog:Program} {w:World} {A:Around} {E:Value→Shared→Prop} {s:Shared}
theorem ZmE{S1 S2:Src}{t1 t2:Tok}{us1 us2:List Value}{Q:Value→Shared→Prop}(r1:S1.raw s.heap us1)(r2:S2.raw s.heap us2)
  (h:∀h',IsZip h' (s.heap.objs.size+4) (s.heap.objs.size+2) (s.heap.objs.size+3) .none→IsPair h' (s.heap.objs.size+2) (.ref s.heap.objs.size) (.ref (s.heap.objs.size+1)) →
   IsPair h' (s.heap.objs.size+3) .none .none→S1.at h' s.heap.objs.size 0→S2.at h' (s.heap.objs.size+1) 0→h'.objs.size=s.heap.objs.size+5 →
   (∀c o,s.heap.get? c=some o→h'.get? c=some o)→Q (.ref (s.heap.objs.size+4)) { s with heap:=h' }) :
  wpAny (model prog w) A (call (.type "zip") [S1.value t1,S2.value t2]) Q E s:=by
 refine callType_new F.called_zip (by decide) (F.typeCall_zip_2 _ _) (F.newCall_zip_2 _ _) (fun obj=>F.args_object_init_3 obj _ _) F.entry_zip_new (ZnQ S1 S2 t1 t2 us1 us2) ⟨r1,r2,?_⟩
 have z1:(zH1 s.heap S1 t1).objs.size=s.heap.objs.size+1:=Qac ..
 have z2:(zH2 s.heap S1 S2 t1 t2).objs.size=s.heap.objs.size+2:=by rw[Qac,z1]
 have z3:(zH3 s.heap S1 S2 t1 t2).objs.size=s.heap.objs.size+3:=by rw[Qac,z2]
 have z4:(zH4 s.heap S1 S2 t1 t2).objs.size=s.heap.objs.size+4:=by rw[Qac,z3]
 have z5:(zH5 s.heap S1 S2 t1 t2).objs.size=s.heap.objs.size+5:=by rw[Qac,z4]
 have fr:∀ (tk:Tok) (S:Src),(S.iter tk).isFreed=false:=fun tk S=>by cases S<;>rfl
 have g5:(zH5 s.heap S1 S2 t1 t2).get? (zH4 s.heap S1 S2 t1 t2).objs.size=some _:=Qu _ rfl
 have g4:(zH5 s.heap S1 S2 t1 t2).get? (zH3 s.heap S1 S2 t1 t2).objs.size=some _:=Qc _ (Qu _ rfl)
 have g3:(zH5 s.heap S1 S2 t1 t2).get? (zH2 s.heap S1 S2 t1 t2).objs.size=some _:=Qc _ (Qc _ (Qu _ rfl))
 have g2:(zH5 s.heap S1 S2 t1 t2).get? (zH1 s.heap S1 t1).objs.size=some (S2.iter t2):=Qc _ (Qc _ (Qc _ (Qu _ (fr _ _))))
 have g1:(zH5 s.heap S1 S2 t1 t2).get? s.heap.objs.size=some (S1.iter t1):=Qc _ (Qc _ (Qc _ (Qc _ (Qu _ (fr _ _)))))
 show _∧_
 rw[z2,z3,z4]at g5
 rw[z1,z2]at g3
 rw[z3]at g4
 rw[z1]at g2
 rw[z4]
 exact⟨⟨_,g5,rfl⟩,h _ g5 g3 g4 (Src.iter_at g1) (Src.iter_at g2) z5 fun c o x =>
  Qc _ (Qc _ (Qc _ (Qc _ (Qc _ x))))⟩
end
def Itz(K:PySem.W.Frag)(S1 S2:Src):It :=
 ⟨fun i H=>∃xs ys,S1.its K H xs∧S2.its K H ys∧i<xs.length∧i<ys.length,
  fun i H v H'=>∃p,H p=none∧v=.ref p∧∀xs ys,S1.its K H xs→S2.its K H ys→∀x y,xs[i]? = some x→ys[i]? = some y→H'=upd H p (.tup [x,y]),
  fun i H=>∃xs ys,S1.its K H xs∧S2.its K H ys∧(xs.length≤i∨ys.length≤i)⟩
section
variable {X:Cx} {pins:List (Addr×Obj)} {σ:St} {H:Hp} {s:Shared}
theorem Inv.src(I:Inv X pins σ H s):∀ {S:Src} {xs:List V},S.its X.K H xs→∃us,S.raw s.heap us∧S.many us=xs.length∧∀k u x,S.fit us k u→xs[k]? = some x→Zx x u
 | .l a,xs,h=>by
  obtain⟨its,rv,pl,_⟩:=I.list h
  refine⟨its,pl.isList,rv.length.symm,fun k u x e1 e2=>?_⟩
  obtain⟨u',e3,r⟩:=rv.get e2
  rw[show its[k]? = some u from e1]at e3;cases e3
  exact r
 | .t a,xs,h=>by
  obtain⟨its,rv,pl,_⟩:=I.tuple h
  refine⟨its,pl,rv.length.symm,fun k u x e1 e2=>?_⟩
  obtain⟨u',e3,r⟩:=rv.get e2
  rw[show its[k]? = some u from e1]at e3;cases e3
  exact r
 | .s z,xs,h=>by
  refine⟨[],trivial,?_,fun k u x e1 e2=>?_⟩
  ·rw[show xs=_ from h,Qb];simp[Src.many]
  ·obtain⟨c,tk,e3,e4⟩:=e1
   subst e4
   rw[show xs=_ from h,Qj]at e2
   have e5:z.cps.toList[k]? = some c:=by simpa using e3
   rw[e5]at e2
   cases e2
   exact⟨tk,rfl⟩
theorem Inv.src_off(I:Inv X pins σ H s){b:Addr}(hb:ZeY X pins H b):∀ {S:Src} {xs:List V},S.its X.K H xs→S.off b
 | .l a,xs,h=>by
  rcases h with(h|⟨ob,h⟩)|⟨o,its,n,hk,_⟩
  ·exact Zb h hb.1
  ·exact Zb h hb.1
  ·rintro rfl
   have e:=I.ok.mod.kin a o hk
   rcases hb.2.2.2.1 with z|z
   ·exact I.ok.noex a o e z
   ·exact absurd (QG (Qv e) (QM I.ok.bsz z)) (Qaa _)
 | .t a,xs,h=>by
  rcases h with(h|⟨ob,h⟩)|⟨o,its,n,hk,_⟩
  ·exact Zb h hb.1
  ·exact Zb h hb.1
  ·rintro rfl
   have e:=I.ok.mod.kin a o hk
   rcases hb.2.2.2.1 with z|z
   ·exact I.ok.noex a o e z
   ·exact absurd (QG (Qv e) (QM I.ok.bsz z)) (Qaa _)
 | .s z,xs,h=>trivial
theorem Inv.zipped{fp:List Addr}{h':Heap}{tk:Nat}{x y:V}{u v:Value}(I:Inv X pins σ H s)(hf:∀b∈fp,ZeY X pins H b)(rx:Zx x u)(ry:Zx y v)
  (hp:IsPair h' s.heap.objs.size u v) (hfh:∀b∈fp,∃o,h'.get? b=some o) (hk:∀c o,c ∉ fp→s.heap.get? c=some o→h'.get? c=some o) :
  Inv X pins σ (upd H s.heap.objs.size (.tup [x,y])) { s with heap:=h',toks:=tk }:=by
 have hn:H s.heap.objs.size=none:=I.fresh
 have ne:∀b ob,s.heap.get? b=some ob→b≠s.heap.objs.size:=fun b ob e=>QH (Qv e)
 have nt:∀b u,H b=some u→b≠s.heap.objs.size:=fun b u e=>Zb e hn
 have nfp:∀b u,H b=some u→b ∉ fp:=fun b u e hb=>by rw[(hf b hb).1]at e;cases e
 refine I.step (g':=s.gens) (d':=s.drawn) (ch:=fp) (fun b hb=>⟨(hf b hb).2.2.2.1,(hf b hb).2.1,(hf b hb).2.2.2.2.1,(hf b hb).2.2.2.2.2⟩)
  (fun b ob _ _ hc e _=>hk b ob hc e) (fun b ob _ _ hc e _=>⟨ob.slots,hk b ob hc e⟩) (fun b ob _ e n=>by rw[Zd (ne b ob e)];exact n) (fun b ob hc e=>⟨ob,hk b ob hc e⟩)
  (fun b xs e=>by rw[Zd (nt b _ e)];exact e) (fun b ob u e=>by rw[Zd (nt b _ e)];exact e) (fun b ps e=>⟨#[],by rw[Zd (nt b _ e),e];simp⟩) (fun m hm=>?_) (fun b ub e=>?_) I.bare
 ·obtain⟨ob,es,ep,ho,r⟩:=hm
  exact⟨ob,es,ep,hk _ ob (fun z=>(hf _ z).2.1 rfl) ho,r⟩
 ·by_cases hb:b=s.heap.objs.size
  ·subst hb
   rw[Zc]at e;cases e
   exact⟨by show 2≤sizeLine;decide,[u,v],.cons rx (.cons ry .nil),⟨_,hp,rfl,_,rfl⟩⟩
  ·rw[Zd hb]at e
   refine(I.hok b ub e).stay (fun c w' hc q=>hk c w' ?_ q) (fun c q=>by rw[Zd (nt c _ q)];exact q) fun c xs q=>by rw[Zd (nt c _ q)];exact q
   rcases hc with z|z
   ·rw[z];exact nfp b ub e
   ·exact nfp c _ z
end
theorem Znn{P:Program}{w:World}{K:PySem.W.Frag}{elts:List Expr}{x1:Nat}{tpos:Pos}{S1 S2:Src}{z TI TO i1 i2:Addr}
  (d1:TI≠z) (d2:TO≠z) (d3:i1≠z) (d4:i2≠z) (d5:TI≠TO) (d6:TI≠i1) (d7:TI≠i2) (d8:TO≠i1) (d9:TO≠i2) (d10:i1≠i2) :
  ZkR P w K (.Tuple elts x1 tpos) (Itz K S1 S2) [z,TI,TO,i1,i2] z
   (fun i h=>IsZip h z TI TO .none∧IsPair h TI (.ref i1) (.ref i2)∧(∃a b,IsPair h TO a b)∧S1.at h i1 i∧S2.at h i2 i) where
 mem:=by simp
 obj:=fun i h st b hb=>by
  obtain⟨hz,hTI,⟨a,b',hTO⟩,h1,h2⟩:=st
  have nf:∀ {o:Obj} {vs:Array Value},o.data=.fields vs→∀v,o.data≠.cell v:=fun d v e=>by rw[d]at e;cases e
  simp only[List.mem_cons,List.not_mem_nil,or_false]at hb
  rcases hb with rfl|rfl|rfl|rfl|rfl
  ·exact⟨_,hz,nf rfl⟩
  ·exact⟨_,hTI,fun v e=>by cases e⟩
  ·exact⟨_,hTO,fun v e=>by cases e⟩
  ·obtain⟨o,vs,e,d⟩:=Src.at_obj h1;exact⟨o,e,nf d⟩
  ·obtain⟨o,vs,e,d⟩:=Src.at_obj h2;exact⟨o,e,nf d⟩
 keep:=fun i h h' st k=>by
  obtain⟨hz,hTI,⟨a,b',hTO⟩,h1,h2⟩:=st
  exact⟨k z (by simp) _ hz,k TI (by simp) _ hTI,⟨a,b',k TO (by simp) _ hTO⟩,Src.at_keep (fun o e=>k i1 (by simp) o e) h1,Src.at_keep (fun o e=>k i2 (by simp) o e) h2⟩
 item:=by
  intro X hP hw hK hc i pins s σ H E I hf st hg
  subst hP hw hK
  obtain⟨hz,hTI,⟨a,b',hTO⟩,h1,h2⟩:=st
  obtain⟨xs,ys,q1,q2,l1,l2⟩:=hg
  obtain⟨us1,r1,m1,f1⟩:=I.src q1
  obtain⟨us2,r2,m2,f2⟩:=I.src q2
  have hfz:=hf z (by simp)
  have D:Zhr z TI TO i1 i2 S1 S2:=⟨d1,d2,d3,d4,d5,d6,d7,d8,d9,d10,I.src_off hfz q1,I.src_off (hf TO (by simp)) q1,I.src_off (hf i1 (by simp)) q1,I.src_off (hf i2 (by simp)) q1,
   I.src_off hfz q2,I.src_off (hf TO (by simp)) q2,I.src_off (hf i1 (by simp)) q2,I.src_off (hf i2 (by simp)) q2⟩
  refine Zm1 D hz hTI hTO h1 h2 r1 r2 (by omega) (by omega) fun h' tk x y fx fy a1 a2 a3 a4 a5 a6 a7=>?_
  have rx:=f1 i x _ fx (Qa l1)
  have ry:=f2 i y _ fy (Qa l2)
  refine⟨_,rfl,wpAny_letOwnedTupleGo_zip a1 fun h'' hz'' hs''=>?_⟩
  have hs':Heap.SameBut z h' h'':=hs''
  have hTI':IsPair h' TI (.ref i1) (.ref i2):=a7 _ _ d1 d5 d6 d7 hTI
  have lt:∀ {b:Addr} {o:Obj},s.heap.get? b=some o→s.heap.objs.size≠b:=fun e=>Q5 (Qv e)
  have hzs:s.heap.objs.size≠z:=lt hz
  have I2:Inv X pins σ (upd H s.heap.objs.size (.tup [xs[i],ys[i]])) { s with heap:=h'',toks:=tk }:=by
   refine I.zipped (fp:=[z,TI,TO,i1,i2]) hf rx ry (hs'.extBut _ _ hzs a5) (fun b hb=>?_) fun c o hc e=>?_
   ·simp only[List.mem_cons,List.not_mem_nil,or_false]at hb
    rcases hb with rfl|rfl|rfl|rfl|rfl
    ·exact⟨_,hz''⟩
    ·exact⟨_,hs'.extBut _ _ d1 hTI'⟩
    ·exact⟨_,hs'.extBut _ _ d2 a2⟩
    ·obtain⟨o,vs,e,_⟩:=Src.at_obj a3;exact⟨o,hs'.extBut _ _ d3 e⟩
    ·obtain⟨o,vs,e,_⟩:=Src.at_obj a4;exact⟨o,hs'.extBut _ _ d4 e⟩
   ·simp only[List.mem_cons,List.not_mem_nil,or_false,not_or]at hc
    exact hs'.extBut _ _ hc.1 (a7 c o hc.1 hc.2.2.1 hc.2.2.2.1 hc.2.2.2.2 e)
  refine⟨.ref s.heap.objs.size,_,I2,rfl,⟨s.heap.objs.size,I.fresh,rfl,fun xs' ys' w1 w2 x' y' e1 e2=>?_⟩,⟨hz'',hs'.extBut _ _ d1 hTI',⟨_,_,hs'.extBut _ _ d2 a2⟩,Src.at_keep (fun o e=>hs'.extBut _ o d3 e) a3,Src.at_keep (fun o e=>hs'.extBut _ o d4 e) a4⟩,fun b hb=>?_⟩
  ·have same:∀ {S:Src} {us vs:List V},S.its X.K H us→S.its X.K H vs→us=vs:=fun {S us vs} p q=>by
    cases S with
    | l a=>exact I.list_inj p q
    | t a=>exact I.tuple_inj p q
    | s z=>rw[show us=_ from p,show vs=_ from q]
   have e3:=same w1 q1
   have e4:=same w2 q2
   subst e3;subst e4
   rw[Qa l1]at e1
   rw[Qa l2]at e2
   cases e1;cases e2
   rfl
  ·rw[Zd (fun e=>by
    obtain⟨o,e1,_⟩:∃o,s.heap.get? b=some o∧True:=by
     simp only[List.mem_cons,List.not_mem_nil,or_false]at hb
     rcases hb with rfl|rfl|rfl|rfl|rfl
     ·exact⟨_,hz,trivial⟩
     ·exact⟨_,hTI,trivial⟩
     ·exact⟨_,hTO,trivial⟩
     ·obtain⟨o,vs,e,_⟩:=Src.at_obj h1;exact⟨o,e,trivial⟩
     ·obtain⟨o,vs,e,_⟩:=Src.at_obj h2;exact⟨o,e,trivial⟩
    exact lt e1 e.symm)]
   exact(hf b hb).1
 done:=by
  intro X hP hw hK hc i pins s σ H E I hf st hg
  subst hP hw hK
  obtain⟨hz,hTI,⟨a,b',hTO⟩,h1,h2⟩:=st
  obtain⟨xs,ys,q1,q2,l⟩:=hg
  obtain⟨us1,r1,m1,f1⟩:=I.src q1
  obtain⟨us2,r2,m2,f2⟩:=I.src q2
  have hfz:=hf z (by simp)
  have D:Zhr z TI TO i1 i2 S1 S2:=⟨d1,d2,d3,d4,d5,d6,d7,d8,d9,d10,I.src_off hfz q1,I.src_off (hf TO (by simp)) q1,I.src_off (hf i1 (by simp)) q1,I.src_off (hf i2 (by simp)) q1,
   I.src_off hfz q2,I.src_off (hf TO (by simp)) q2,I.src_off (hf i1 (by simp)) q2,I.src_off (hf i2 (by simp)) q2⟩
  refine Znr (I.ok.hd hc) D hz hTI hTO h1 h2 r1 r2 (by omega) fun h' tk hk=>⟨rfl,?_⟩
  have kf:∀c o,c ∉ [z,TI,TO,i1,i2]→s.heap.get? c=some o→h'.get? c=some o:=fun c o hc e=>by
   simp only[List.mem_cons,List.not_mem_nil,or_false,not_or]at hc
   exact hk c o hc.1 hc.2.2.1 hc.2.2.2.1 hc.2.2.2.2 e
  have nfp:∀b u,H b=some u→b ∉ [z,TI,TO,i1,i2]:=fun b u e hb=>by rw[(hf b hb).1]at e;cases e
  refine I.step (g':=s.gens) (d':=s.drawn) (ch:=[z,TI,TO,i1,i2]) (fun b hb=>⟨(hf b hb).2.2.2.1,(hf b hb).2.1,(hf b hb).2.2.2.2.1,(hf b hb).2.2.2.2.2⟩)
   (fun b ob _ _ hc e _=>kf b ob hc e) (fun b ob _ _ hc e _=>⟨ob.slots,kf b ob hc e⟩) (fun b ob _ e n=>n) (fun b ob hc e=>⟨ob,kf b ob hc e⟩)
   (fun b xs e=>e) (fun b ob u e=>e) (fun b ps e=>⟨#[],by rw[e];simp⟩) (fun m hm=>?_) (fun b ub e=>?_) I.bare
  ·obtain⟨ob,es,ep,ho,r⟩:=hm
   exact⟨ob,es,ep,kf _ ob (fun z=>(hf _ z).2.1 rfl) ho,r⟩
  ·refine(I.hok b ub e).stay (fun c w' hc q=>kf c w' ?_ q) (fun c q=>q) fun c xs q=>q
   rcases hc with z'|z'
   ·rw[z'];exact nfp b ub e
   ·exact nfp c _ z'
 self:=fun _ _ _ _ _ st h=>wpAny_pyIter_zip st.1 h
def ZrK(K:PySem.W.Frag)(ta:TA):TI:=fun σ H R=>ta σ H fun vs H1=>∃S1 S2 xs ys,vs=[Src.val S1,Src.val S2]∧S1.its K H1 xs∧S2.its K H1 ys∧R (Itz K S1 S2) H1
theorem Zpx{X:Cx}{a b:Expr}{ta:TA}{p pos:Pos}{elts:List Expr}{x1:Nat}{tpos:Pos}(hg:Gl X "zip")(hm:X.mg "zip" = none)(ha:PA X [a,b] ta)
  (hs:starEach [a,b] X.env=[(false,eval a X.env),(false,eval b X.env)]:=by rfl) (hs2:starEach [b] X.env=[(false,eval b X.env)]:=by rfl) :
  PI X (.Tuple elts x1 tpos) (.Call (.Name "zip" p) [a,b] [] pos) (ZrK X.K ta):=by
 intro pins s σ H R I h
 refine Call_ (ZdQ I hg hm boot_zip (Q4 (thn (ha pos pins s σ H _ I h) ?_) (by rw[hs,hs2]) (by rw[hs2];rfl)))
 rintro us s1 ⟨vs,H1,I1,r1,q1⟩
 obtain⟨S1,S2,xs,ys,e,y1,y2,q⟩:=q1
 subst e
 obtain⟨u1,u2,rfl,w1,w2⟩:=r1.two
 have vo:∀ {S:Src} {u:Value},Zx S.val u→∃tk,u=S.value tk:=fun {S u} r=>by
  cases S with
  | l a=>exact⟨0,r⟩
  | t a=>exact⟨0,r⟩
  | s z=>obtain⟨tk,e⟩:=r;exact⟨tk,e⟩
 obtain⟨t1,rfl⟩:=vo w1
 obtain⟨t2,rfl⟩:=vo w2
 obtain⟨us1,r1,m1,f1⟩:=I1.src y1
 obtain⟨us2,r2,m2,f2⟩:=I1.src y2
 refine ZmE r1 r2 fun h' hz hTI hTO a1 a2 a3 hk=>wpAny_pyIter_zip hz ?_
 have I2:Inv X pins σ H1 { s1 with heap:=h' }:=I1.kept (t':=s1.toks) hk
 have n:=s1.heap.objs.size
 refine⟨_,_,_,_,H1,rfl,I2,Znn (S1:=S1) (S2:=S2) (z:=s1.heap.objs.size+4) (TI:=s1.heap.objs.size+2) (TO:=s1.heap.objs.size+3) (i1:=s1.heap.objs.size) (i2:=s1.heap.objs.size+1)
  (QH (Qaj (by decide) _)) (QH (Qaj (by decide) _)) (QH (Qas (by decide))) (QH (Qaj (by decide) _))
  (QH (Qaj (by decide) _)) (Q5 (Qas (by decide))) (Q5 (Qaj (by decide) _)) (Q5 (Qas (by decide)))
  (Q5 (Qaj (by decide) _)) (QH (Qas (by decide))),⟨hz,hTI,⟨_,_,hTO⟩,a1,a2⟩,fun b hb=>?_,q⟩
 have hb':s1.heap.objs.size≤b:=by
  simp only[List.mem_cons,List.not_mem_nil,or_false]at hb
  rcases hb with rfl|rfl|rfl|rfl|rfl
  ·exact Qar _ 4
  ·exact Qar _ 2
  ·exact Qar _ 3
  ·exact Qf _
  ·exact Qar _ 1
 exact I1.fpOk hb' (I1.hok.fresh hb')
section
variable {X:Cx} (K:PySem.W.Frag)
theorem ixL(h:X.K=K:=by rfl):IxR X (Zps K):=by subst h;exact ZoH
theorem ixT(h:X.K=K:=by rfl):IxR X (Zp4 K):=by subst h;exact Zqx
theorem slL(h:X.K=K:=by rfl):SlR X (Zri K):=by subst h;exact ZnU
def Zrp:List V→Hp→VK→Prop:=fun xs H Q=>∃p ys,xs=[.ref p]∧(SqL K H p ys∨SqT K H p ys)∧Q (.int ys.length) H
theorem Zbn(h:X.K=K:=by rfl):Z8 X (.builtin "len") (Zrp K):=by subst h;exact Zhw
theorem ZdV(h:X.K=K:=by rfl):Z8 X (.builtin "isinstance") (Zrn K):=by subst h;exact Zng
theorem Zq6(h:X.K=K:=by rfl):Z8 X (.builtin "isinstance") (Zo5 K):=by subst h;exact Zlc
def Zq1:List V→Hp→VK→Prop:=fun xs H Q=>∃ (p:Addr) (bs:List Bool),xs=[.ref p]∧SqL K H p (bs.map V.bl)∧Q (.bl (bs.all id)) H
theorem Zsi(hc:X.calm=true:=by rfl)(h:X.K=K:=by rfl):Z8 X (.builtin "all") (Zq1 K):=by subst h;exact Zl8 hc
def rSrtI:List V→Hp→VK→Prop:=fun xs H Q=>∃ (p:Addr) (ns:List Int),xs=[.ref p]∧SqL K H p (ns.map V.int)∧ns.length<64 ∧
  ∀ (l:Addr) (ns':List Int),H l=none→ns'.Perm ns→ns'.Pairwise (·≤·)→Q (.ref l) (upd H l (.lst (ns'.map V.int)))
def ZrN:List V→Hp→VK→Prop:=fun xs H Q=>∃ (p:Addr) (ss:List Str),xs=[.ref p]∧SqL K H p (ss.map V.str)∧ss.length<64 ∧
  ∀ (l:Addr) (ss':List Str),H l=none→ss'.Perm ss→sortedS ss'=true→Q (.ref l) (upd H l (.lst (ss'.map V.str)))
theorem Zn0(h:X.K=K:=by rfl):Z8 X (.builtin "sorted") (ZrN K):=by subst h;exact Zha
def ZrX:V→List V→Hp→VK→Prop:=fun x vs H Q=>∃ (sep:Str) (p:Addr) (ys:List Str),x=.str sep∧vs=[.ref p]∧SqL K H p (ys.map V.str)∧(ys.map (·.length)).sum+ys.length*sep.length≤16777216∧Q (.str (Txt.join sep ys)) H
theorem ZrR(h:X.K=K:=by rfl):MtR X "str.join" (ZrX K):=by subst h;exact ZnJ
theorem iL{tg l:Expr}{tl:TE}(hl:PE X l tl)(h:X.K=K:=by rfl):PI X tg l (ZoX K tl):=by subst h;exact ZnY hl
theorem iT{tg l:Expr}{tl:TE}(hl:PE X l tl)(h:X.K=K:=by rfl):PI X tg l (ZqZ K tl):=by subst h;exact Zqr hl
theorem gT{es:List Expr}{k:Nat}{t:TGs}{n:Nat}{pos:Pos}(h:PGs X es t)(hK:X.K=K:=by rfl)(hc:X.calm=true:=by rfl)
  (hn:(assignEach es X.env).length=n:=by rfl) (hst:(assignEach es X.env).findIdx? (·.1)=none:=by rfl):PG X (.Tuple es k pos) (Zrb K n t):=by subst hK;exact Zpp hc h hn hst
theorem iZ{a b:Expr}{ta:TA}{p pos:Pos}{elts:List Expr}{x1:Nat}{tpos:Pos}(hm:X.mg "zip" = none)(ha:PA X [a,b] ta)(hg:Gl X "zip":=by rfl)(hK:X.K=K:=by rfl)
  (hs:starEach [a,b] X.env=[(false,eval a X.env),(false,eval b X.env)]:=by rfl) (hs2:starEach [b] X.env=[(false,eval b X.env)]:=by rfl) :
  PI X (.Tuple elts x1 tpos) (.Call (.Name "zip" p) [a,b] [] pos) (ZrK K ta):=by subst hK;exact Zpx hg hm ha hs hs2
end
structure Df (P:Program) (w:World) (K:PySem.W.Frag) (mg:Str→Option Value) (base:Heap) (k:Nat) (x:Str) (ps:List Str) (sp:Sp):Prop where
 ex:∃f fd,ZdC P w K mg base CX0 k f fd ps sp∧mg x=some (.ref f)∧PySem.W.keepIn K (.ref f)=true∧ZbZ K fd ps []
section
variable {P:Program} {w:World} {K:PySem.W.Frag} {mg:Str→Option Value} {base:Heap}
structure Top (K:PySem.W.Frag) (mg:Str→Option Value) (x:Str) (st:Stmt) (ps:List Str):Prop where
 ex:∃f fd,Fun K x x st f fd∧mg x=some (.ref f)∧ZbZ K fd ps []
theorem Top.df{x:Str}{st:Stmt}{N ps:List Str}{k:Nat}{sp:Sp}(T:Top K mg x st ps)(S:Zr N ps (Zg st))(len:∀vs H Q E,sp vs H Q E→vs.length=ps.length)
  (hbody:∀ (cdv:Value) (f:Addr) (A:Around) (outer:List Env) (s:Shared) (H:Hp) (vs:List V) (Q:VK) (E:XK),ZaJ k (A.deeper (envOfC x (Zg st) s.heap.objs.size f cdv))→sp vs H Q E →
   ∃t,PSs (Zg2 CX0 P w K mg base N x (Zg st) f cdv A outer s H E).nox (Zm st) t∧t { nx:=fun _ H'=>Q .non H',rt:=Q } (Zdd N vs) H):Df P w K mg base (k+1) x ps sp:=by
 obtain⟨f,fd,F,m,b⟩:=T.ex
 exact⟨f,fd,F.ok S len (fun cdv A outer s H vs Q E hr h=>hbody cdv f A outer s H vs Q E hr h),m,F.kp,b⟩
end
section
variable {X:Cx} {k j:Nat} {x:Str} {ps:List Str} {sp:Sp} {e:Expr} {es:List Expr} {t:TA} {p pos:Pos}
theorem Zz(F:Df X.prog X.w X.K X.mg X.base k x ps sp)(hr:ZaJ j X.A)(ha:PA X (e::es) t)(hjk:k≤j:=by decide)(hg:Gl X x:=by rfl)(hdb:(x == ("__debug__" : Str))=false:=by decide)
  (he:starEach (e::es) X.env=(false,eval e X.env)::starEach es X.env:=by rfl) (hpl:(backTo pos (starEach es X.env)).any (·.1)=false:=by rfl) :
  PE X (.Call (.Name x p) (e::es) [] pos) (Zo8 sp [] E0 t):=by
 obtain⟨f,fd,F,m,kp,b⟩:=F.ex
 exact Zoq F (hr.mono hjk) hg m kp b .nil ZjY ha hdb he hpl
theorem ZbF{T:String}(hm:X.mg x=none)(hv:bootBuiltins x=some (.type T))(hg:Gl X x:=by rfl)(hn:x ≠ "__name__":=by decide)(hd:(x == ("__debug__" : Str))=false:=by decide):PE X (.Name x pos) (tC (.ty T)) :=
 Zod hg hm hv rfl hn hd
end
theorem ZcO{lo:Int}{n k:Nat}{D:Addr}{σ:St}{H1:Hp}{g:TG}{te:TE}{Q:VK}(Pv:Nat→List V→St→Hp→Prop)(h0:Pv 0 [] (σ++List.replicate k none) (upd H1 D (.lst [])))
  (hs:∀i ys σ H,i<n→Pv i ys σ H→g (.int (lo+i)) σ H fun σ4 H4=>te σ4 H4 fun y H6=>H6 D=some (.lst ys)∧ys.length<sizeLine∧Pv (i+1) (ys++[y]) σ4 (upd H6 D (.lst (ys++[y]))))
  (hd:∀ys σ H,Pv n ys σ H→Q (.ref D) H):Zc8 (Itr lo n) D k σ H1 g ZfQ te Q:=by
 refine⟨fun i m ys σ H=>m=n-i∧i≤n∧Pv i ys σ H,⟨n,by simp,Qq _,h0⟩,?_⟩
 rintro i m ys σ H ⟨rfl,hi,p⟩
 by_cases hlt:i<n
 ·refine .inr ⟨hlt,Pv (i+1),fun ys' σ' H' p'=>⟨n-(i+1),by omega,rfl,hlt,p'⟩,fun x H' y=>?_⟩
  obtain⟨e,y⟩:=y
  subst e y
  simp only[ZfQ,↓reduceIte]
  exact hs i ys σ _ hlt p
 ·have e:i=n:=by omega
  subst e
  exact .inl ⟨Qf _,hd ys σ H p⟩
theorem ZhR{K:PySem.W.Frag}{S1 S2:Src}{xs ys:List V}{k:Nat}{D:Addr}{σ:St}{H1:Hp}{g:TG}{te:TE}{Q:VK}(Pv:Nat→List V→St→Hp→Prop)(h0:Pv 0 [] (σ++List.replicate k none) (upd H1 D (.lst [])))
  (hl:∀i zs σ H,Pv i zs σ H→S1.its K H xs∧S2.its K H ys)
  (hs:∀i zs σ H x y p,xs[i]? = some x→ys[i]? = some y→Pv i zs σ H→H p=none→g (.ref p) σ (upd H p (.tup [x,y])) fun σ4 H4=>te σ4 H4 fun z H6=>H6 D=some (.lst zs)∧zs.length<sizeLine∧Pv (i+1) (zs++[z]) σ4 (upd H6 D (.lst (zs++[z]))))
  (hd:∀zs σ H,Pv (min xs.length ys.length) zs σ H→Q (.ref D) H):Zc8 (Itz K S1 S2) D k σ H1 g ZfQ te Q:=by
 refine⟨fun i m zs σ H=>m=min xs.length ys.length-i∧i≤min xs.length ys.length∧Pv i zs σ H,⟨min xs.length ys.length,by simp,Qq _,h0⟩,?_⟩
 rintro i m zs σ H ⟨rfl,hi,p⟩
 obtain⟨q1,q2⟩:=hl i zs σ H p
 by_cases hlt:i<min xs.length ys.length
 ·have l1:i<xs.length:=by omega
  have l2:i<ys.length:=by omega
  refine .inr ⟨⟨xs,ys,q1,q2,l1,l2⟩,Pv (i+1),fun ys' σ' H' p'=>⟨min xs.length ys.length-(i+1),by omega,rfl,hlt,p'⟩,fun x H' y=>?_⟩
  obtain⟨r,hr,rfl,e⟩:=y
  have e':=e xs ys q1 q2 _ _ (Qa l1) (Qa l2)
  subst e'
  simp only[ZfQ,↓reduceIte]
  exact hs i zs σ H _ _ r (Qa l1) (Qa l2) p hr
 ·have e:i=min xs.length ys.length:=by omega
  refine .inl ⟨⟨xs,ys,q1,q2,by omega⟩,hd zs σ H (e ▸ p)⟩
section
variable {X:Cx} {N N':List Str} {o c:Scope} {x:Str} {pos:Pos} {C:Addr} {s:Shared} {H:Hp} {fp:List Addr}
theorem ZdL(S:ZK N N' o c)(ho:X.env.scope=o)(hl:c.names.lookup x=some .local):(ZaK X c N' C s H fp).env.scope.names.lookup x=some .local:=by
 have e:=Zcj (X:=X) S ho (ZaL X.env.cells c.names []) C x
 rw[hl]at e
 exact e
theorem ZaF(S:ZK N N' o c)(ho:X.env.scope=o)(hl:c.names.lookup x=some .globalImplicit):Gl (ZaK X c N' C s H fp) x:=by
 have e:=Zcj (X:=X) S ho (ZaL X.env.cells c.names []) C x
 rw[hl]at e
 exact e
theorem ZmS(S:ZK N N' o c)(ho:X.env.scope=o)(hl:c.names.lookup x=some .free):Vis (ZaK X c N' C s H fp).env.scope x:=by
 have e:=Zcj (X:=X) S ho (ZaL X.env.cells c.names []) C x
 rw[hl]at e
 have e':(ZaK X c N' C s H fp).env.scope.names.lookup x=if X.env.kindOf x=some .cell then some NameKind.cell else some NameKind.free:=e
 by_cases z:X.env.kindOf x=some .cell
 ·rw[if_pos z]at e';exact .inr (.inl e')
 ·rw[if_neg z]at e';exact .inr (.inr e')
theorem cv(i:Nat)(S:ZK N N' o c)(ho:X.env.scope=o)(hl:c.names.lookup x=some .free)(hN:N'[i]? = some x:=by rfl)(hd:(x == ("__debug__" : Str))=false:=by decide)(hcd:(x == ("__classdict__" : Str))=false:=by decide) :
  PE (ZaK X c N' C s H fp) (.Name x pos) (Zoz i):=Zjk hN (ZmS S ho hl) hd hcd
theorem cw(i:Nat)(S:ZK N N' o c)(ho:X.env.scope=o)(hl:c.names.lookup x=some .local)(hN:N'[i]? = some x:=by rfl)(hd:(x == ("__debug__" : Str))=false:=by decide)(hcd:(x == ("__classdict__" : Str))=false:=by decide) :
  PE (ZaK X c N' C s H fp) (.Name x pos) (Zoz i):=Zjk hN (.inl (ZdL S ho hl)) hd hcd
theorem cg(i:Nat)(S:ZK N N' o c)(ho:X.env.scope=o)(hl:c.names.lookup x=some .local)(hi:N'[i]? = some x:=by rfl):PG (ZaK X c N' C s H fp) (.Name x pos) (ZjF i) :=
 ZN S.nd hi (.inl (ZdL S ho hl)) (.inr (ZdL S ho hl))
end
mutual
inductive DV (K:PySem.W.Frag) (H:Hp):V→PyData→Prop where
 | non:DV K H .non .none
 | bl (b:Bool):DV K H (.bl b) (.bool b)
 | int (i:Int):DV K H (.int i) (.int i)
 | str (s:Str):DV K H (.str s) (.str s)
 | lst {a:Addr} {xs:List V} {ds:List PyData}:SqL K H a xs→DVs K H xs ds→DV K H (.ref a) (.list ds)
 | tup {a:Addr} {xs:List V} {ds:List PyData}:SqT K H a xs→DVs K H xs ds→DV K H (.ref a) (.tuple ds)
inductive DVs (K:PySem.W.Frag) (H:Hp):List V→List PyData→Prop where
 | nil:DVs K H [] []
 | cons {x:V} {d:PyData} {xs:List V} {ds:List PyData}:DV K H x d→DVs K H xs ds→DVs K H (x::xs) (d::ds)
end
section
variable {X:Cx} {pins:List (Addr×Obj)} {σ:St} {H:Hp} {s:Shared}
mutual
theorem Inv.reads(I:Inv X pins σ H s):∀ {x:V} {d:PyData} {u:Value},DV X.K H x d→Zx x u→∃as,Reads s.heap u d as
 | _,_,_,.non,r=>by cases r;exact⟨_,.none⟩
 | _,_,_,.bl b,r=>by cases r;exact⟨_,.bool b⟩
 | _,_,_,.int i,r=>by obtain⟨t,rfl⟩:=r;exact⟨_,.int i t⟩
 | _,_,_,.str z,r=>by obtain⟨t,rfl⟩:=r;exact⟨_,.str z t⟩
 | _,_,_,.lst h hs,r=>by
  cases r
  obtain⟨its,rv,⟨o,n,e,hc,_,hd⟩,_⟩:=I.list h
  obtain⟨as,q⟩:=Inv.readsAll I hs rv
  exact⟨_,reads_list_at e hc hd (by simpa using q)⟩
 | _,_,_,.tup h hs,r=>by
  cases r
  obtain⟨its,rv,⟨o,e,hc,n,hd⟩,_⟩:=I.tuple h
  obtain⟨as,q⟩:=Inv.readsAll I hs rv
  exact⟨_,reads_tuple_at e hc hd (by simpa using q)⟩
theorem Inv.readsAll(I:Inv X pins σ H s):∀ {xs:List V} {ds:List PyData} {us:List Value},DVs X.K H xs ds→Zv xs us→∃as,ReadsAll s.heap us ds as
 | _,_,_,.nil,r=>by cases r;exact⟨_,.nil⟩
 | _,_,_,.cons h hs,r=>by
  cases r with
  | cons r1 r2 =>
   obtain⟨as,q1⟩:=Inv.reads I h r1
   obtain⟨bs,q2⟩:=Inv.readsAll I hs r2
   exact⟨_,.cons q1 q2⟩
end
def ZrM(K:PySem.W.Frag)(neg:Bool):R2:=fun x y H Q=>∃d e,DV K H x d∧DV K H y e∧SeqAt.shaped d=true∧SeqAt.shaped e=true∧Q (.bl (if neg then !PyData.eqv d e else PyData.eqv d e)) H
theorem Zpr(hu:X.A.units+64<cLine):OpR X (compareOp .NotEq) (ZrM X.K true):=by
 intro pins s σ H x y v u Q I rx ry h
 obtain⟨d,e,h1,h2,s1,s2,q⟩:=h
 obtain⟨as,r1⟩:=I.reads h1 rx
 obtain⟨bs,r2⟩:=I.reads h2 ry
 exact ne_dataH r1 r2 s1 s2 hu ⟨.bl _,H,I,rfl,q⟩
end
theorem neD{X:Cx}(K:PySem.W.Frag){k:Nat}(hr:ZaJ k X.A)(h:X.K=K:=by rfl):OpR X (compareOp .NotEq) (ZrM K true):=by subst h;exact Zpr hr.units
mutual
theorem DV.mono{K:PySem.W.Frag}{H H':Hp}(s:Zw H H'):∀ {x:V} {d:PyData},DV K H x d→DV K H' x d
 | _,_,.non=>.non
 | _,_,.bl b=>.bl b
 | _,_,.int i=>.int i
 | _,_,.str z=>.str z
 | _,_,.lst h hs=>.lst (s.seq h) (DVs.mono s hs)
 | _,_,.tup h hs=>.tup (by
   rcases h with(h|⟨ob,h⟩)|h
   ·exact .inl (.inl (s _ _ h))
   ·exact .inl (.inr ⟨ob,s _ _ h⟩)
   ·exact .inr h) (DVs.mono s hs)
theorem DVs.mono{K:PySem.W.Frag}{H H':Hp}(s:Zw H H'):∀ {xs:List V} {ds:List PyData},DVs K H xs ds→DVs K H' xs ds
 | _,_,.nil=>.nil
 | _,_,.cons h hs=>.cons (DV.mono s h) (DVs.mono s hs)
end
def Ite(K:PySem.W.Frag)(a:Addr):It :=
 ⟨fun i H=>∃xs,SqL K H a xs∧i<xs.length,
  fun i H v H'=>∃p,H p=none∧v=.ref p∧∀xs,SqL K H a xs→∀x,xs[i]? = some x→H'=upd H p (.tup [.int i,x]),
  fun i H=>∃xs,SqL K H a xs∧xs.length≤i⟩
theorem Zlj{P:Program}{w:World}{K:PySem.W.Frag}{elts:List Expr}{x1:Nat}{tpos:Pos}{a e it:Addr}(hne:e≠it) :
  ZkR P w K (.Tuple elts x1 tpos) (Ite K a) [e,it] e (fun i h=>(∃old,IsEnum h e it i old)∧h.IsListIter it a i) where
 mem:=by simp
 obj:=fun i h st b hb=>by
  obtain⟨⟨old,he⟩,o,hit,hc,hd⟩:=st
  simp only[List.mem_cons,List.not_mem_nil,or_false]at hb
  rcases hb with rfl|rfl
  ·exact⟨_,he,fun v z=>by cases z⟩
  ·exact⟨o,hit,fun v z=>by rw[hd]at z;cases z⟩
 keep:=fun i h h' st k=>by
  obtain⟨⟨old,he⟩,hit⟩:=st
  exact⟨⟨old,k e (by simp) _ he⟩,hit.at fun o q=>k it (by simp) o q⟩
 item:=by
  intro X hP hw hK hc i pins s σ H E I hf st hg
  subst hP hw hK
  obtain⟨⟨old,he⟩,hit⟩:=st
  obtain⟨xs,q1,l1⟩:=hg
  obtain⟨its,rv,pl,_⟩:=I.list q1
  obtain⟨u,hu,ru⟩:=rv.get (Qa l1)
  refine wpAny_pyNext_enum_item he hit pl.isList (x:=u) (by simpa using hu) hne fun h' a1 a2 a3 a4 a5=>?_
  have lt:∀ {b:Addr} {o:Obj},s.heap.get? b=some o→s.heap.objs.size≠b:=fun q=>Q5 (Qv q)
  have hes:s.heap.objs.size≠e:=lt he
  refine⟨_,rfl,wpAny_letOwnedTupleGo_enum a1 fun h'' he'' hs''=>?_⟩
  have hs':Heap.SameBut e h' h'':=hs''
  have hit'':h''.IsListIter it a (i+1):=a2.extBut hs'.extBut hne.symm
  have I2:Inv X pins σ (upd H s.heap.objs.size (.tup [.int i,xs[i]])) { s with heap:=h'',toks:=s.toks+1 }:=by
   refine I.zipped (fp:=[e,it]) (u:=.int i s.toks) (v:=u) hf ⟨_,rfl⟩ ru (hs'.extBut _ _ hes a3) (fun b hb=>?_) fun c o hc q=>?_
   ·simp only[List.mem_cons,List.not_mem_nil,or_false]at hb
    rcases hb with rfl|rfl
    ·exact⟨_,he''⟩
    ·obtain⟨o,q,_⟩:=hit'';exact⟨o,q⟩
   ·simp only[List.mem_cons,List.not_mem_nil,or_false,not_or]at hc
    exact hs'.extBut _ _ hc.1 (a5 c o hc.1 hc.2 q)
  refine⟨.ref s.heap.objs.size,_,I2,rfl,⟨s.heap.objs.size,I.fresh,rfl,fun xs' w1 x' e1=>?_⟩,⟨⟨_,he''⟩,hit''⟩,fun b hb=>?_⟩
  ·have e3:=I.list_inj w1 q1
   subst e3
   rw[Qa l1]at e1
   cases e1
   rfl
  ·rw[Zd (fun z=>by
    obtain⟨o,q⟩:∃o,s.heap.get? b=some o:=by
     simp only[List.mem_cons,List.not_mem_nil,or_false]at hb
     rcases hb with rfl|rfl
     ·exact⟨_,he⟩
     ·obtain⟨o,q,_⟩:=hit;exact⟨o,q⟩
    exact lt q z.symm)]
   exact(hf b hb).1
 done:=by
  intro X hP hw hK hc i pins s σ H E I hf st hg
  subst hP hw hK
  obtain⟨⟨old,he⟩,hit⟩:=st
  obtain⟨xs,q1,l1⟩:=hg
  obtain⟨its,rv,pl,_⟩:=I.list q1
  obtain⟨f0,f1,f2,f3,f4,f5⟩:=hf it (by simp)
  have hl:=rv.length
  exact wpAny_pyNext_enum_end (I.ok.hd hc) he hit pl.isList (by rw[Qal];exact QN (by omega)) fun h' eb=>⟨rfl,I.turned (t':=s.toks) (fun b o hb q=>eb b o hb q) f0 f1 f3 f4 f5⟩
 self:=fun _ _ _ _ _ st h=>by obtain⟨⟨old,he⟩,_⟩:=st;exact wpAny_pyIter_enum he h
def ZoR(K:PySem.W.Frag)(ta:TA):TI:=fun σ H R=>ta σ H fun vs H1=>∃a xs,vs=[V.ref a]∧SqL K H1 a xs∧R (Ite K a) H1
theorem Zn5{X:Cx}{l:Expr}{ta:TA}{p pos:Pos}{elts:List Expr}{x1:Nat}{tpos:Pos}(hg:Gl X "enumerate")(hm:X.mg "enumerate" = none)(ha:PA X [l] ta)
  (hs:starEach [l] X.env=[(false,eval l X.env)]:=by rfl):PI X (.Tuple elts x1 tpos) (.Call (.Name "enumerate" p) [l] [] pos) (ZoR X.K ta):=by
 intro pins s σ H R I h
 refine Call_ (ZdQ I hg hm boot_enumerate (Q4 (thn (ha pos pins s σ H _ I h) ?_) hs rfl))
 rintro us s1 ⟨vs,H1,I1,r1,q1⟩
 obtain⟨a,xs,e,y1,q⟩:=q1
 subst e
 obtain⟨u,rfl,ru⟩:=r1.one
 cases ru
 obtain⟨its,rv,pl,_⟩:=I1.list y1
 refine call_enumerate_list pl.isList fun h' he hit hsz hk=>wpAny_pyIter_enum he ?_
 have I2:Inv X pins σ H1 { s1 with heap:=h' }:=I1.kept (t':=s1.toks) hk
 refine⟨_,_,_,_,H1,rfl,I2,Zlj (a:=a) (e:=s1.heap.objs.size+1) (it:=s1.heap.objs.size) (Q5 (Nat.lt_succ_self _)),⟨⟨_,he⟩,hit⟩,fun b hb=>?_,q⟩
 have hb':s1.heap.objs.size≤b:=by
  simp only[List.mem_cons,List.not_mem_nil,or_false]at hb
  rcases hb with rfl|rfl
  ·exact Qar _ 1
  ·exact Qf _
 exact I1.fpOk hb' (I1.hok.fresh hb')
theorem iE{X:Cx}(K:PySem.W.Frag){l:Expr}{ta:TA}{p pos:Pos}{elts:List Expr}{x1:Nat}{tpos:Pos}(hm:X.mg "enumerate" = none)(ha:PA X [l] ta)(hg:Gl X "enumerate":=by rfl)(hK:X.K=K:=by rfl)
  (hs:starEach [l] X.env=[(false,eval l X.env)]:=by rfl):PI X (.Tuple elts x1 tpos) (.Call (.Name "enumerate" p) [l] [] pos) (ZoR K ta):=by subst hK;exact Zn5 hg hm ha hs
theorem Zid{K:PySem.W.Frag}{a:Addr}{xs:List V}{g:TG}{tb:TS}{D:ZeN}{σ:St}{H:Hp}(Pv:Nat→St→Hp→Prop)(h0:Pv 0 σ H)(hl:∀i σ H,Pv i σ H→SqL K H a xs)
  (hs:∀i x σ H p,xs[i]? = some x→Pv i σ H→H p=none→g (.ref p) σ (upd H p (.tup [.int i,x])) fun σ2 H2=>tb { D with nx:=Pv (i+1),ct:=Pv (i+1),bk:=D.nx } σ2 H2) (hd:∀σ H,Pv xs.length σ H→D.nx σ H) :
  ∃W:Nat→Nat→St→Hp→Prop,(∃m,W 0 m σ H)∧∀i m σ H,W i m σ H →
   ((Ite K a).stop i H∧D.nx σ H)∨((Ite K a).go i H∧∃N:St→Hp→Prop,(∀σ' H',N σ' H'→∃m',m'<m∧W (i+1) m' σ' H')∧∀x H',(Ite K a).yld i H x H'→g x σ H' fun σ2 H2=>tb { D with nx:=N,ct:=N,bk:=D.nx } σ2 H2):=by
 refine⟨fun i m σ H=>m=xs.length-i∧i≤xs.length∧Pv i σ H,⟨xs.length,by simp,Qq _,h0⟩,?_⟩
 rintro i m σ H ⟨rfl,hi,p⟩
 have q1:=hl i σ H p
 by_cases hlt:i<xs.length
 ·refine .inr ⟨⟨xs,q1,hlt⟩,Pv (i+1),fun σ' H' p'=>⟨xs.length-(i+1),by omega,rfl,hlt,p'⟩,fun x H' y=>?_⟩
  obtain⟨r,hr,rfl,e⟩:=y
  have e':=e xs q1 _ (Qa hlt)
  subst e'
  exact hs i _ σ H r (Qa hlt) p hr
 ·have e:i=xs.length:=by omega
  exact .inl ⟨⟨xs,q1,by omega⟩,hd σ H (e ▸ p)⟩
def rMinL(K:PySem.W.Frag):List V→Hp→VK→Prop:=fun vs H Q=>∃ (p:Addr) (ns:List Int),vs=[.ref p]∧SqL K H p (ns.map V.int)∧0<ns.length∧∀M,M∈ns→(∀a∈ns,M≤a)→Q (.int M) H
def Zqp(K:PySem.W.Frag):List V→Hp→VK→Prop:=fun xs H Q=>∃p ys,xs=[.ref p]∧(SqL K H p ys∨SqT K H p ys)∧∀l,H l=none→Q (.ref l) (upd H l (.lst ys))
theorem ZjE{X:Cx}(K:PySem.W.Frag)(h:X.K=K:=by rfl):Z8 X (.type "list") (Zqp K):=by subst h;exact Zhx
section
variable {prog:Program} {w:World} {A:Around} {E:Value→Shared→Prop} {s:Shared}
end
def gLst(K:PySem.W.Frag)(n:Nat)(t:TGs):TG:=fun v σ H Q=>∃a xs,v=.ref a∧SqL K H a xs∧xs.length=n∧t xs σ H Q
def ZgM(xs:List V)(lo hi:Option Int)(st:Int):List V :=
 (sliceRange (sliceBounds lo hi (some st) xs.length).1 (sliceBounds lo hi (some st) xs.length).2.1 (sliceBounds lo hi (some st) xs.length).2.2).filterMap fun i=>xs[i]?
theorem ZgL{xs:List V}{us:List Value}(r:Zv xs us):∀is:List Nat,Zv (is.filterMap fun i=>xs[i]?) (is.filterMap fun i=>us[i]?)
 | []=>.nil
 | i::is=>by
  have ih:=ZgL r is
  by_cases hi:i<xs.length
  ·have e1:xs[i]? = some xs[i]:=Qa hi
   obtain⟨u,hu,ru⟩:=r.get e1
   rw[Q3,Q3,e1,hu]
   exact .cons ru ih
  ·have e1:xs[i]? = none:=QN (by omega)
   have e2:us[i]? = none:=QN (by rw[← r.length];omega)
   rw[Q3,Q3,e1,e2]
   exact ih
def ZpV(X:Cx)(r:V→Option Int→Option Int→Int→Hp→VK→Prop):Prop :=
 ∀ (pins:List (Addr×Obj)) (s:Shared) (σ:St) (H:Hp) (x:V) (v vl vu vs:Value) (lo hi:Option Int) (st:Int) (sl:Addr) (Q:VK),Inv X pins σ H s→Zx x v→s.heap.IsSliceOf sl vl vu vs→IsPart vl lo→IsPart vu hi→IsPart vs (some st)→r x lo hi st H Q →
  ∃T id,typeLookup (.type T) "__getitem__" = pure (some (.builtin id))∧s.TypeIs v T∧wpAny (model X.prog X.w) X.A (getItem v (.ref sl)) (EP X pins σ Q) X.xe s
def Zsp(r:V→Option Int→Option Int→Int→Hp→VK→Prop)(te:TE)(tl th ts:TO):TE:=fun σ H Q=>te σ H fun x H1=>tl σ H1 fun l H2=>th σ H2 fun u H3=>ts σ H3 fun k H4=>∃i,k=some i∧r x l u i H4 Q
section
variable {X:Cx} {e st:Expr} {te:TE} {lo hi:Option Expr} {tl th ts:TO} {pos p2:Pos}
theorem ZkE{r:V→Option Int→Option Int→Int→Hp→VK→Prop}(hr:ZpV X r)(he:PE X e te)(hl:PO X lo tl)(hu:PO X hi th)(hst:PO X (some st) ts):PE X (.Subscript e (.Slice lo hi (some st) p2) pos) (Zsp r te tl th ts):=by
 intro pins s σ H Q I h
 refine Subscript_ (thn (he pins s σ H _ I h) ?_)
 rintro v s1 ⟨x,H1,I1,r1,q1⟩
 refine wpAny_Slice (thn (hl pins s1 σ H1 _ I1 q1) fun vl s2 ⟨l,H2,I2,pl,q2⟩=>thn (hu pins s2 σ H2 _ I2 q2) fun vu s3 ⟨u,H3,I3,pu,q3⟩=>thn (hst pins s3 σ H3 _ I3 q3) ?_)
 rintro vs s4 ⟨k,H4,I4,pk,q4⟩
 obtain⟨i,rfl,q4⟩:=q4
 have I5:Inv X pins σ H4 { s4 with heap:=s4.heap.push { cls:=.type "slice",data:=.fields #[vl,vu,vs] } }:=I4.kept (t':=s4.toks) fun b ob q=>Qc _ q
 obtain⟨T,id,hT,ht,hg⟩:=hr pins { s4 with heap:=s4.heap.push { cls:=.type "slice",data:=.fields #[vl,vu,vs] } } σ H4 x v vl vu vs l u i s4.heap.objs.size Q I5 r1 (Heap.IsSliceOf.new ..) pl pu pk q4
 show wpAny (model X.prog X.w) X.A (subscriptTail e (.Slice lo hi (some st) p2) v (.ref s4.heap.objs.size)) (EP X pins σ Q) X.xe { s4 with heap:=s4.heap.push { cls:=.type "slice",data:=.fields #[vl,vu,vs] } }
 exact tail_any (ops:=[v,.ref s4.heap.objs.size]) ht hT hg (by with_unfolding_all rfl)
def Zo2(K:PySem.W.Frag):V→Option Int→Option Int→Int→Hp→VK→Prop:=fun x lo hi st H Q=>∃a xs,x=.ref a∧SqL K H a xs∧st≠0∧∀p,H p=none→Q (.ref p) (upd H p (.lst (ZgM xs lo hi st)))
theorem ZmH:ZpV X (Zo2 X.K):=by
 intro pins s σ H x v vl vu vs lo hi st sl Q I rx hs pl pu pk h
 obtain⟨a,xs,rfl,hx,hne,q⟩:=h
 cases rx
 obtain⟨its,r,ht,hz⟩:=I.list hx
 have hlen:=r.length
 refine⟨"list",_,slot_list_getitem.lookup,ht.isList.typeIs,?_⟩
 refine wpAny_getItem_list_slice ht.isList hs pl pu pk (by intro e;exact hne (Qm e)) ?_ (by rw[Qr]<;>omega)
 have hsz:=slicePick_size_le its.toArray lo hi (some st)
 have hv:Zv (ZgM xs lo hi st) (slicePick its.toArray lo hi (some st)).toList:=by
  unfold slicePick ZgM
  simp only[List.size_toArray,← hlen]
  have:=ZgL r (sliceRange (sliceBounds lo hi (some st) xs.length).1 (sliceBounds lo hi (some st) xs.length).2.1 (sliceBounds lo hi (some st) xs.length).2.2)
  simpa using this
 refine⟨.ref s.heap.objs.size,_,I.laid (t':=s.toks) (o:=.lst (ZgM xs lo hi st)) (fun b ob q=>Qc _ q) (Qf _) ?_,rfl,q _ (I.hok.fresh (Qf _))⟩
 refine⟨?_,(slicePick its.toArray lo hi (some st)).toList,0,hv,?_⟩
 ·have e1:its.toArray.size=xs.length:=by rw[Qr];exact hlen.symm
  rw[hv.length,QaE]
  exact QM hsz (by rw[e1];exact hz)
 ·simpa using Qu _ rfl
theorem Zsv(K:PySem.W.Frag)(h:X.K=K:=by rfl):ZpV X (Zo2 K):=by subst h;exact ZmH
end
theorem ZeZ(n:Nat):sliceRange ((n:Int)-1) (-1) (-1)=(List.range n).map fun i=>n-1-i:=by
 unfold sliceRange
 have hc:(if (-1:Int)>0 then (if (n:Int)-1 < -1 then (-1-((n:Int)-1) + -1-1) / -1 else 0) else (if (n:Int)-1 > -1 then ((n:Int)-1 - -1 - -1-1) / (- -1) else 0)).toNat=n:=by
  rw[if_neg (by decide)]
  by_cases h:(n:Int)-1 > -1
  ·rw[if_pos h,show (- -1:Int)=1 by decide,Int.ediv_one];omega
  ·rw[if_neg h];omega
 simp only[]
 rw[hc]
 apply QS
 intro k hk
 have:=Qab.mp hk
 omega
theorem Zf8{α:Type}(xs:List α):((List.range xs.length).map fun i=>xs.length-1-i).filterMap (fun i=>xs[i]?)=xs.reverse:=by
 rw[List.filterMap_map]
 have e:∀n,n≤xs.length→(List.range n).filterMap ((fun i=>xs[i]?) ∘ fun i=>xs.length-1-i)=xs.reverse.take n:=by
  intro n
  induction n with
  | zero=>intro _;rfl
  | succ n ih =>
   intro hn
   rw[List.range_succ,List.filterMap_append,ih (by omega)]
   have h1:xs[xs.length-1-n]? = some xs[xs.length-1-n]:=Qa (by omega)
   rw[Q3]
   simp only[Function.comp,h1,List.filterMap_nil]
   rw[QF,List.getElem?_reverse (by omega),h1]
   rfl
 rw[e _ (Qf _)]
 exact Qw (by simp)
theorem ZkX(xs:List V):ZgM xs none none (-1)=xs.reverse:=by
 have e:sliceRange (sliceBounds none none (some (-1)) xs.length).1 (sliceBounds none none (some (-1)) xs.length).2.1 (sliceBounds none none (some (-1)) xs.length).2.2=sliceRange ((xs.length:Int)-1) (-1) (-1):=rfl
 unfold ZgM
 rw[e,ZeZ,Zf8]
section
variable {X:Cx}
def rInsert:V→List V→Hp→VK→Prop:=fun x vs H Q=>∃l xs i y,x=.ref l∧vs=[.int i,y]∧H l=some (.lst xs)∧0≤i∧i≤xs.length∧xs.length<sizeLine∧Q .non (upd H l (.lst (xs.take i.toNat++y::xs.drop i.toNat)))
def rBits:V→List V→Hp→VK→Prop:=fun x vs H Q=>∃i,x=.int i∧vs=[]∧Q (.int (Builtin.Int.intBits i:Nat)) H
theorem inQ(K:PySem.W.Frag)(h:X.K=K:=by rfl):OpR X (compareOp .In) (rIn K false):=by subst h;exact ZkD
def Zrc(K:PySem.W.Frag):List V→Hp→VK→Prop:=fun xs H Q=>∃p ys,xs=[.ref p]∧((SqL K H p ys∧∀l,H l=none→Q (.ref l) (upd H l (.tup ys)))∨(SqT K H p ys∧Q (.ref p) H))
theorem ZrT(K:PySem.W.Frag)(h:X.K=K:=by rfl):Z8 X (.type "tuple") (Zrc K):=by subst h;exact Zgc
end
def Its(z:Str):It:=⟨fun i _=>i<z.cps.size,fun i H v H'=>H'=H∧∃c,z.cps[i]? = some c∧v=.str ⟨#[c]⟩,fun i _=>z.cps.size≤i⟩
section
variable {X:Cx} {tg:Expr}
def iStr(tl:TE):TI:=fun σ H R=>tl σ H fun x H1=>∃z,x=.str z∧R (Its z) H1
end
def Zpn:PyData→Str
 | .str z=>z
 | d=>d.shown
def Zpd(K:PySem.W.Frag):List V→Hp→VK→Prop:=fun xs H Q=>∃x d,xs=[x]∧DV K H x d∧PyData.layable0 d=true∧d.intsShort 13=true∧d.showable=true∧Q (.str (Zpn d)) H
theorem ZkQ{X:Cx}(hg:X.A.guards=some [])(hu:X.A.units+64+30<cLine):Z8 X (.type "str") (Zpd X.K):=by
 intro pins s σ H xs us Q I r h
 obtain⟨x,d,rfl,hd,hl,hi,hs,q⟩:=h
 obtain⟨u,rfl,rx⟩:=ZbB r
 have hsh:d.shown.length≤sizeLine:=QM (shown_le13 hl hi) (by rw[sizeLine_eq];decide)
 have hdp:d.depth≤64:=by
  unfold PyData.layable0 at hl
  rw[QX,QX]at hl
  exact of_decide_eq_true hl.1.2
 have hcl:d.canLay0=true:=by
  unfold PyData.layable0 at hl
  rw[QX,QX]at hl
  exact hl.1.1
 have ref:∀a,u=.ref a→Zpn d=d.shown→wpAny (model X.prog X.w) X.A (call (.type "str") [u]) (EP X pins σ Q) X.xe s:=fun a e1 e2=>by
  subst e1
  obtain⟨as,rd⟩:=I.reads hd rx
  rw[e2]at q
  exact callType_new F.called_str (by decide) (F.typeCall_str_1 _) (F.newCall_str_1 _) (fun obj=>F.args_object_init_2 obj _) F.entry_str_new
   (meets_str_new (v:=.ref a) (S:=fun A R s'=>s'=s∧A=X.A.in1∧∀h' u tk,(∀b o,s.heap.get? b=some o→h'.get? b=some o)→R (.ok (.ret (.str d.shown u))) { s with heap:=h',toks:=tk }) fun prog w A R s' hq=>by
    obtain⟨rfl,rfl,hq⟩:=hq
    exact strOf_of_reads rd hs (PyData.noDict_hsm (PyData.hasDict_of_canLay d hcl)) hg (by show X.A.units+1+1+(d.depth+1)<cLine;omega) (fun _ _ e=>e) (fun h' u tk hk=>hq h' u tk hk) hsh)
   ⟨rfl,rfl,fun h' u tk hk=>⟨typeIs_str _ _ _,.str _,H,I.kept hk,⟨_,rfl⟩,q⟩⟩
 cases hd with
 | non=>cases rx;exact PySem.P.str_of_none ⟨.str _,H,I.tok _,⟨_,rfl⟩,q⟩
 | bl b=>cases rx;exact PySem.P.str_of_bool ⟨.str _,H,I.tok _,⟨_,rfl⟩,q⟩
 | int i =>
  obtain⟨t,rfl⟩:=rx
  exact PySem.P.str_of_int (of_decide_eq_true hs) ⟨.str _,H,I.tok _,⟨_,rfl⟩,q⟩
 | str z =>
  obtain⟨t,rfl⟩:=rx
  exact PySem.P.str_of_str ⟨.str _,H,I,⟨_,rfl⟩,q⟩
 | lst h1 h2=>cases rx;exact ref _ rfl rfl
 | tup h1 h2=>cases rx;exact ref _ rfl rfl
theorem Zrh{X:Cx}(K:PySem.W.Frag){k:Nat}(hr:ZaJ k X.A)(h:X.K=K:=by rfl):Z8 X (.type "str") (Zpd K):=by
 subst h
 exact ZkQ hr.gd (by have:=hr.un;omega)
def Zig(kvs:List (List Key×V))(k:List Key):Option V:=(kvs.find? fun kv=>decide (kv.1=k)).map (·.2)
abbrev PairT(H:Hp):List (List Key×V)→List (List Key×Addr×Value)→Prop:=Paired fun (p:List Key×V) (q:List Key×Addr×Value)=>p.1=q.1∧H q.2.1=some (.tup (p.1.map kV))∧Zx p.2 q.2.2
section
variable {X:Cx} {pins:List (Addr×Obj)} {σ:St} {H:Hp} {s:Shared}
def ZqO:TE:=fun _ H Q=>∀p,H p=none→Q (.ref p) (upd H p (.dT []))
theorem Zkd{pos:Pos}:PE X (.Dict [] [] pos) ZqO:=by
 intro pins s σ H Q I h
 have hb:sysModules<s.heap.objs.size:=Nat.lt_trans (by decide) (show mainGlobals<s.heap.objs.size from(I.mod.glob.keeps I.bk).lt)
 refine wpAny_Dict_empty ⟨.ref s.heap.objs.size,upd H s.heap.objs.size (.dT []),?_,rfl,h _ (I.hok.fresh (Qf _))⟩
 refine I.laid (t':=s.toks) (fun _ _ q=>Qc _ q) (Qf _) ?_
 refine⟨Qq _,?_,[],.nil,_,#[],0,Qu _ rfl,⟨rfl,rfl,rfl⟩,rfl,rfl,Qay⟩
 exact beq_eq_false_iff_ne.mpr fun z=>Qaa _ (z ▸ hb)
end
def rSetDef:V→List V→Hp→VK→Prop:=fun x vs H Q=>∃d kvs b ks y,x=.ref d∧vs=[.ref b,y]∧H d=some (.dT kvs)∧H b=some (.tup (ks.map kV))∧kvs.length<sizeLine ∧
 (∀v,Zig kvs ks=some v→Q v H)∧(Zig kvs ks=none→Q y (upd H d (.dT (kvs++[(ks,y)]))))
def Zre:List V→Hp→VK→Prop:=fun xs H Q=>∃j:Int,xs=[.int j]∧∀p,H p=none→Q (.ref p) (upd H p (.rng 0 j))
theorem ZqQ{X:Cx}:Z8 X (.type "range") Zre:=by
 intro pins s σ H xs us Q I r h
 obtain⟨j,rfl,q⟩:=h
 obtain⟨u,rfl,t,rfl⟩:=ZbB r
 refine call_range_1 ⟨.ref s.heap.objs.size,_,I.laid (a:=s.heap.objs.size) (o:=.rng 0 j) (fun b o e=>Qc _ e) (Qf _) ?_,rfl,q _ (I.hok.fresh (Qf _))⟩
 exact⟨_,_,_,Qu _ rfl⟩
def Zq2:List V→Hp→VK→Prop:=fun xs H Q=>∃i j:Int,xs=[.int i,.int j]∧∀p,H p=none→Q (.ref p) (upd H p (.rng i j))
theorem ZsF{X:Cx}:Z8 X (.type "range") Zq2:=by
 intro pins s σ H xs us Q I r h
 obtain⟨i,j,rfl,q⟩:=h
 cases r with
 | cons r rr =>
  cases rr with
  | cons r' rr =>
   cases rr
   obtain⟨t,rfl⟩:=r
   obtain⟨t',rfl⟩:=r'
   refine call_range_2 ⟨.ref s.heap.objs.size,_,I.laid (a:=s.heap.objs.size) (o:=.rng i j) (fun b o e=>Qc _ e) (Qf _) ?_,rfl,q _ (I.hok.fresh (Qf _))⟩
   exact⟨_,_,_,Qu _ rfl⟩
def Z2(lo:Int)(n:Nat):List Int:=(List.range n).map fun (k:Nat)=>lo+k
theorem ZaT(lo:Int)(n:Nat):(Z2 lo n).length=n:=by simp[Z2]
theorem Zja{lo:Int}:∀ (n:Nat) (us:List Value),us.length=n→(∀ (j:Nat) (v:Value),us[j]? = some v→∃t,v=Value.int (lo+j*1) t)→Zv ((Z2 lo n).map V.int) us:=by
 intro n us hl h
 subst hl
 induction us generalizing lo with
 | nil=>exact .nil
 | cons u r ih =>
  have e:Z2 lo (u::r).length=lo::Z2 (lo+1) r.length:=by
   unfold Z2
   rw[QE,List.range_succ_eq_map,Qh,QC]
   refine congr (congrArg _ (by simp)) (QS fun a _=>?_)
   simp only[Function.comp]
   omega
  rw[e,Qh]
  refine .cons ?_ (ih fun j v hv=>?_)
  ·obtain⟨t,e⟩:=h 0 u rfl
   exact⟨t,by rw[e];simp⟩
  ·obtain⟨t,e⟩:=h (j+1) v (by simpa using hv)
   exact⟨t,by rw[e];congr 1;omega⟩
def Zpk:List V→Hp→VK→Prop:=fun xs H Q=>∃ (p:Addr) (lo hi:Int),xs=[.ref p]∧H p=some (.rng lo hi) ∧ -(2 ^ 62)≤lo∧lo<2 ^ 62 ∧ -(2 ^ 62)≤hi∧hi<2 ^ 62∧(hi-lo).toNat≤1000 ∧
 ∀l,H l=none→Q (.ref l) (upd H l (.lst ((Z2 lo (hi-lo).toNat).map V.int)))
theorem ZlG{X:Cx}(hc:X.calm=true:=by rfl):Z8 X (.type "list") Zpk:=by
 intro pins s σ H xs us Q I r h
 obtain⟨p,lo,hi,rfl,hp,h1,h2,h3,h4,h5,q⟩:=h
 obtain⟨u,rfl,rx⟩:=ZbB r
 cases rx
 obtain⟨t,u,v,e⟩:=I.hok _ _ hp
 have sz:Builtin.Range.rangeSize lo hi 1=(((hi-lo).toNat:Nat):Int):=by rw[rangeSize_one];split<;>omega
 refine call_list_range (I.ok.hd hc) e (small_one h1 h2 h3 h4) sz (by omega) fun h' tk acc' c' kp e' it=>?_
 refine⟨.ref s.heap.objs.size,_,I.laid (t':=tk) kp (Qf _) (show Zac X.prog X.w _ h' _ (.lst ((Z2 lo (hi-lo).toNat).map V.int)) from⟨?_,acc'.toList,c',Zja _ _ (by simpa using it.1) (fun j v hv=>it.2 j v (by simpa using hv)),by simpa using e'⟩),rfl,q _ (I.hok.fresh (Qf _))⟩
 rw[Qb,ZaT]
 exact Nat.le_of_lt (ZH h5)
section
variable {prog:Program} {w:World} {A:Around} {E:Value→Shared→Prop} {s:Shared}
end
section
variable {X:Cx}
def rSlTS(K:PySem.W.Frag):V→Option Int→Option Int→Int→Hp→VK→Prop:=fun x lo hi st H Q=>∃a xs,x=.ref a∧SqT K H a xs∧lo=none∧hi=none∧st = -1∧∀p,H p=none→Q (.ref p) (upd H p (.tup xs.reverse))
def rExtendT(K:PySem.W.Frag):V→List V→Hp→VK→Prop:=fun x vs H Q=>∃l b xs zs,x=.ref l∧vs=[.ref b]∧H l=some (.lst xs)∧H b=some (.tup zs)∧xs.length+zs.length≤sizeLine∧Q .non (upd H l (.lst (xs++zs)))
theorem ZaZ{prog:Program}{w:World}{A:Around}{E:Value→Shared→Prop}{s:Shared}{a:Addr}{o:Obj}{xs:Array Value}{n:Nat}{Q:Array Value→Shared→Prop}(ho:s.heap.get? a=some o)(hd:o.data=.seq xs n)(h:Q xs s):wpAny (model prog w) A (Builtin.List.listItems (.ref a)) Q E s:=by
 unfold Builtin.List.listItems
 exact wpAny_bind (wpAny_seqItems ho hd (wpAny_pure h))
def ZpA(to:TE)(tl th:TO):TG:=fun v σ H Q=>to σ H fun o H1=>tl σ H1 fun l H2=>th σ H2 fun u H3=>∃ (p b:Addr) (xs ys:List V) (a c:Int),o=.ref p∧v=.ref b∧l=some a∧u=some c∧H3 p=some (.lst xs)∧H3 b=some (.lst ys)∧p≠b∧0≤a∧a≤c∧c≤xs.length∧xs.length+ys.length≤sizeLine ∧
 Q σ (upd H3 p (.lst (xs.take a.toNat++ys++xs.drop c.toNat)))
theorem Zmi{o:Expr}{lo hi:Option Expr}{to:TE}{tl th:TO}{pos p2:Pos}(ho:PE X o to)(hl:PO X lo tl)(hu:PO X hi th)
  (ha:∀v,assign (.Subscript o (.Slice lo hi none p2) pos) X.env v=(do
   let ov ← holding [v] (eval o X.env)
   let iv ← holding [v,ov] (eval (.Slice lo hi none p2) X.env)
   standAt pos
   holding [v,ov,iv] (setItem ov iv v)
   release [iv,v,ov] []):=by intro _;rfl):PG X (.Subscript o (.Slice lo hi none p2) pos) (ZpA to tl th):=by
 intro pins s σ H v u Q I r h
 rw[ha]
 refine wpAny_bind (wpAny_holding (thn (ho pins s σ H _ I h) ?_))
 rintro ov s1 ⟨x,H1,I1,r1,q1⟩
 refine wpAny_bind (wpAny_holding (wpAny_Slice (thn (hl pins s1 σ H1 _ I1 q1) fun vl s2 ⟨l,H2,I2,pl,q2⟩=>thn (hu pins s2 σ H2 _ I2 q2) ?_)))
 rintro vu s3 ⟨k,H3,I3,pu,q3⟩
 refine wpAny_evalPart_none ?_
 obtain⟨p,b,xs,ys,a,c,rfl,rfl,rfl,rfl,hp,hb,hne,h0,hac,hc,hz,q⟩:=q3
 cases r
 cases r1
 have I4:Inv X pins σ H3 { s3 with heap:=s3.heap.push { cls:=.type "slice",data:=.fields #[vl,vu,.none] } }:=I3.kept (t':=s3.toks) fun b ob q=>Qc _ q
 cases pl with
 | int i t =>
  cases pu with
  | int j t' =>
   refine wpAny_bind (wpAny_standAt (wpAny_bind (wpAny_holding (ZkC I4 hp hb hne (Heap.IsSliceOf.new ..) ⟨t,rfl⟩ ⟨t',rfl⟩ h0 hac hc hz fun s' I5=>?_))))
   exact wpAny_release ⟨σ,_,I5,q⟩
def rSumB(K:PySem.W.Frag):List V→Hp→VK→Prop:=fun vs H Q=>∃ (p:Addr) (ns:List Int),vs=[.ref p]∧SqL K H p (ns.map V.int)∧ns.length≤1000∧(∀n∈ns,0≤n∧n≤10000000000)∧Q (.int ns.sum) H
theorem Zd7(ns:List Int):∀n,n≤ns.length→preSum (fun j=>ns.getD j 0) n=(ns.take n).sum
 | 0,_=>rfl
 | n+1,h=>by
  have ih:=Zd7 ns n (by omega)
  have e:ns.take (n+1)=ns.take n++[ns.getD n 0]:=by
   rw[QF,Qa (by omega),Qo,Qa (by omega)]
   rfl
  rw[e,Qah,← ih]
  simp[preSum]
end
section
variable {prog:Program} {w:World} {A:Around} {E:Value→Shared→Prop} {s:Shared} {κ:PyProof.Rows.KeyKind} {k0:SortKind} {a₀:Array Keyed} {st:SortSt}
def Zf5(prog:Program)(w:World)(A:Around)(s:Shared)(k0:SortKind)(κ:PyProof.Rows.KeyKind):Prop :=
 ∀ (E:Value→Shared→Prop) (x y:Value) (a b:κ.α) (Q:Bool→Shared→Prop),κ.keyOf x=some a→κ.keyOf y=some b→Q (κ.blt a b) s→wpAny (model prog w) A (keyLt' k0 x y) Q E s
structure SB (k0:SortKind) (a₀:Array Keyed) (st:SortSt):Prop where
 perm:(arrOf st).Perm a₀
 kind:kindOf st=k0
 failed:failedOf st=none
 pend:pendingOf st = #[]
theorem SB.size(B:SB k0 a₀ st):(arrOf st).size=a₀.size:=B.perm.size_eq
theorem SB.at(B:SB k0 a₀ st)(hk:PyProof.Rows.KeysOf κ a₀){i:Nat}(hi:i<a₀.size):∃x p,(arrOf st)[i]? = some (x,p)∧κ.keyOf x=some (KK κ (arrOf st) i):=by
 have hs:=B.size
 have e:(arrOf st)[i]? = some (arrOf st)[i]:=Array.getElem?_eq_getElem (by omega)
 have hm:(arrOf st)[i]∈a₀.toList:=by
  have h1:(arrOf st)[i]∈arrOf st:=Array.getElem_mem (by omega)
  have h2:=(B.perm.mem_iff (a:=(arrOf st)[i])).mp h1
  simpa using h2
 obtain⟨a,ha⟩:=hk _ hm
 refine⟨(arrOf st)[i].1,(arrOf st)[i].2,e,?_⟩
 unfold KK
 rw[e]
 show _=some ((κ.keyOf (arrOf st)[i].1).getD κ.dflt)
 rw[ha]
 rfl
theorem SB.set(B:SB k0 a₀ st){xs:Array Keyed}(h:xs.Perm (arrOf st)):SB k0 a₀ (setArr st xs):=⟨h.trans B.perm,B.kind,B.failed,B.pend⟩
theorem w_elem{arr:Array Keyed}{i:Nat}{p:Keyed}{Q:Keyed→SortSt→Prop}(h:arr[i]? = some p)(q:Q p st):wpS (model prog w) A E s (elem' arr i) Q st:=by
 rw[elem'_eq,h]
 exact wpS_pure q
theorem w_lt(hL:Zf5 prog w A s k0 κ)(hk:PyProof.Rows.KeysOf κ a₀)(B:SB k0 a₀ st){i j:Nat}(hi:i<a₀.size)(hj:j<a₀.size){Q:Option Bool→SortSt→Prop}(q:Q (some (κ.blt (KK κ (arrOf st) i) (KK κ (arrOf st) j))) st):wpS (model prog w) A E s (ltAt' i j) Q st:=by
 obtain⟨x,p,e1,k1⟩:=B.at hk hi
 obtain⟨y,p',e2,k2⟩:=B.at hk hj
 rw[ltAt'_eq]
 refine wpS_bind (wpS_get ?_)
 show wpS _ _ _ _ (elem' (arrOf st) i >>= _) _ _
 refine wpS_bind (w_elem e1 (wpS_bind (w_elem e2 ?_)))
 rw[lt'_eq]
 refine wpS_bind (wpS_get (wpS_bind (wpS_lift (wpAny_attempt ?_))))
 rw[B.kind]
 refine hL _ x y _ _ _ k1 k2 ⟨rfl,?_⟩
 exact wpS_pure q
theorem Zm0{xs:Array Keyed}{i:Nat}(h0:1≤i)(S:SortedToK κ xs i)(h:κ.kle (KK κ xs (i-1)) (KK κ xs i)):SortedToK κ xs (i+1):=by
 intro a b hab hb
 by_cases e:b<i
 ·exact S a b hab e
 ·have eb:b=i:=by omega
  subst eb
  by_cases ea:a=b
  ·subst ea;exact KeyOrd.kle_refl _
  ·exact KeyOrd.kle_trans (S a (b-1) (by omega) (by omega)) h
theorem w_asc(hL:Zf5 prog w A s k0 κ)(hk:PyProof.Rows.KeysOf κ a₀){a nrem:Nat}(hn:nrem≤a₀.size)(h1:1≤a)(ha:a≤nrem)(B:SB k0 a₀ st)(S:SortedToK κ (arrOf st) a){Q:AscSt→SortSt→Prop}
  (q:∀n,a≤n→n≤nrem→SortedToK κ (arrOf st) n→(n=nrem∨κ.klt (KK κ (arrOf st) n) (KK κ (arrOf st) (n-1)))→Q (none,n) st):wpS (model prog w) A E s (ascLoop a nrem) Q st:=by
 unfold ascLoop
 refine wpS_forRange (fun i c st'=>st'=st∧c=(none,i)∧SortedToK κ (arrOf st) i) ?_ ?_ ⟨rfl,rfl,S⟩
 ·rintro i c st' hai hin ⟨rfl,rfl,S'⟩
  refine wpS_bind (w_lt hL hk B (by show i<_;omega) (by show i-1<_;omega) ?_)
  cases hb:κ.blt (KK κ (arrOf st') i) (KK κ (arrOf st') (i-1)) with
  | true=>exact wpS_pure (q i hai (by omega) S' (.inr hb))
  | false=>exact wpS_pure ⟨rfl,rfl,Zm0 (by omega) S' hb⟩
 ·rintro c st' ⟨rfl,rfl,S'⟩
  rw[show max a nrem=nrem by omega]at S' ⊢
  exact q nrem ha (Qf _) S' (.inl rfl)
theorem w_rev{i j:Nat}{Q:Unit→SortSt→Prop}(q:Q () (setArr st (mirror (arrOf st) i j ((j-i) / 2)))):wpS (model prog w) A E s (reverseSlice' i j) Q st:=wpS_reverse q
theorem ZrY(st:SortSt)(xs:Array Keyed):arrOf (setArr st xs)=xs:=rfl
theorem w_desc(hL:Zf5 prog w A s k0 κ)(hk:PyProof.Rows.KeysOf κ a₀){n nrem:Nat}(hn:nrem≤a₀.size)(h1:1≤n)(hnn:n≤nrem)(B:SB k0 a₀ st)(S:NonIncK κ (arrOf st) n){Q:DescSt→SortSt→Prop}
  (q:∀ (m neq:Nat) (st':SortSt),SB k0 a₀ st'→n≤m→m≤nrem→NonIncK κ (arrOf st') m→neq+1≤m→(∀i,m-(neq+1)≤i→i<m→KK κ (arrOf st') i=KK κ (arrOf st') (m-1))→Q (none,m,neq) st'):wpS (model prog w) A E s (descLoop n nrem) Q st:=by
 unfold descLoop
 refine wpS_forRange (fun i c st'=>∃neq,c=(none,i,neq)∧SB k0 a₀ st'∧n≤i∧i≤nrem∧NonIncK κ (arrOf st') i∧neq+1≤i∧(∀k,i-(neq+1)≤k→k<i→KK κ (arrOf st') k=KK κ (arrOf st') (i-1))) ?_ ?_ ?_
 ·rintro i c st' hai hin ⟨neq,rfl,B',hi1,hi2,N',hq,heq⟩
  have more:∀ (st2:SortSt),SB k0 a₀ st2→(∀k,KK κ (arrOf st2) k=KK κ (arrOf st') k)→κ.kle (KK κ (arrOf st') i) (KK κ (arrOf st') (i-1))→NonIncK κ (arrOf st2) (i+1):=fun st2 B2 e hle a b hab hb=>by
   rw[e a,e b]
   by_cases hbi:b<i
   ·exact N' a b hab hbi
   ·have eb:b=i:=by omega
    subst eb
    by_cases ea:a=b
    ·subst ea;exact KeyOrd.kle_refl _
    ·exact KeyOrd.kle_trans hle (N' a (b-1) (by omega) (by omega))
  refine wpS_bind (w_lt hL hk B' (by show i<_;omega) (by show i-1<_;omega) ?_)
  cases hb:κ.blt (KK κ (arrOf st') i) (KK κ (arrOf st') (i-1)) with
  | true =>
   have hle:κ.kle (KK κ (arrOf st') i) (KK κ (arrOf st') (i-1)):=KeyOrd.kle_of_klt hb
   show wpS _ _ _ _ (if neq>0 then _ else _) _ _
   by_cases h0:neq>0
   ·rw[if_pos h0]
    refine wpS_bind (w_rev (wpS_pure ?_))
    have e:∀k,KK κ (mirror (arrOf st') (i-(neq+1)) i ((i-(i-(neq+1))) / 2)) k=KK κ (arrOf st') k:=KK_mirror_equal (by rw[B'.size];omega) (fun k h1 h2=>heq k h1 h2)
    refine⟨0,rfl,B'.set (mirror_perm _ _ _ _),by omega,by omega,more _ (B'.set (mirror_perm _ _ _ _)) e hle,by omega,fun k h1 h2=>?_⟩
    have:k=i:=by omega
    subst this
    rfl
   ·rw[if_neg h0]
    refine wpS_pure ⟨0,rfl,B',by omega,by omega,more _ B' (fun _=>rfl) hle,by omega,fun k h1 h2=>?_⟩
    have:k=i:=by omega
    subst this
    rfl
  | false =>
   refine wpS_bind (w_lt hL hk B' (by show i-1<_;omega) (by show i<_;omega) ?_)
   cases hb2:κ.blt (KK κ (arrOf st') (i-1)) (KK κ (arrOf st') i) with
   | true=>exact wpS_pure (q i neq st' B' hi1 hi2 N' hq heq)
   | false =>
    have ee:=κ.total _ _ hb hb2
    refine wpS_pure ⟨neq+1,rfl,B',by omega,by omega,more _ B' (fun _=>rfl) hb2,by omega,fun k h1 h2=>?_⟩
    show KK κ (arrOf st') k=KK κ (arrOf st') i
    by_cases hki:k=i
    ·rw[hki]
    ·rw[ee];exact heq k (by omega) (by omega)
 ·rintro c st' ⟨neq,rfl,B',hi1,hi2,N',hq,heq⟩
  rw[show max n nrem=nrem by omega]at *
  exact q nrem neq st' B' hi1 hi2 N' hq heq
 ·refine⟨0,rfl,B,Qf _,hnn,S,by omega,fun k h1 h2=>?_⟩
  have:k=n-1:=by omega
  rw[this]
theorem w_tail(hL:Zf5 prog w A s k0 κ)(hk:PyProof.Rows.KeysOf κ a₀){n nrem:Nat}(hn:nrem≤a₀.size)(h1:1≤n)(hnn:n≤nrem)(B:SB k0 a₀ st)(N:NonIncK κ (arrOf st) n){Q:Option Nat→SortSt→Prop}
  (q:∀ (m:Nat) (st':SortSt),SB k0 a₀ st'→1≤m→m≤nrem→SortedToK κ (arrOf st') m→Q (some m) st'):wpS (model prog w) A E s (tail3 n nrem) Q st:=by
 unfold tail3
 refine wpS_bind (w_rev ?_)
 have B':=B.set (mirror_perm (arrOf st) 0 n ((n-0) / 2))
 have e:=KK_mirror (κ:=κ) (xs:=arrOf st) (i:=0) (j:=n) (by rw[B.size];omega)
 have S:SortedToK κ (mirror (arrOf st) 0 n ((n-0) / 2)) n:=fun a b hab hb=>by
  rw[e a,e b,if_pos ⟨by omega,by omega⟩,if_pos ⟨by omega,by omega⟩]
  exact N _ _ (by omega) (by omega)
 refine wpS_bind (w_asc hL hk hn h1 hnn B' S fun m hm1 hm2 S' _=>?_)
 exact wpS_pure (q m _ B' (by omega) hm2 S')
theorem w_part(hL:Zf5 prog w A s k0 κ)(hk:PyProof.Rows.KeysOf κ a₀){n nrem:Nat}(hn:nrem≤a₀.size)(hnn:n+1≤nrem)(B:SB k0 a₀ st)(N:NonIncK κ (arrOf st) (n+1)){Q:Option Nat→SortSt→Prop}
  (q:∀ (m:Nat) (st':SortSt),SB k0 a₀ st'→1≤m→m≤nrem→SortedToK κ (arrOf st') m→Q (some m) st'):wpS (model prog w) A E s (descPart n nrem) Q st:=by
 unfold descPart
 refine wpS_bind (wpS_lift (wpAny_rule ⟨rfl,?_⟩))
 refine wpS_bind (w_desc hL hk hn (by omega) hnn B N fun m neq st' B' m1 m2 N' hq heq=>?_)
 show wpS _ _ _ _ (if neq>0 then _ else _) _ _
 by_cases h0:neq>0
 ·rw[if_pos h0]
  refine wpS_bind (w_rev ?_)
  have e:∀k,KK κ (mirror (arrOf st') (m-(neq+1)) m ((m-(m-(neq+1))) / 2)) k=KK κ (arrOf st') k:=KK_mirror_equal (by rw[B'.size];omega) (fun k h1 h2=>heq k h1 h2)
  exact w_tail hL hk hn (by omega) m2 (B'.set (mirror_perm _ _ _ _)) (fun a b hab hb=>by rw[e a,e b];exact N' a b hab hb) q
 ·rw[if_neg h0]
  exact w_tail hL hk hn (by omega) m2 B' N' q
theorem w_count(hL:Zf5 prog w A s k0 κ)(hk:PyProof.Rows.KeysOf κ a₀){nrem:Nat}(hn:nrem≤a₀.size)(h1:1≤nrem)(B:SB k0 a₀ st){Q:Option Nat→SortSt→Prop}
  (q:∀ (m:Nat) (st':SortSt),SB k0 a₀ st'→1≤m→m≤nrem→SortedToK κ (arrOf st') m→Q (some m) st'):wpS (model prog w) A E s (countRun' 0 nrem) Q st:=by
 rw[countRun0_eq]
 refine wpS_bind (w_asc hL hk hn (Qf 1) h1 B (fun a b hab hb=>by obtain rfl:a=b:=(by omega);exact KeyOrd.kle_refl _) fun n n1 n2 S hor=>?_)
 show wpS _ _ _ _ (if (n == nrem)=true then _ else _) _ _
 by_cases hnn:n=nrem
 ·rw[if_pos (by rw[hnn];exact beq_self_eq_true _)]
  exact wpS_pure (q n st B n1 n2 S)
 ·rw[if_neg (by intro z;exact hnn (eq_of_beq z))]
  have hlt:=hor.resolve_left hnn
  have flat:(∀k,k<n→KK κ (arrOf st) k=KK κ (arrOf st) (n-1))→NonIncK κ (arrOf st) (n+1):=fun hf a b hab hb=>by
   by_cases hbn:b<n
   ·rw[hf a (by omega),hf b hbn];exact KeyOrd.kle_refl _
   ·have eb:b=n:=by omega
    subst eb
    by_cases ea:a=b
    ·subst ea;exact KeyOrd.kle_refl _
    ·rw[hf a (by omega)];exact KeyOrd.kle_of_klt hlt
  by_cases hn1:n>1
  ·rw[if_pos hn1]
   refine wpS_bind (w_lt hL hk B (by omega) (by omega) ?_)
   cases hb:κ.blt (KK κ (arrOf st) 0) (KK κ (arrOf st) (n-1)) with
   | true=>exact wpS_pure (q n st B n1 n2 S)
   | false =>
    have hf:∀k,k<n→KK κ (arrOf st) k=KK κ (arrOf st) (n-1):=fun k hkn=>by
     have a1:κ.kle (KK κ (arrOf st) k) (KK κ (arrOf st) (n-1)):=S k (n-1) (by omega) (by omega)
     have a2:κ.kle (KK κ (arrOf st) (n-1)) (KK κ (arrOf st) k):=KeyOrd.kle_trans (show κ.kle (KK κ (arrOf st) (n-1)) (KK κ (arrOf st) 0) from hb) (S 0 k (by omega) (by omega))
     exact KeyOrd.kle_antisymm a1 a2
    refine wpS_bind (w_rev ?_)
    have e:∀k,KK κ (mirror (arrOf st) 0 n ((n-0) / 2)) k=KK κ (arrOf st) k:=KK_mirror_equal (by rw[B.size];omega) (fun k _ h2=>hf k h2)
    exact w_part hL hk hn (by omega) (B.set (mirror_perm _ _ _ _)) (fun a b hab hb=>by rw[e a,e b];exact flat hf a b hab hb) q
  ·rw[if_neg hn1]
   exact w_part hL hk hn (by omega) B (flat fun k hkn=>by rw[show k=n-1 by omega]) q
theorem w_binary(hL:Zf5 prog w A s k0 κ)(hk:PyProof.Rows.KeysOf κ a₀){n ok:Nat}(hn:n≤a₀.size)(h1:ok≤n)(h0:1≤ok)(B:SB k0 a₀ st)(S:SortedToK κ (arrOf st) ok){Q:Bool→SortSt→Prop}
  (q:∀ (st':SortSt),SB k0 a₀ st'→SortedToK κ (arrOf st') n→Q true st'):wpS (model prog w) A E s (binarySort' 0 n ok) Q st:=by
 rw[binarySort'_eq]
 refine wpS_bind ?_
 refine wpS_forRange (fun i c st'=>c=(none,())∧SB k0 a₀ st'∧SortedToK κ (arrOf st') i) ?_ ?_ ⟨rfl,B,by rw[show max ok 1=ok by omega];exact S⟩
 ·rintro k c st' hak hkn ⟨rfl,B',S'⟩
  have k1:1≤k:=by omega
  refine wpS_bind ?_
  refine wpS_forRange (fun i c st2=>∃l r,c=(none,l,r)∧st2=st'∧l≤r∧r≤k∧r-l≤k-i∧(∀j,j<l→κ.kle (KK κ (arrOf st') j) (KK κ (arrOf st') k))∧(∀j,r≤j→j<k→κ.klt (KK κ (arrOf st') k) (KK κ (arrOf st') j))) ?_ ?_ ⟨0,k,rfl,rfl,Qq _,Qf _,by omega,fun j h=>by omega,fun j h1 h2=>by omega⟩
  ·rintro i c st2 hi0 hik ⟨l,r,rfl,rfl,hlr,hrk,hm,hlo,hhi⟩
   show wpS _ _ _ _ (if l≥r then _ else _) _ _
   by_cases hge:l≥r
   ·rw[if_pos hge]
    refine wpS_pure ?_
    have elr:l=r:=by omega
    subst elr
    refine wpS_bind ?_
    rw[moveDown'_eq]
    refine wpS_modify (wpS_pure ?_)
    have eb:=KK_bubble (κ:=κ) (xs:=arrOf st2) (src:=0+k) (d:=0+k-(0+l)) (by rw[B'.size];omega) (by omega)
    refine⟨rfl,B'.set (bubble_perm _ _ _),fun a b hab hb=>?_⟩
    show κ.kle (KK κ (bubble (arrOf st2) (0+k) (0+k-(0+l))) a) (KK κ (bubble (arrOf st2) (0+k) (0+k-(0+l))) b)
    rw[eb a,eb b]
    rw[show 0+k=k by omega,show 0+l=l by omega,show k-(k-l)=l by omega]
    by_cases ha:a=l
    ·rw[if_pos ha]
     by_cases hbl:b=l
     ·rw[if_pos hbl];exact KeyOrd.kle_refl _
     ·rw[if_neg hbl,if_pos ⟨by omega,by omega⟩]
      exact KeyOrd.kle_of_klt (hhi (b-1) (by omega) (by omega))
    ·rw[if_neg ha]
     by_cases hal:a<l
     ·rw[if_neg (by omega)]
      by_cases hbl:b=l
      ·rw[if_pos hbl];exact hlo a hal
      ·rw[if_neg hbl]
       by_cases hbb:l<b
       ·rw[if_pos ⟨hbb,by omega⟩];exact S' a (b-1) (by omega) (by omega)
       ·rw[if_neg (by omega)];exact S' a b hab (by omega)
     ·rw[if_pos ⟨by omega,by omega⟩,if_neg (by omega),if_pos ⟨by omega,by omega⟩]
      exact S' (a-1) (b-1) (by omega) (by omega)
   ·rw[if_neg hge]
    refine wpS_bind (w_lt hL hk B' (by show 0+k<_;omega) (by show 0+(l+r) / 2<_;omega) ?_)
    rw[show 0+k=k by omega,show 0+(l+r) / 2=(l+r) / 2 by omega]
    cases hb:κ.blt (KK κ (arrOf st2) k) (KK κ (arrOf st2) ((l+r) / 2)) with
    | true =>
     refine wpS_pure ⟨l,(l+r) / 2,rfl,rfl,by omega,by omega,by omega,hlo,fun j h1 h2=>?_⟩
     exact KeyOrd.klt_of_klt_of_kle hb (S' _ j h1 h2)
    | false =>
     refine wpS_pure ⟨(l+r) / 2+1,r,rfl,rfl,by omega,by omega,by omega,fun j h=>?_,hhi⟩
     exact KeyOrd.kle_trans (S' j ((l+r) / 2) (by omega) (by omega)) hb
  ·rintro c st2 ⟨l,r,rfl,rfl,hlr,hrk,hm,hlo,hhi⟩
   have elr:l=r:=by omega
   subst elr
   refine wpS_bind ?_
   rw[moveDown'_eq]
   refine wpS_modify (wpS_pure ?_)
   have eb:=KK_bubble (κ:=κ) (xs:=arrOf st2) (src:=0+k) (d:=0+k-(0+l)) (by rw[B'.size];omega) (by omega)
   refine⟨rfl,B'.set (bubble_perm _ _ _),fun a b hab hb=>?_⟩
   show κ.kle (KK κ (bubble (arrOf st2) (0+k) (0+k-(0+l))) a) (KK κ (bubble (arrOf st2) (0+k) (0+k-(0+l))) b)
   rw[eb a,eb b]
   rw[show 0+k=k by omega,show 0+l=l by omega,show k-(k-l)=l by omega]
   by_cases ha:a=l
   ·rw[if_pos ha]
    by_cases hbl:b=l
    ·rw[if_pos hbl];exact KeyOrd.kle_refl _
    ·rw[if_neg hbl,if_pos ⟨by omega,by omega⟩]
     exact KeyOrd.kle_of_klt (hhi (b-1) (by omega) (by omega))
   ·rw[if_neg ha]
    by_cases hal:a<l
    ·rw[if_neg (by omega)]
     by_cases hbl:b=l
     ·rw[if_pos hbl];exact hlo a hal
     ·rw[if_neg hbl]
      by_cases hbb:l<b
      ·rw[if_pos ⟨hbb,by omega⟩];exact S' a (b-1) (by omega) (by omega)
      ·rw[if_neg (by omega)];exact S' a b hab (by omega)
    ·rw[if_pos ⟨by omega,by omega⟩,if_neg (by omega),if_pos ⟨by omega,by omega⟩]
     exact S' (a-1) (b-1) (by omega) (by omega)
 ·rintro c st' ⟨rfl,B',S'⟩
  rw[show max (max ok 1) n=n by omega]at S'
  exact wpS_pure (q st' B' S')
theorem w_runs(hL:Zf5 prog w A s k0 κ)(hk:PyProof.Rows.KeysOf κ a₀)(B:SB k0 a₀ st)(h2:2≤a₀.size)(h64:a₀.size<64){Q:Unit→SortSt→Prop}
  (q:∀ (st':SortSt),(arrOf st').Perm a₀→failedOf st'=none→SortedToK κ (arrOf st') a₀.size→Q () st'):wpS (model prog w) A E s sortRuns' Q st:=by
 rw[sortRuns'_eq]
 refine wpS_bind (wpS_get ?_)
 have hsz:=B.size
 have hmin:minRun' (arrOf st).size (arrOf st).size 0=(arrOf st).size:=by
  obtain⟨f,hf⟩:∃f,(arrOf st).size=f+1:=⟨(arrOf st).size-1,by omega⟩
  rw[show minRun' (arrOf st).size (arrOf st).size 0=minRun' (f+1) (arrOf st).size 0 by rw[← hf],minRun'_succ,if_pos (by omega)]
  rfl
 refine wpS_bind ?_
 refine wpS_forRange (fun i c st'=>(i=0∧c=(none,0)∧st'=st)∨(i≠0∧c=(none,a₀.size)∧(arrOf st').Perm a₀∧failedOf st'=none∧(pendingOf st').size≤1∧SortedToK κ (arrOf st') a₀.size)) ?_ ?_ (.inl ⟨rfl,rfl,rfl⟩)
 ·rintro i c st' hi0 hi ⟨⟩
  ·rename_i h
   obtain⟨rfl,rfl,rfl⟩:=h
   show wpS _ _ _ _ (if 0≥(arrOf st').size then _ else _) _ _
   rw[if_neg (by omega)]
   refine wpS_bind ?_
   rw[show (arrOf st').size-0=a₀.size by omega]
   refine w_count hL hk (Qf _) (by omega) B fun m st2 B2 m1 m2 S2=>?_
   have push:∀ (st3:SortSt),SB k0 a₀ st3→SortedToK κ (arrOf st3) a₀.size→(arrOf (setPending st3 ((pendingOf st3).push (0,a₀.size,0)))).Perm a₀∧failedOf (setPending st3 ((pendingOf st3).push (0,a₀.size,0)))=none∧(pendingOf (setPending st3 ((pendingOf st3).push (0,a₀.size,0)))).size≤1∧SortedToK κ (arrOf (setPending st3 ((pendingOf st3).push (0,a₀.size,0)))) a₀.size:=fun st3 B3 S3 =>
    ⟨B3.perm,B3.failed,by show ((pendingOf st3).push (0,a₀.size,0)).size≤1;rw[B3.pend,Array.size_push];exact Qf _,S3⟩
   show wpS _ _ _ _ (if m<minRun' (arrOf st').size (arrOf st').size 0 then _ else _) _ _
   rw[hmin,hsz]
   by_cases hm:m<a₀.size
   ·rw[if_pos hm]
    refine wpS_bind (wpS_lift (wpAny_rule ⟨rfl,?_⟩))
    show wpS _ _ _ _ (binarySort' 0 (min a₀.size a₀.size) m >>= _) _ _
    rw[Nat.min_self]
    refine wpS_bind (w_binary hL hk (Qf _) (by omega) m1 B2 S2 fun st3 B3 S3=>?_)
    show wpS _ _ _ _ (get >>= _) _ _
    refine wpS_bind (wpS_get ?_)
    show wpS _ _ _ _ (match (pendingOf st3).back? with|some (s1,n1,snd)=>_|x=>_) _ _
    rw[show (pendingOf st3).back? = none by rw[B3.pend];rfl]
    show wpS _ _ _ _ (modify _ >>= _) _ _
    refine wpS_bind (wpS_modify (wpS_pure (.inr ⟨by omega,?_,push st3 B3 S3⟩)))
    show (none,0+a₀.size)=(none,a₀.size)
    rw[Nat.zero_add]
   ·rw[if_neg hm]
    have em:m=a₀.size:=by omega
    subst em
    show wpS _ _ _ _ (get >>= _) _ _
    refine wpS_bind (wpS_get ?_)
    show wpS _ _ _ _ (match (pendingOf st2).back? with|some (s1,n1,snd)=>_|x=>_) _ _
    rw[show (pendingOf st2).back? = none by rw[B2.pend];rfl]
    show wpS _ _ _ _ (modify _ >>= _) _ _
    refine wpS_bind (wpS_modify (wpS_pure (.inr ⟨by omega,?_,push st2 B2 S2⟩)))
    show (none,0+a₀.size)=(none,a₀.size)
    rw[Nat.zero_add]
  ·rename_i h
   obtain⟨hne,rfl,p1,p2,p3,p4⟩:=h
   show wpS _ _ _ _ (if a₀.size≥(arrOf st).size then _ else _) _ _
   rw[if_pos (by omega)]
   refine wpS_pure ?_
   show wpS _ _ _ _ (forIn [:(arrOf st).size] (none,()) _ >>= _) _ _
   refine wpS_bind ?_
   refine wpS_forRange (fun i c st2=>c=(none,())∧st2=st') ?_ ?_ ⟨rfl,rfl⟩
   ·rintro i c st2 _ _ ⟨rfl,rfl⟩
    show wpS _ _ _ _ (get >>= _) _ _
    refine wpS_bind (wpS_get ?_)
    show wpS _ _ _ _ (if (pendingOf st2).size≤1 then _ else _) _ _
    rw[if_pos p3]
    exact wpS_pure (wpS_pure (q _ p1 p2 p4))
   ·rintro c st2 ⟨rfl,rfl⟩
    exact wpS_pure (q _ p1 p2 p4)
 ·rintro c st' ⟨⟩
  ·rename_i h
   exact absurd h.1 (by omega)
  ·rename_i h
   obtain⟨hne,rfl,p1,p2,p3,p4⟩:=h
   show wpS _ _ _ _ (forIn [:(arrOf st).size] (none,()) _ >>= _) _ _
   refine wpS_bind ?_
   refine wpS_forRange (fun i c st2=>c=(none,())∧st2=st') ?_ ?_ ⟨rfl,rfl⟩
   ·rintro i c st2 _ _ ⟨rfl,rfl⟩
    show wpS _ _ _ _ (get >>= _) _ _
    refine wpS_bind (wpS_get ?_)
    show wpS _ _ _ _ (if (pendingOf st2).size≤1 then _ else _) _ _
    rw[if_pos p3]
    exact wpS_pure (wpS_pure (q _ p1 p2 p4))
   ·rintro c st2 ⟨rfl,rfl⟩
    exact wpS_pure (q _ p1 p2 p4)
end
section
variable {prog:Program} {w:World} {A:Around} {E:Value→Shared→Prop} {s:Shared} {κ:PyProof.Rows.KeyKind}
theorem w_sort{a:Addr}{vs:List Value}{n:Nat}{P:PySem.Fin→Shared→Prop}(ha:s.heap.get? a=some (seqObj "list" vs.toArray n))(hk:PyProof.Rows.KeysOf κ (pairsOf vs))(h2:2≤vs.length)(h64:vs.length<64)
  (hK:∀ (s':Shared),(∀b o,b≠a→s.heap.get? b=some o→s'.heap.get? b=some o)→∀ (E:Value→Shared→Prop) (Q:SortKind→Shared→Prop),(∀k0,Zf5 prog w A s' k0 κ→Q k0 s')→wpAny (model prog w) A (keyKind' vs.toArray) Q E s')
  (q:∀ (st':SortSt),(arrOf st').Perm (pairsOf vs)→SortedToK κ (arrOf st') (pairsOf vs).size→P (Fin.done (Flow.ret Value.none)) { s with heap:=sortedHeap s.heap a vs ((arrOf st').map fun x=>x.snd) }) :
  wpAny (model prog w) A (Builtin.«list.sort» { pos:=[.ref a] }) P E s:=by
 have hz:vs.toArray.size≤sizeLine:=by rw[Qr,sizeLine_eq];omega
 rw[list_sort_plain]
 refine wpAny_bind (ZaZ ha rfl ?_)
 show wpAny _ _ (updateSeq a (fun x=>#[]) >>= _) _ _ _
 refine wpAny_bind (wpAny_updateSeq ha rfl ?_ hz (by show 0≤_;omega))
 have e1:=get?_update_seq ha (fun _=>#[])
 refine wpAny_bind (seqEpoch_at e1 rfl ?_)
 refine wpAny_bind (wpAny_newTuple ?_ (by simpa using hz))
 refine wpAny_bind (wpAny_newList ?_ (by show 0≤_;omega))
 refine wpAny_holding ?_
 have hn2:¬ vs.toArray.size<2:=by rw[Qr];omega
 have hps:(pairsOf vs).size=vs.length:=by unfold pairsOf;simp
 rw[if_neg hn2,if_neg hn2]
 have keep:∀b o,b≠a→s.heap.get? b=some o→(((s.heap.update a (Obj.mapSeq fun _=>#[])).push { cls:=.type "tuple",data:=.seq vs.toArray.toList.toArray }).push { cls:=.type "list",data:=.seq ([]:List Value).toArray }).get? b=some o:=fun b o hb h =>
  Qc _ (Qc _ (Q1 _ (Ne.symm hb) h))
 have e2:(((s.heap.update a (Obj.mapSeq fun _=>#[])).push { cls:=.type "tuple",data:=.seq vs.toArray.toList.toArray }).push { cls:=.type "list",data:=.seq ([]:List Value).toArray }).get? a=some (seqObj "list" #[] _):=Qc _ (Qc _ e1)
 refine wpAny_bind (hK _ keep _ _ fun k0 hL=>?_)
 refine wpAny_bind ?_
 have B:SB k0 (pairsOf vs) (SortSt.mk' k0 (vs.toArray.zip vs.toArray) #[] 7 none):=⟨Array.Perm.refl _,rfl,rfl,rfl⟩
 refine thn (w_runs (E:=E) hL hk B (by rw[hps];exact h2) (by rw[hps];exact h64) (Q:=fun _ st'=>(arrOf st').Perm (pairsOf vs)∧failedOf st'=none∧SortedToK κ (arrOf st') (pairsOf vs).size) (fun st' a b c=>⟨a,b,c⟩)) fun r s' hr=>?_
 obtain⟨⟨⟩,st'⟩:=r
 obtain⟨rfl,p1,p2,p3⟩:=hr
 refine wpAny_bind (seqEpoch_at e2 rfl ?_)
 have hsz:((arrOf st').map fun x=>x.snd).size=vs.length:=by rw[Array.size_map,p1.size_eq,hps]
 show wpAny _ _ (updateSeq a (fun x=>(arrOf st').map fun x=>x.snd) >>= _) _ _ _
 refine wpAny_bind (wpAny_updateSeq e2 rfl ?_ (by show 0≤_;omega) (by show ((arrOf st').map fun x=>x.snd).size≤_;rw[hsz];rw[Qr]at hz;omega))
 rw[p2]
 rw[if_neg (by simp)]
 exact wpAny_pure (q st' p1 p3)
theorem w_sorted{l:Addr}{vs:List Value}{Q:Value→Shared→Prop}(hl:s.heap.IsList l vs.toArray)(hk:PyProof.Rows.KeysOf κ (pairsOf vs))(h2:2≤vs.length)(h64:vs.length<64)
  (hK:∀ (A:Around) (s':Shared),(∀b o,s.heap.get? b=some o→s'.heap.get? b=some o)→∀ (E:Value→Shared→Prop) (Q:SortKind→Shared→Prop),(∀k0,Zf5 prog w A s' k0 κ→Q k0 s')→wpAny (model prog w) A (keyKind' vs.toArray) Q E s')
  (q:∀ (st':SortSt),(arrOf st').Perm (pairsOf vs)→SortedToK κ (arrOf st') (pairsOf vs).size→Q (.ref (s.heap.objs.size+1)) { s with heap:=sortedAll s.heap vs ((arrOf st').map fun x=>x.snd) }) :
  wpAny (model prog w) A (call (.builtin "sorted") [.ref l]) Q E s:=by
 refine Calls.call_function_entry kind_sorted plain_sorted entry_sorted (args_sorted1 (.ref l)) ?_
 have hz:vs.length≤sizeLine:=by rw[sizeLine_eq];omega
 refine wpAny_bind (wpAny_pure (wpAny_bind (collect_list hl (wpAny_bind (wpAny_newList ?_ hz)) hz)))
 have hsz:((s.heap.push (seqObj "list" #[] 0)).update s.heap.objs.size (Obj.mapSeq fun x=>x++vs.toArray)).objs.size=s.heap.objs.size+1:=by rw[Heap.size_update,size_push']
 have hoL:((((s.heap.push (seqObj "list" #[] 0)).update s.heap.objs.size (Obj.mapSeq fun x=>x++vs.toArray)).push (seqObj "list" vs.toArray 0)).get? (s.heap.objs.size+1))=some (seqObj "list" vs.toArray 0):=by
  rw[← hsz];exact Qu _ rfl
 have keep:∀b o,s.heap.get? b=some o→(((s.heap.push (seqObj "list" #[] 0)).update s.heap.objs.size (Obj.mapSeq fun x=>x++vs.toArray)).push (seqObj "list" vs.toArray 0)).get? b=some o:=fun b o h =>
  Qc _ (Q1 _ (Q5 (Qv h)) (Qc _ h))
 show wpAny _ _ (holding [.ref ((s.heap.push (seqObj "list" #[] 0)).update s.heap.objs.size (Obj.mapSeq fun x=>x++vs.toArray)).objs.size] (call (.builtin "list.sort") [.ref ((s.heap.push (seqObj "list" #[] 0)).update s.heap.objs.size (Obj.mapSeq fun x=>x++vs.toArray)).objs.size]) >>= fun _=>ret (.ref ((s.heap.push (seqObj "list" #[] 0)).update s.heap.objs.size (Obj.mapSeq fun x=>x++vs.toArray)).objs.size)) _ _ _
 rw[hsz]
 refine wpAny_bind (wpAny_holding (wpAny_call_entry slot_list_sort ⟨_,hoL,rfl⟩ entry_list_sort ?_ (args_list_sort _)))
 refine w_sort hoL hk h2 h64 (fun s' hk'=>hK _ s' fun b o h=>hk' b o (QH (QG (Qv h) (Qao _))) (keep b o h)) fun st' p1 p3=>?_
 exact⟨_,rfl,wpAny_pure ⟨_,rfl,q st' p1 p3⟩⟩
end
def kLt:Key→Key→Bool
 | .inl i,.inl j=>decide (i<j)
 | .inr x,.inr y=>decide (x.cps.toList<y.cps.toList)
 | .inl _,.inr _=>true
 | .inr _,.inl _=>false
theorem Zje:∀a:Key,kLt a a=false
 | .inl i=>decide_eq_false (by omega)
 | .inr x=>decide_eq_false (List.lt_irrefl _)
theorem ZkT:∀a b c:Key,kLt a b=true→kLt b c=true→kLt a c=true
 | .inl i,.inl j,.inl k,h1,h2=>by have:=of_decide_eq_true h1;have:=of_decide_eq_true h2;exact decide_eq_true (by omega)
 | .inr x,.inr y,.inr z,h1,h2=>decide_eq_true (List.lt_trans (of_decide_eq_true h1) (of_decide_eq_true h2))
 | .inl _,.inl _,.inr _,_,_=>rfl
 | .inl _,.inr _,.inr _,_,_=>rfl
 | .inl _,.inr _,.inl _,_,h=>by cases h
 | .inr _,.inl _,_,h,_=>by cases h
 | .inr _,.inr _,.inl _,_,h=>by cases h
theorem Zkv:∀a b:Key,kLt a b=false→kLt b a=false→a=b
 | .inl i,.inl j,h1,h2=>by have:=of_decide_eq_false h1;have:=of_decide_eq_false h2;congr 1;omega
 | .inr x,.inr y,h1,h2=>by
  have a1:¬ x.cps.toList<y.cps.toList:=of_decide_eq_false h1
  have a2:¬ y.cps.toList<x.cps.toList:=of_decide_eq_false h2
  have e:x.cps.toList=y.cps.toList:=List.le_antisymm a2 a1
  obtain⟨xs⟩:=x
  obtain⟨ys⟩:=y
  congr 2
  exact Array.toList_inj.mp e
 | .inl _,.inr _,h,_=>by cases h
 | .inr _,.inl _,_,h=>by cases h
def ZT:List Key→List Key→Bool
 | [],[]=>false
 | [],_::_=>true
 | _::_,[]=>false
 | x::xs,y::ys=>if x=y then ZT xs ys else kLt x y
theorem Zbb(x y:Key)(xs ys:List Key):ZT (x::xs) (y::ys)=if x=y then ZT xs ys else kLt x y:=rfl
theorem Zb8:∀a:List Key,ZT a a=false
 | []=>rfl
 | x::r=>by unfold ZT;rw[if_pos rfl];exact Zb8 r
theorem Zb0:∀a b c:List Key,ZT a b=true→ZT b c=true→ZT a c=true
 | [],[],_,h,_=>by cases h
 | [],_::_,[],_,h=>by cases h
 | [],_::_,_::_,_,_=>rfl
 | _::_,[],_,h,_=>by cases h
 | _::_,_::_,[],_,h=>by cases h
 | x::r,y::s,z::t,h1,h2=>by
  have ih:=Zb0 r s t
  unfold ZT at h1 h2 ⊢
  by_cases e1:x=y
  ·rw[if_pos e1]at h1
   by_cases e2:y=z
   ·rw[if_pos e2]at h2
    rw[if_pos (e1.trans e2)]
    exact ih h1 h2
   ·rw[if_neg e2]at h2
    rw[if_neg (fun e=>e2 (e1.symm.trans e)),e1]
    exact h2
  ·rw[if_neg e1]at h1
   by_cases e2:y=z
   ·rw[if_neg (fun e=>e1 (e.trans e2.symm)),← e2]
    exact h1
   ·rw[if_neg e2]at h2
    have h3:=ZkT _ _ _ h1 h2
    rw[if_neg (fun e=>by rw[e,Zje]at h3;cases h3)]
    exact h3
theorem Za8:∀a b:List Key,ZT a b=false→ZT b a=false→a=b
 | [],[],_,_=>rfl
 | [],_::_,h,_=>by cases h
 | _::_,[],_,h=>by cases h
 | x::r,y::s,h1,h2=>by
  unfold ZT at h1 h2
  by_cases e:x=y
  ·rw[if_pos e]at h1
   rw[if_pos e.symm]at h2
   rw[e,Za8 r s h1 h2]
  ·rw[if_neg e]at h1
   rw[if_neg fun z=>e z.symm]at h2
   exact absurd (Zkv _ _ h1 h2) e
theorem Zmc(a b c:List Key)(h:ZT a c=true):ZT a b=true∨ZT b c=true:=by
 by_cases h1:ZT a b=true
 ·exact .inl h1
 ·by_cases h2:ZT b a=true
  ·exact .inr (Zb0 _ _ _ h2 h)
  ·have e:=Za8 a b (by simpa using h1) (by simpa using h2)
   rw[← e];exact .inr h
def unV:V→Option Key
 | .int i=>some (.inl i)
 | .str x=>some (.inr x)
 | _=>none
def ZeQ:List V→Option (List Key)
 | []=>some []
 | x::r=>(unV x).bind fun k=>(ZeQ r).map (k::·)
theorem ZpH(k:Key):unV (kV k)=some k:=by cases k<;>rfl
theorem Zhy:∀ks:List Key,ZeQ (ks.map kV)=some ks
 | []=>rfl
 | k::r=>by show (unV (kV k)).bind _=_;rw[ZpH,Zhy r];rfl
theorem ZpR:∀ {x:V} {k:Key},unV x=some k→x=kV k
 | .int i,k,h=>by cases h;rfl
 | .str z,k,h=>by cases h;rfl
 | .non,_,h=>by cases h
 | .bl _,_,h=>by cases h
 | .byt _,_,h=>by cases h
 | .flt _,_,h=>by cases h
 | .ref _,_,h=>by cases h
 | .ty _,_,h=>by cases h
theorem ZhN:∀ {xs:List V} {ks:List Key},ZeQ xs=some ks→xs=ks.map kV
 | [],ks,h=>by cases h;rfl
 | x::r,ks,h=>by
  unfold ZeQ at h
  cases hu:unV x with
  | none=>rw[hu]at h;cases h
  | some k =>
   rw[hu]at h
   cases hr:ZeQ r with
   | none=>rw[hr]at h;cases h
   | some ms=>rw[hr]at h;cases h;rw[ZpR hu,ZhN hr];rfl
def shape(ks:List Key):List Bool:=ks.map fun k=>k.isLeft
def Zg0(H:Hp)(sh:List Bool):Value→Option (List Key)
 | .ref a=>match H a with
  | some (.tup xs)=>(ZeQ xs).bind fun ks=>if shape ks=sh then some ks else none
  | _=>none
 | _=>none
theorem ZiE{H:Hp}{a:Addr}{ks:List Key}(h:H a=some (.tup (ks.map kV))):Zg0 H (shape ks) (.ref a)=some ks:=by
 unfold Zg0
 dsimp only
 rw[h]
 show (ZeQ (ks.map kV)).bind _=_
 rw[Zhy]
 show (if shape ks=shape ks then some ks else none)=_
 rw[if_pos rfl]
theorem ZhY{H:Hp}{sh:List Bool}{v:Value}{ks:List Key}(h:Zg0 H sh v=some ks):∃a,v=.ref a∧H a=some (.tup (ks.map kV))∧shape ks=sh:=by
 unfold Zg0 at h
 split at h
 ·rename_i a
  split at h
  ·rename_i xs hx
   cases hk:ZeQ xs with
   | none=>rw[hk]at h;cases h
   | some ms =>
    rw[hk]at h
    have h':(if shape ms=sh then some ms else none)=some ks:=h
    by_cases e:shape ms=sh
    ·rw[if_pos e]at h'
     cases h'
     exact⟨a,rfl,by rw[hx,ZhN hk],e⟩
    ·rw[if_neg e]at h';cases h'
  ·cases h
 ·cases h
def Zhq(H:Hp)(sh:List Bool):PyProof.Rows.KeyKind:=⟨⟨List Key,ZT,Zb8,Zb0,fun a b c h=>Zmc a b c h,Za8⟩,Zg0 H sh,[]⟩
section
variable {prog:Program} {w:World} {A:Around} {E:Value→Shared→Prop} {s:Shared}
theorem Zqf{k m:Key}{p q:Value}(hp:Zx (kV k) p)(hq:Zx (kV m) q)(hs:k.isLeft=m.isLeft){Q:Bool→Shared→Prop}(h:Q (decide (k=m)) s):wpAny (model prog w) A (eqBool p q) Q E s:=by
 cases k with
 | inl i =>
  cases m with
  | inl j =>
   obtain⟨t,rfl⟩:=hp
   obtain⟨u,rfl⟩:=hq
   refine wpAny_eqBool_int ?_
   have e:(i == j)=decide ((Sum.inl i:Key)=Sum.inl j):=by
    by_cases z:i=j
    ·rw[z];simp
    ·rw[decide_eq_false (fun e=>z (Sum.inl.inj e))];simpa using z
   rw[e];exact h
  | inr y=>cases hs
 | inr x =>
  cases m with
  | inl j=>cases hs
  | inr y =>
   obtain⟨t,rfl⟩:=hp
   obtain⟨u,rfl⟩:=hq
   refine wpAny_eqBool_str ?_
   have e:decide (x=y)=decide ((Sum.inr x:Key)=Sum.inr y):=decide_eq_decide.mpr ⟨fun z=>by rw[z],fun z=>Sum.inr.inj z⟩
   rw[e];exact h
theorem Zqd{c:Bool}{k m:Key}{p q:Value}(hp:Zx (kV k) p)(hq:Zx (kV m) q)(hs:k.isLeft=m.isLeft){Q:Bool→Shared→Prop}(h:Q (kLt k m) s):wpAny (model prog w) A (oneLt' c p q) Q E s:=by
 cases k with
 | inl i =>
  cases m with
  | inl j =>
   obtain⟨t,rfl⟩:=hp
   obtain⟨u,rfl⟩:=hq
   cases c with
   | true=>exact oneLt_int h
   | false =>
    rw[oneLt'_eq]
    show wpAny _ _ (richCompare .Lt (.int i t) (.int j u) >>= _) _ _ _
    refine wpAny_bind (show wpAny (model prog w) A (compareOp .Lt (.int i t) (.int j u)) _ _ _ from PyProof.Rows.lt_int ?_)
    exact wpAny_pure h
  | inr y=>cases hs
 | inr x =>
  cases m with
  | inl j=>cases hs
  | inr y =>
   obtain⟨t,rfl⟩:=hp
   obtain⟨u,rfl⟩:=hq
   cases c with
   | true=>exact oneLt_str h
   | false =>
    rw[oneLt'_eq]
    show wpAny _ _ (richCompare .Lt (.str x t) (.str y u) >>= _) _ _ _
    refine wpAny_bind (show wpAny (model prog w) A (compareOp .Lt (.str x t) (.str y u)) _ _ _ from PyProof.Rows.lt_str ?_)
    exact wpAny_pure h
theorem ZpE{b:Bool}{x y:Addr}{ks ms:List Key}{its its2:List Value}(hx:IsTup s.heap x its.toArray)(hy:IsTup s.heap y its2.toArray)(rx:Zv (ks.map kV) its)(ry:Zv (ms.map kV) its2)(hs:shape ks=shape ms){Q:Bool→Shared→Prop}
  (h:Q (ZT ks ms) s):wpAny (model prog w) A (keyLt' (tuples' b) (.ref x) (.ref y)) Q E s:=by
 obtain⟨o1,ho1,_,n1,hd1⟩:=hx
 obtain⟨o2,ho2,_,n2,hd2⟩:=hy
 show wpAny _ _ (Builtin.List.listItems (.ref x) >>= _) _ _ _
 refine wpAny_bind (ZaZ ho1 hd1 (wpAny_bind (ZaZ ho2 hd2 (wpAny_bind ?_))))
 have hl1:=rx.length
 have hl2:=ry.length
 have hl3:ks.length=ms.length:=by have:=congrArg List.length hs;simpa [shape] using this
 rw[Qb]at hl1 hl2
 refine wpAny_forIn_list _ (fun rest c s'=>c=(none,())∧s'=s∧∃ (vs ws:List Value) (k:Nat) (ks' ms':List Key),rest=(vs.zip ws).zipIdx k∧Zv (ks'.map kV) vs∧Zv (ms'.map kV) ws∧shape ks'=shape ms'∧ZT ks ms=ZT ks' ms') _ ?_ ?_ _ _ ⟨rfl,rfl,its,its2,0,ks,ms,by simp,rx,ry,hs,rfl⟩
 ·rintro⟨⟨p,q⟩,i⟩ rest c s' ⟨rfl,rfl,vs,ws,k,ks',ms',hz,rv,rw',hs',he⟩
  cases ks' with
  | nil=>cases rv;cases hz
  | cons k1 kr =>
   cases ms' with
   | nil=>cases hs'
   | cons m1 mr =>
    cases rv with
    | cons r1 rr =>
     cases rw' with
     | cons r1' rr' =>
      rw[Qak,List.zipIdx_cons]at hz
      injection hz with h1 h2
      injection h1 with h3 h4
      injection h3 with h5 h6
      subst h4 h5 h6
      unfold shape at hs'
      rw[Qh,Qh]at hs'
      injection hs' with s1 s2
      refine wpAny_bind (Zqf r1 r1' s1 ?_)
      rw[Zbb]at he
      by_cases e:k1=m1
      ·rw[if_pos e]at he
       rw[decide_eq_true e]
       exact wpAny_pure ⟨rfl,rfl,_,_,_,kr,mr,h2,rr,rr',s2,he⟩
      ·rw[if_neg e]at he
       rw[decide_eq_false e]
       refine wpAny_bind (Zqd r1 r1' s1 (wpAny_pure ?_))
       refine wpAny_pure ?_
       rw[← he];exact h
 ·rintro c s' ⟨rfl,rfl,vs,ws,k,ks',ms',hz,rv,rw',hs',he⟩
  refine wpAny_pure ?_
  have e:ZT ks' ms'=false:=by
   cases ks' with
   | nil =>
    cases ms' with
    | nil=>rfl
    | cons _ _=>cases hs'
   | cons k1 kr =>
    cases ms' with
    | nil=>cases hs'
    | cons m1 mr =>
     cases rv with
     | cons r1 rr =>
      cases rw' with
      | cons r1' rr'=>rw[Qak,List.zipIdx_cons]at hz;cases hz
  rw[e]at he
  rw[he]at h
  have e2:decide (its.toArray.size<its2.toArray.size)=false:=decide_eq_false (by rw[Qr,Qr];omega)
  rw[e2];exact h
end
section
variable {prog:Program} {w:World} {A:Around} {E:Value→Shared→Prop} {s:Shared}
theorem w_mapM{M:Model}{α β:Type}{f:α→Sem β}(R:α→β→Prop):∀ (l:List α) {Q:List β→Shared→Prop},(∀v∈l,∃r,R v r∧∀ (Q':β→Shared→Prop),Q' r s→wpAny M A (f v) Q' E s)→(∀rs,rs.length=l.length→(∀r∈rs,∃v∈l,R v r)→Q rs s)→wpAny M A (List.mapM f l) Q E s
 | [],Q,_,q=>by rw[List.mapM_nil];exact wpAny_pure (q [] rfl (fun r h=>by cases h))
 | a::l,Q,h,q=>by
  rw[List.mapM_cons]
  obtain⟨r,hr,hw⟩:=h a (by simp)
  refine wpAny_bind (hw _ (wpAny_bind (w_mapM R l (fun v hv=>h v (Qs _ hv)) fun rs hl hrs=>wpAny_pure (q (r::rs) (by simp[hl]) fun z hz=>?_))))
  rcases QO.mp hz with rfl|hz
  ·exact⟨a,by simp,hr⟩
  ·obtain⟨v,hv,hR⟩:=hrs z hz
   exact⟨v,Qs _ hv,hR⟩
theorem w_mapA{M:Model}{α β:Type}{f:α→Sem β}(R:α→β→Prop)(l:Array α){Q:Array β→Shared→Prop}(h:∀v∈l.toList,∃r,R v r∧∀ (Q':β→Shared→Prop),Q' r s→wpAny M A (f v) Q' E s)(q:∀rs:Array β,(∀r∈rs.toList,∃v∈l.toList,R v r)→Q rs s):wpAny M A (Array.mapM f l) Q E s:=by
 rw[Array.mapM_eq_mapM_toList,map_eq_pure_bind]
 exact wpAny_bind (w_mapM R l.toList h fun rs _ hr=>wpAny_pure (q rs.toArray (by simpa using hr)))
theorem Zkz{a:Addr}{its:List Value}(ht:IsTup s.heap a its.toArray){Q:Option Value→Shared→Prop}(q:Q its[0]? s):wpAny (model prog w) A (firstOfTuple' (.ref a)) Q E s:=by
 obtain⟨o,ho,hc,n,hd⟩:=id ht
 show wpAny _ _ (typeOf (.ref a) >>= _) _ _ _
 refine wpAny_bind (wpAny_typeOf ht.typeIs ?_)
 rw[if_neg (by decide)]
 refine wpAny_bind (ZaZ ho hd (wpAny_pure ?_))
 simpa using q
theorem Zmn{k:Key}{v:Value}(h:Zx (kV k) v){Q:Value→Shared→Prop}(q:Q (.type (if k.isLeft then "int" else "str")) s):wpAny (model prog w) A (typeOf v) Q E s:=by
 cases k with
 | inl i=>obtain⟨t,rfl⟩:=h;exact wpAny_typeOf (T := "int") rfl q
 | inr x=>obtain⟨t,rfl⟩:=h;exact wpAny_typeOf (T := "str") rfl q
theorem ZmA{vs:List Value}(h:∀v∈vs,∃ (a:Addr) (its:List Value) (k:Key) (v0:Value),v=.ref a∧IsTup s.heap a its.toArray∧its[0]? = some v0∧Zx (kV k) v0){Q:SortKind→Shared→Prop}(q:∀b,Q (tuples' b) s):wpAny (model prog w) A (keyKind' vs.toArray) Q E s:=by
 rw[keyKind'_eq]
 refine wpAny_bind (w_mapA (fun _ r=>∃ (k:Key) (v0:Value),r=some v0∧Zx (kV k) v0) _ (fun v hv=>?_) fun firsts hf=>?_)
 ·obtain⟨a,its,k,v0,rfl,ht,h0,hr⟩:=h v (by simpa using hv)
  exact⟨its[0]?,⟨k,v0,h0,hr⟩,fun Q' q'=>Zkz ht q'⟩
 ·have hall:(firsts.all fun x=>x.isSome)=true:=by
   rw[Array.all_eq_true]
   intro i hi
   obtain⟨v,_,k,v0,e,_⟩:=hf firsts[i] (by simp)
   rw[e];rfl
  rw[if_pos hall]
  refine wpAny_bind (wpAny_rule (wpAny_bind ?_))
  rw[oneTypeOnly'_eq]
  refine wpAny_bind (w_mapA (fun _ _=>True) _ (fun v hv=>?_) fun ts _=>?_)
  ·have hv':v∈(Array.filterMap id firsts).toList:=hv
   rw[Array.toList_filterMap]at hv'
   obtain⟨o,ho,eo⟩:=List.mem_filterMap.mp hv'
   obtain⟨_,_,k,v0,e,hr⟩:=hf o ho
   have e2:v0=v:=by
    have:o=some v:=eo
    rw[e]at this;exact Qm this
   subst e2
   exact⟨_,trivial,fun Q' q'=>Zmn hr q'⟩
  ·split
   ·exact wpAny_pure (wpAny_pure (q _))
   ·exact wpAny_pure (wpAny_pure (q _))
theorem w_sort0{a:Addr}{vs:List Value}{n:Nat}{P:PySem.Fin→Shared→Prop}(ha:s.heap.get? a=some (seqObj "list" vs.toArray n))(h2:vs.length<2)
  (q:P (Fin.done (Flow.ret Value.none)) { s with heap:=sortedHeap s.heap a vs ((pairsOf vs).map fun x=>x.snd) }) :
  wpAny (model prog w) A (Builtin.«list.sort» { pos:=[.ref a] }) P E s:=by
 have hz:vs.toArray.size≤sizeLine:=by rw[Qr,sizeLine_eq];omega
 rw[list_sort_plain]
 refine wpAny_bind (ZaZ ha rfl ?_)
 show wpAny _ _ (updateSeq a (fun x=>#[]) >>= _) _ _ _
 refine wpAny_bind (wpAny_updateSeq ha rfl ?_ hz (by show 0≤_;omega))
 have e1:=get?_update_seq ha (fun _=>#[])
 refine wpAny_bind (seqEpoch_at e1 rfl ?_)
 refine wpAny_bind (wpAny_newTuple ?_ (by simpa using hz))
 refine wpAny_bind (wpAny_newList ?_ (by show 0≤_;omega))
 refine wpAny_holding ?_
 have hn2:vs.toArray.size<2:=by rw[Qr];omega
 have hps:(pairsOf vs).size=vs.length:=by unfold pairsOf;simp
 rw[if_pos hn2,if_pos hn2]
 have e2:(((s.heap.update a (Obj.mapSeq fun _=>#[])).push { cls:=.type "tuple",data:=.seq vs.toArray.toList.toArray }).push { cls:=.type "list",data:=.seq ([]:List Value).toArray }).get? a=some (seqObj "list" #[] _):=Qc _ (Qc _ e1)
 refine wpAny_bind (wpAny_pure ?_)
 show wpAny _ _ (pure ((),SortSt.mk' general' (vs.toArray.zip vs.toArray) #[] 7 none) >>= _) _ _ _
 refine wpAny_bind (wpAny_pure ?_)
 refine wpAny_bind (seqEpoch_at e2 rfl ?_)
 have hsz:((pairsOf vs).map fun x=>x.snd).size=vs.length:=by rw[Array.size_map,hps]
 show wpAny _ _ (updateSeq a (fun x=>(pairsOf vs).map fun x=>x.snd) >>= _) _ _ _
 refine wpAny_bind (wpAny_updateSeq e2 rfl ?_ (by show 0≤_;omega) (by show ((pairsOf vs).map fun x=>x.snd).size≤_;rw[hsz];rw[Qr]at hz;omega))
 show wpAny _ _ (if _ then _ else _) _ _ _
 rw[if_neg (by simp)]
 exact wpAny_pure q
theorem w_sorted0{l:Addr}{vs:List Value}{Q:Value→Shared→Prop}(hl:s.heap.IsList l vs.toArray)(h2:vs.length<2)
  (q:Q (.ref (s.heap.objs.size+1)) { s with heap:=sortedAll s.heap vs ((pairsOf vs).map fun x=>x.snd) }) :
  wpAny (model prog w) A (call (.builtin "sorted") [.ref l]) Q E s:=by
 refine Calls.call_function_entry kind_sorted plain_sorted entry_sorted (args_sorted1 (.ref l)) ?_
 have hz:vs.length≤sizeLine:=by rw[sizeLine_eq];omega
 refine wpAny_bind (wpAny_pure (wpAny_bind (collect_list hl (wpAny_bind (wpAny_newList ?_ hz)) hz)))
 have hsz:((s.heap.push (seqObj "list" #[] 0)).update s.heap.objs.size (Obj.mapSeq fun x=>x++vs.toArray)).objs.size=s.heap.objs.size+1:=by rw[Heap.size_update,size_push']
 have hoL:((((s.heap.push (seqObj "list" #[] 0)).update s.heap.objs.size (Obj.mapSeq fun x=>x++vs.toArray)).push (seqObj "list" vs.toArray 0)).get? (s.heap.objs.size+1))=some (seqObj "list" vs.toArray 0):=by
  rw[← hsz];exact Qu _ rfl
 show wpAny _ _ (holding [.ref ((s.heap.push (seqObj "list" #[] 0)).update s.heap.objs.size (Obj.mapSeq fun x=>x++vs.toArray)).objs.size] (call (.builtin "list.sort") [.ref ((s.heap.push (seqObj "list" #[] 0)).update s.heap.objs.size (Obj.mapSeq fun x=>x++vs.toArray)).objs.size]) >>= fun _=>ret (.ref ((s.heap.push (seqObj "list" #[] 0)).update s.heap.objs.size (Obj.mapSeq fun x=>x++vs.toArray)).objs.size)) _ _ _
 rw[hsz]
 refine wpAny_bind (wpAny_holding (wpAny_call_entry slot_list_sort ⟨_,hoL,rfl⟩ entry_list_sort ?_ (args_list_sort _)))
 exact w_sort0 hoL h2 ⟨_,rfl,wpAny_pure ⟨_,rfl,q⟩⟩
end
theorem Ziq{α β:Type}(f:α→β){l m:List β}(h:l.Perm m):∀ts:List α,m=ts.map f→∃ts':List α,ts'.Perm ts∧l=ts'.map f:=by
 induction h with
 | nil =>
  intro ts e
  have:ts=[]:=by cases ts with
   | nil=>rfl
   | cons _ _=>cases e
  subst this
  exact⟨[],.nil,rfl⟩
 | cons x _ ih =>
  intro ts e
  cases ts with
  | nil=>cases e
  | cons a r =>
   rw[Qh]at e
   injection e with e1 e2
   obtain⟨ts',p,e3⟩:=ih r e2
   exact⟨a::ts',p.cons a,by rw[Qh,e1,e3]⟩
 | swap x y l =>
  intro ts e
  cases ts with
  | nil=>cases e
  | cons a r =>
   cases r with
   | nil=>cases e
   | cons b r =>
    rw[Qh,Qh]at e
    injection e with e1 e2
    injection e2 with e2 e3
    exact⟨b::a::r,.swap a b r,by rw[Qh,Qh,e1,e2,e3]⟩
 | trans _ _ ih1 ih2 =>
  intro ts e
  obtain⟨ts2,p2,e2⟩:=ih2 ts e
  obtain⟨ts1,p1,e1⟩:=ih1 ts2 e2
  exact⟨ts1,p1.trans p2,e1⟩
theorem Zh3{α:Type}:∀l:List α,l.zip l=l.map fun v=>(v,v)
 | []=>rfl
 | a::r=>by rw[Qak,Zh3 r];rfl
abbrev Zb1:=List (Addr×List Key)
def Zbo(ts:Zb1):List V:=ts.map fun t=>V.ref t.1
def AtT(H:Hp)(ts:Zb1):Prop:=∀t∈ts,H t.1=some (.tup (t.2.map kV))
theorem Zep:∀ {ts:Zb1} {us:List Value},Zv (Zbo ts) us→us=ts.map fun t=>Value.ref t.1
 | [],_,h=>by cases h;rfl
 | t::r,_,h=>by
  cases h with
  | cons a b=>rw[Zep b];cases a;rfl
theorem ZgA:∀ts:Zb1,Zv (Zbo ts) (ts.map fun t=>Value.ref t.1)
 | []=>.nil
 | t::r=>.cons rfl (ZgA r)
def Zpa(K:PySem.W.Frag):List V→Hp→VK→Prop:=fun xs H Q=>∃ (p:Addr) (ts:Zb1) (sh:List Bool),xs=[.ref p]∧SqL K H p (Zbo ts)∧AtT H ts∧sh≠[]∧(∀t∈ts,shape t.2=sh)∧ts.length<64 ∧
 ∀ (l:Addr) (ts':Zb1),H l=none→ts'.Perm ts→ts'.Pairwise (fun a b=>ZT b.2 a.2=false)→Q (.ref l) (upd H l (.lst (Zbo ts')))
theorem Zhd{X:Cx}:Z8 X (.builtin "sorted") (Zpa X.K):=by
 intro pins s σ H xs us Q I r h
 obtain⟨p,ts,sh,rfl,hq,hat,hsh,hts,h64,q⟩:=h
 obtain⟨u,rfl,rx⟩:=ZbB r
 cases rx
 obtain⟨its,rv,pl,hz⟩:=I.list hq
 have ei:=Zep rv
 subst ei
 have tupAt:∀t∈ts,∃its:List Value,Zv (t.2.map kV) its∧IsTup s.heap t.1 its.toArray:=fun t ht=>by
  obtain⟨i,v,q,_⟩:=I.tuple (SqT.of (K:=X.K) (hat t ht))
  exact⟨i,v,q⟩
 have eptl:(pairsOf (ts.map fun t=>Value.ref t.1)).toList=ts.map fun t=>(Value.ref t.1,Value.ref t.1):=by
  unfold pairsOf
  rw[Array.toList_zip,Zh3,QC]
  rfl
 have fin:∀ (out:Array Value) (ts':Zb1),ts'.Perm ts→ts'.Pairwise (fun a b=>ZT b.2 a.2=false)→out.toList=ts'.map (fun t=>Value.ref t.1)→EP X pins σ Q (.ref (s.heap.objs.size+1)) { s with heap:=sortedAll s.heap (ts.map fun t=>Value.ref t.1) out }:=fun out ts' pm pw eo=>by
  obtain⟨e,he⟩:=sortedAll_at s.heap (ts.map fun t=>Value.ref t.1) out
  refine⟨.ref (s.heap.objs.size+1),_,I.laid (t':=s.toks) (o:=.lst (Zbo ts')) (fun _ _=>sortedAll_old) (Qao _) ⟨?_,out.toList,e,by rw[eo];exact ZgA ts',by simpa using he⟩,rfl,q _ ts' (I.hok.fresh (Qao _)) pm pw⟩
  unfold Zbo
  rw[Qb,pm.length_eq,sizeLine_eq];omega
 by_cases h2:ts.length<2
 ·refine w_sorted0 pl.isList (by rw[Qb];exact h2) (fin _ ts (.refl _) ?_ ?_)
  ·cases ts with
   | nil=>exact .nil
   | cons t r =>
    have:r=[]:=Qad (by rw[QE]at h2;omega)
    subst this
    exact List.pairwise_singleton _ _
  ·rw[Array.toList_map,eptl,QC];rfl
 ·have hk:PyProof.Rows.KeysOf (Zhq H sh) (pairsOf (ts.map fun t=>Value.ref t.1)):=fun z hz'=>by
   rw[eptl]at hz'
   obtain⟨t,ht,rfl⟩:=QB.mp hz'
   exact⟨t.2,by rw[← hts t ht];exact ZiE (hat t ht)⟩
  refine w_sorted (κ:=Zhq H sh) pl.isList hk (by rw[Qb];omega) (by rw[Qb];exact h64) (fun A' s' kp E' Q' q'=>?_) fun st' p1 p3=>?_
  ·have tup':∀ {a:Addr} {its:List Value},IsTup s.heap a its.toArray→IsTup s'.heap a its.toArray:=fun ⟨o,ho,hc⟩=>⟨o,kp _ _ ho,hc⟩
   refine ZmA (fun v hv=>?_) fun b=>q' _ fun E2 x y a c Q2 hx hy h2=>?_
   ·obtain⟨t,ht,rfl⟩:=QB.mp hv
    obtain⟨i,v,qt⟩:=tupAt t ht
    have hs1:=hts t ht
    cases hk2:t.2 with
    | nil=>rw[hk2]at hs1;exact absurd hs1.symm hsh
    | cons k kr =>
     rw[hk2]at v
     cases v with
     | cons r1 rr=>exact⟨t.1,_,k,_,rfl,tup' qt,rfl,r1⟩
   ·obtain⟨a1,rfl,ha1,s1⟩:=ZhY hx
    obtain⟨a2,rfl,ha2,s2⟩:=ZhY hy
    obtain⟨i1,v1,t1,_⟩:=I.tuple (SqT.of (K:=X.K) ha1)
    obtain⟨i2,v2,t2,_⟩:=I.tuple (SqT.of (K:=X.K) ha2)
    exact ZpE (tup' t1) (tup' t2) v1 v2 (s1.trans s2.symm) h2
  ·have p1':=p1.toList
   obtain⟨ts',pm,e⟩:=Ziq (fun t:Addr×List Key=>(Value.ref t.1,Value.ref t.1)) p1' ts eptl
   refine fin _ ts' pm ?_ ?_
   ·rw[List.pairwise_iff_getElem]
    intro i j hi hj hij
    have hsz:(pairsOf (ts.map fun t=>Value.ref t.1)).size=ts'.length:=by rw[← QaE,eptl,Qb,pm.length_eq]
    have:=p3 i j (by omega) (by rw[hsz];exact hj)
    have key:∀k (hk':k<ts'.length),KK (Zhq H sh) (arrOf st') k=ts'[k].2:=fun k hk'=>by
     unfold KK
     have e1:(arrOf st')[k]? = some (Value.ref ts'[k].1,Value.ref ts'[k].1):=by
      rw[← Array.getElem?_toList,e,Qj,Qa hk'];rfl
     rw[e1]
     have hm:ts'[k]∈ts:=pm.mem_iff.mp (QV hk')
     show ((Zg0 H sh (.ref ts'[k].1)).getD _)=_
     rw[← hts _ hm,ZiE (hat _ hm)];rfl
    rw[key i hi,key j hj]at this
    exact this
   ·rw[Array.toList_map,e,QC];rfl
theorem Zsn{X:Cx}(K:PySem.W.Frag)(h:X.K=K:=by rfl):Z8 X (.builtin "sorted") (Zpa K):=by subst h;exact Zhd
theorem Zmt(A:Around)(s:Shared){k m:Key}{p q:Value}(hp:Zx (kV k) p)(hq:Zx (kV m) q)(hs:k.isLeft=m.isLeft):∃e,SeqAt.EqAt A s p q e∧(e=true↔k=m):=by
 cases k with
 | inl i =>
  cases m with
  | inl j =>
   obtain⟨t,rfl⟩:=hp
   obtain⟨u,rfl⟩:=hq
   exact⟨_,SeqAt.EqAt.int_int i t j u,by simp⟩
  | inr y=>cases hs
 | inr x =>
  cases m with
  | inl j=>cases hs
  | inr y =>
   obtain⟨t,rfl⟩:=hp
   obtain⟨u,rfl⟩:=hq
   exact⟨_,SeqAt.EqAt.str_str x t y u,by simp⟩
theorem Zmd(A:Around)(s:Shared){k m:Key}{p q:Value}(hp:Zx (kV k) p)(hq:Zx (kV m) q)(hs:k.isLeft=m.isLeft)(prog:Program)(w:World)(E:Value→Shared→Prop)(Q:Value→Shared→Prop)(h:Q (.bool (kLt k m)) s) :
  wpAny (model prog w) A (richCompare .Lt p q) Q E s:=by
 cases k with
 | inl i =>
  cases m with
  | inl j =>
   obtain⟨t,rfl⟩:=hp
   obtain⟨u,rfl⟩:=hq
   exact(PyProof.Rows.lt_int h:wpAny (model prog w) A (compareOp .Lt (.int i t) (.int j u)) Q E s)
  | inr y=>cases hs
 | inr x =>
  cases m with
  | inl j=>cases hs
  | inr y =>
   obtain⟨t,rfl⟩:=hp
   obtain⟨u,rfl⟩:=hq
   exact(PyProof.Rows.lt_str h:wpAny (model prog w) A (compareOp .Lt (.str x t) (.str y u)) Q E s)
section
open PySem.SeqAt
open PySem.AutoSeq1 (wpAny_loadPart')
open PySem.MeetsSeq PySem.MeetsSeq2 PySem.MeetsSeq3
theorem ZfY(l b:Addr)(items items2:Array Value)(n n2:Nat)(dd dd2:Option Addr)(sl sl2:Array (Option Value))(ks ms:List Key)(hi:Zv (ks.map kV) items.toList)(hj:Zv (ms.map kV) items2.toList)(hs:shape ks=shape ms) :
  Meets (Builtin.«tuple.__lt__» ⟨[.ref l,.ref b],[]⟩)
   (fun _ R s=>s.heap.get? l=some { cls:=.type "tuple",dict:=dd,data:=.seq items n,slots:=sl }∧s.heap.get? b=some { cls:=.type "tuple",dict:=dd2,data:=.seq items2 n2,slots:=sl2 } ∧
    R (.ok (.ret (.bool (ZT ks ms)))) s) :=
 .of_wp fun prog w A R s h=>by
  obtain⟨hp,g,d,tk,os⟩:=s;obtain⟨hl,hb,h⟩:=h
  have f2:=AutoSeq1.sub_tuple_tuple
  have z1:items.size=ks.length:=by have:=hi.length;simpa using this.symm
  have z2:items2.size=ms.length:=by have:=hj.length;simpa using this.symm
  have z3:ks.length=ms.length:=by have:=congrArg List.length hs;simpa [shape] using this
  wp_walk using wpAny_loadPart' hl,wpAny_loadPart' hb,wpAny_forIn_list _ (fun rest b s'=>b.1=none∧s'=⟨hp,g,d,tk,os⟩∧∃ (vs ws:List Value) (ks' ms':List Key),rest=vs.zip ws ∧
   Zv (ks'.map kV) vs∧Zv (ms'.map kV) ws∧shape ks'=shape ms'∧R (.ok (.ret (.bool (ZT ks' ms')))) ⟨hp,g,d,tk,os⟩) _
  case turn =>
   rintro⟨y,x⟩ rest b s' ⟨hb',rfl,vs,ws,ks',ms',hz,hvi,hwi,hsh,hR⟩
   cases ks' with
   | nil=>cases hvi;rw[List.zip_nil_left]at hz;cases hz
   | cons k1 kr =>
    cases ms' with
    | nil=>cases hsh
    | cons m1 mr =>
     cases hvi with
     | cons r1 rr =>
      cases hwi with
      | cons r1' rr' =>
       rw[Qak]at hz
       injection hz with hyx hrest
       injection hyx with hy hx
       subst hy hx
       rw[Zbb]at hR
       unfold shape at hsh
       rw[Qh,Qh]at hsh
       injection hsh with s1 s2
       obtain⟨e,he,hiff⟩:=Zmt A.in1 ⟨hp,g,d,tk,os⟩ r1 r1' s1
       refine wpAny_bind (he prog w _ _ ?_)
       cases e with
       | true =>
        rw[if_pos (hiff.mp rfl)]at hR
        wp_walk
        exact⟨rfl,rfl,_,_,_,_,hrest,rr,rr',s2,hR⟩
       | false =>
        rw[if_neg (fun q=>absurd (hiff.mpr q) Qt)]at hR
        have hri:=Zmd A.in1 ⟨hp,g,d,tk,os⟩ r1 r1' s1 prog w
        wp_walk using hri
        exact⟨_,rfl,by simpa using hR⟩
  case fin =>
   rintro⟨b1,b2⟩ s' ⟨hb',rfl,vs,ws,ks',ms',hz,hvi,hwi,hsh,hR⟩
   simp only at hb'
   subst hb'
   have hv:ZT ks' ms'=decide (items.size<items2.size):=by
    rw[decide_eq_false (by omega)]
    cases ks' with
    | nil =>
     cases ms' with
     | nil=>rfl
     | cons _ _=>cases hsh
    | cons k1 kr =>
     cases ms' with
     | nil=>cases hsh
     | cons m1 mr =>
      cases hvi with
      | cons r1 rr =>
       cases hwi with
       | cons r1' rr'=>rw[Qak]at hz;cases hz
   rw[hv]at hR
   wp_walk
   exact⟨_,rfl,by simpa [Builtin.Tuple.tupleCompareSizes] using hR⟩
  case h =>
   exact⟨rfl,rfl,items.toList,items2.toList,ks,ms,rfl,hi,hj,hs,h⟩
end
section
variable {prog:Program} {w:World} {A:Around} {E:Value→Shared→Prop} {s:Shared}
theorem Zi3{l b:Addr}{items items2:Array Value}{ks ms:List Key}{Q:Value→Shared→Prop}(hl:IsTup s.heap l items)(hb:IsTup s.heap b items2)(hi:Zv (ks.map kV) items.toList)(hj:Zv (ms.map kV) items2.toList)(hs:shape ks=shape ms)
  (hu:A.units<cLine) (h:Q (.bool (ZT ks ms)) s):wpAny (model prog w) A (richCompare .Lt (.ref l) (.ref b)) Q E s:=by
 obtain⟨⟨cls,dd,data,sl⟩,ho,hc,n,hd⟩:=id hl
 obtain⟨⟨cls2,dd2,data2,sl2⟩,ho2,hc2,n2,hd2⟩:=id hb
 simp only at hc hd hc2 hd2
 subst hc hd hc2 hd2
 exact richCompare_meets_room (op:=.Lt) ⟨_,ho,rfl⟩ ⟨_,ho2,rfl⟩ PySem.F.slot_tuple_lt PySem.F.entry_tuple_lt (PySem.F.args_tuple_lt_2 _ _) (ZfY l b items items2 n n2 dd dd2 sl sl2 ks ms hi hj hs)
  ⟨ho,ho2,show Value.bool (ZT ks ms)≠Value.notImplemented∧Q (.bool (ZT ks ms)) s from⟨(fun x=>nomatch x),h⟩⟩ hu
end
section
variable {prog:Program} {w:World}
theorem Zla{A:Around}{a:Args}:(A.under (.builtin "min.loop" a)).units≤A.units+1:=by
 show A.units+(Code.builtin "min.loop" a).cUnits≤A.units+1
 first|exact Qf _|simp[Code.cUnits,Code.frames,Code.isFrame]
theorem ZfD{A:Around}{R:Result→Shared→Prop}{l I S:Addr}{ts:Zb1}{sh:List Bool}{h0:Heap}{kw:List (Str×Value)}(hh:A.handled=none)(hu:A.units+4<cLine)(hlist:h0.IsList l (ts.map fun t=>Value.ref t.1).toArray)
  (hI:h0.get? I=none) (hS:h0.get? S=none) (hSI:S≠I) (htup:∀t∈ts,∃its:List Value,Zv (t.2.map kV) its∧IsTup h0 t.1 its.toArray) (hsh:∀t∈ts,shape t.2=sh) (s0:Shared)
  (q:∀ (h':Heap) (t:Addr×List Key),(∀b o,h0.get? b=some o→h'.get? b=some o)→t∈ts→(∀u∈ts,ZT u.2 t.2=false)→R (.ok (.ret (.ref t.1))) { s0 with heap:=h' }) :
  ∀ (k j:Nat) (h:Heap) (t:Addr×List Key) (c:Nat),ts.length-j=k→j≤ts.length→(∀b o,h0.get? b=some o→h.get? b=some o)→h.IsListIter I l j→h.get? S=some { cls:=.type "list",data:=.seq #[.ref t.1,.ref t.1] c }→t∈ts →
   (∀u∈ts.take j,ZT u.2 t.2=false)→codeAny (model prog w) A (.builtin "min.loop" { pos:=[.ref I,.none,.ref S],kw:=kw }) R { s0 with heap:=h }
 | k,j,h,t,c,hk,hj,keep,hit,hst,htm,hbest=>by
  refine codeAny_builtin F.entry_min_loop ?_
  show wpAny _ _ (seqItems? (.ref S) >>= _) _ _ _
  refine wpAny_bind (wpAny_seqItems hst rfl ?_)
  have keepL:h.IsList l (ts.map fun t=>Value.ref t.1).toArray:=by
   obtain⟨o,ho,r⟩:=hlist
   exact⟨o,keep _ _ ho,r⟩
  by_cases hlt:j<ts.length
  ·have hx:((ts.map fun t=>Value.ref t.1).toArray)[j]? = some (Value.ref ts[j].1):=by simp[hlt]
   refine wpAny_bind (wpAny_tryCatch (wpAny_pyNext_list_item hit keepL hx fun h1 hit1 sb=>?_))
   have keep1:∀b o,h0.get? b=some o→h1.get? b=some o:=fun b o hb=>by
    have nb:b≠I:=fun e=>by rw[e,hI]at hb;cases hb
    rw[sb.2 b nb];exact keep b o hb
   have hst1:h1.get? S=some { cls:=.type "list",data:=.seq #[.ref t.1,.ref t.1] c }:=by rw[sb.2 S hSI];exact hst
   refine wpAny_bind (wpAny_pure ?_)
   have hjm:ts[j]∈ts:=QV hlt
   obtain⟨i1,v1,t1⟩:=htup _ hjm
   obtain⟨i2,v2,t2⟩:=htup _ htm
   have tup1:∀ {a:Addr} {its:List Value},IsTup h0 a its.toArray→IsTup h1 a its.toArray:=fun ⟨o,ho,hc⟩=>⟨o,keep1 _ _ ho,hc⟩
   have hsh1:shape ts[j].2=shape t.2:=(hsh _ hjm).trans (hsh _ htm).symm
   refine wpAny_bind (wpAny_tryCatch (wpAny_holding (wpAny_bind (Zi3 (tup1 t1) (tup1 t2) (by simpa using v1) (by simpa using v2) hsh1 (Q9 Zla (by omega)) (wpAny_bind (wpAny_holding (wpAny_truthy_bool (wpAny_bind (wpAny_letGo (wpAny_pure ?_))))))))))
   cases hb:ZT ts[j].2 t.2 with
   | true =>
    refine wpAny_bind (wpAny_updateSeq hst1 rfl ?_ (by show 2≤_;rw[sizeLine_eq];decide) (by show 2≤_;rw[sizeLine_eq];decide))
    refine wpAny_bind (wpAny_letGo (wpAny_pure ⟨rfl,?_⟩))
    refine ZfD hh hu hlist hI hS hSI htup hsh s0 q (k-1) (j+1) _ ts[j] c (by omega) (by omega) (fun b o hb'=>?_) ?_ ?_ hjm (fun u hu'=>?_)
    ·have nb:S≠b:=fun e=>by rw[← e,hS]at hb';cases hb'
     exact Q1 _ nb (keep1 b o hb')
    ·obtain⟨o,ho,r⟩:=hit1
     exact⟨o,Q1 _ hSI ho,r⟩
    ·have:=get?_update_seq (c := "list") hst1 (fun _=>#[.ref ts[j].1,.ref ts[j].1])
     simpa using this
    ·rw[QF,Qa hlt]at hu'
     rcases Qk.mp hu' with hu'|hu'
     ·have:=hbest u hu'
      cases hz:ZT u.2 ts[j].2 with
      | false=>rfl
      | true=>rw[Zb0 _ _ _ hz hb]at this;cases this
     ·have:u=ts[j]:=by simpa using hu'
      rw[this];exact Zb8 _
   | false =>
    refine wpAny_bind (wpAny_letGo (wpAny_pure ⟨rfl,?_⟩))
    refine ZfD hh hu hlist hI hS hSI htup hsh s0 q (k-1) (j+1) h1 t c (by omega) (by omega) keep1 hit1 hst1 htm (fun u hu'=>?_)
    rw[QF,Qa hlt]at hu'
    rcases Qk.mp hu' with hu'|hu'
    ·exact hbest u hu'
    ·have:u=ts[j]:=by simpa using hu'
     rw[this];exact hb
  ·have hx:((ts.map fun t=>Value.ref t.1).toArray)[j]? = none:=by simp;omega
   refine wpAny_bind (wpAny_tryCatch (wpAny_pyNext_list_end hh hit keepL hx fun h1 eb=>?_))
   have hst1:h1.get? S=some { cls:=.type "list",data:=.seq #[.ref t.1,.ref t.1] c }:=eb S _ hSI hst
   refine wpAny_bind (wpAny_updateSeq hst1 rfl ?_ (by show 2≤_;rw[sizeLine_eq];decide) (by show 0≤_;omega))
   refine wpAny_bind (wpAny_letGo (wpAny_pure ?_))
   refine q _ t (fun b o hb=>?_) htm (fun u hu'=>hbest u (by rw[Qw (by omega)];exact hu'))
   have nb:S≠b:=fun e=>by rw[← e,hS]at hb;cases hb
   have nI:b≠I:=fun e=>by rw[e,hI]at hb;cases hb
   exact Q1 _ nb (eb b o nI (keep b o hb))
termination_by k=>k
theorem ZkH{A:Around}{R:Result→Shared→Prop}{l I S:Addr}{ts:Zb1}{sh:List Bool}{h0 h:Heap}{c:Nat}{kw:List (Str×Value)}(hh:A.handled=none)(hu:A.units+4<cLine)(hlist:h0.IsList l (ts.map fun t=>Value.ref t.1).toArray)
  (hI:h0.get? I=none) (hS:h0.get? S=none) (hSI:S≠I) (htup:∀t∈ts,∃its:List Value,Zv (t.2.map kV) its∧IsTup h0 t.1 its.toArray) (hsh:∀t∈ts,shape t.2=sh) (s0:Shared) (keep:∀b o,h0.get? b=some o→h.get? b=some o) (hit:h.IsListIter I l 0) (hst:h.get? S=some { cls:=.type "list",data:=.seq #[] c })
  (hne:ts≠[]∨∃n d kr,kw=(n,d)::kr∧∀h':Heap,(∀b o,h0.get? b=some o→h'.get? b=some o)→R (.ok (.ret d)) { s0 with heap:=h' })
  (q:∀ (h':Heap) (t:Addr×List Key),(∀b o,h0.get? b=some o→h'.get? b=some o)→t∈ts→(∀u∈ts,ZT u.2 t.2=false)→R (.ok (.ret (.ref t.1))) { s0 with heap:=h' }) :
  codeAny (model prog w) A (.builtin "min.loop" { pos:=[.ref I,.none,.ref S],kw:=kw }) R { s0 with heap:=h }:=by
 refine codeAny_builtin F.entry_min_loop ?_
 show wpAny _ _ (seqItems? (.ref S) >>= _) _ _ _
 refine wpAny_bind (wpAny_seqItems hst rfl ?_)
 have keepL:h.IsList l (ts.map fun t=>Value.ref t.1).toArray:=by
  obtain⟨o,ho,r⟩:=hlist
  exact⟨o,keep _ _ ho,r⟩
 cases ts with
 | nil =>
  obtain⟨n,d,kr,rfl,q0⟩:=hne.resolve_left (by simp)
  refine wpAny_bind (wpAny_tryCatch (wpAny_pyNext_list_end hh hit keepL (by simp) fun h1 eb=>?_))
  show wpAny _ _ (rule _ >>= _) _ _ _
  refine wpAny_bind (wpAny_rule (wpAny_pure ?_))
  refine q0 _ fun b o hb=>?_
  have nI:b≠I:=fun e=>by rw[e,hI]at hb;cases hb
  exact eb b o nI (keep b o hb)
 | cons t r =>
  refine wpAny_bind (wpAny_tryCatch (wpAny_pyNext_list_item hit keepL (x:=.ref t.1) (by simp) fun h1 hit1 sb=>?_))
  have keep1:∀b o,h0.get? b=some o→h1.get? b=some o:=fun b o hb=>by
   have nb:b≠I:=fun e=>by rw[e,hI]at hb;cases hb
   rw[sb.2 b nb];exact keep b o hb
  have hst1:h1.get? S=some { cls:=.type "list",data:=.seq #[] c }:=by rw[sb.2 S hSI];exact hst
  refine wpAny_bind (wpAny_pure ?_)
  show wpAny _ _ (updateSeq S _ >>= _) _ _ _
  refine wpAny_bind (wpAny_updateSeq hst1 rfl ?_ (by show 0≤_;omega) (by show 2≤_;rw[sizeLine_eq];decide))
  refine wpAny_pure ⟨rfl,?_⟩
  refine ZfD hh hu hlist hI hS hSI htup hsh s0 q _ 1 _ t (c+1) rfl (by simp) (fun b o hb'=>?_) ?_ ?_ (by simp) (fun u hu'=>?_)
  ·have nb:S≠b:=fun e=>by rw[← e,hS]at hb';cases hb'
   exact Q1 _ nb (keep1 b o hb')
  ·obtain⟨o,ho,r⟩:=hit1
   exact⟨o,Q1 _ hSI ho,r⟩
  ·have:=get?_update_seq (c := "list") hst1 (fun _=>#[.ref t.1,.ref t.1])
   simpa using this
  ·have:u=t:=by simpa using hu'
   rw[this];exact Zb8 _
end
section
variable {X:Cx}
def Zo9(K:PySem.W.Frag):List V→Hp→VK→Prop:=fun vs H Q=>∃ (p:Addr) (ts:Zb1) (sh:List Bool),vs=[.ref p]∧SqL K H p (Zbo ts)∧AtT H ts∧ts≠[]∧(∀t∈ts,shape t.2=sh) ∧
 ∀t:Addr×List Key,t∈ts→(∀u∈ts,ZT u.2 t.2=false)→Q (.ref t.1) H
theorem ZmB{prog:Program}{w:World}{A:Around}{R:Result→Shared→Prop}{s:Shared}{l:Addr}{ts:Zb1}{sh:List Bool}{kw:List (Str×Value)}{kw2:List (Str×Value)}(hh:A.handled=none)(hu:A.units+4<cLine)(hlist:s.heap.IsList l (ts.map fun t=>Value.ref t.1).toArray)
  (hkw:(kw=[]∧kw2=[])∨∃d,kw=[(Str.ofString "default",d)]∧kw2=[(Str.ofString "default",d)])
  (htup:∀t∈ts,∃its:List Value,Zv (t.2.map kV) its∧IsTup s.heap t.1 its.toArray) (hsh:∀t∈ts,shape t.2=sh)
  (hne:ts≠[]∨∃n d kr,kw2=(n,d)::kr∧∀h':Heap,(∀b o,s.heap.get? b=some o→h'.get? b=some o)→R (.ok (.ret d)) { s with heap:=h' })
  (q:∀ (h':Heap) (t:Addr×List Key),(∀b o,s.heap.get? b=some o→h'.get? b=some o)→t∈ts→(∀u∈ts,ZT u.2 t.2=false)→R (.ok (.ret (.ref t.1))) { s with heap:=h' }) :
  codeAny (model prog w) A (.call (.builtin "min") { pos:=[.ref l],kw:=kw }) R s:=by
 refine codeAny_call_builtin_at rfl F.entry_min ?_
 have hc:checkBuiltinCall "min" { pos:=[.ref l],kw:=kw }=pure ():=by
  rcases hkw with⟨rfl,_⟩|⟨d,rfl,_⟩<;>rfl
 rw[hc]
 refine wpAny_pure ?_
 have go:∀ {A':Around},A'.handled=none→wpAny (model prog w) A' (pyIter (.ref l) >>= fun it=>newList [] >>= fun b=>again (.builtin "min.loop" { pos:=[it,.none,b],kw:=kw2 })) (fun fin s'=>match fin with
   | Fin.done f=>R (Except.ok f) s'
   | Fin.again c'=>c'.quiet=true∧codeAny (model prog w) A c' R s') (fun e s'=>R (Except.error e) s') s:=fun {A'} hA'=>by
  refine wpAny_bind (wpAny_pyIter_list hlist ?_)
  refine wpAny_bind (wpAny_newList ?_ (by show 0≤_;omega))
  refine wpAny_pure ⟨rfl,?_⟩
  have none_at:∀b,s.heap.objs.size≤b→s.heap.get? b=none:=fun b hb=>by
   cases e:s.heap.get? b with
   | none=>rfl
   | some o=>exact absurd (Qv e) (Nat.not_lt.mpr hb)
  have hsz:(s.heap.push { cls:=Value.type "list_iterator",data:=Data.fields #[Value.ref l,Value.int 0 0] }).objs.size=s.heap.objs.size+1:=size_push' _ _
  refine ZkH (h0:=s.heap) (c:=0) hh hu hlist (none_at _ (Qf _)) (none_at _ (by rw[hsz];exact Qao _)) (by rw[hsz];exact Nat.succ_ne_self _) htup hsh s (fun b o h=>Qc _ (Qc _ h)) ⟨_,Qc _ (Qu _ rfl),rfl,rfl⟩ (Qu _ rfl) hne q
 rcases hkw with⟨rfl,rfl⟩|⟨d,rfl,rfl⟩
 ·exact go hh
 ·exact go hh
theorem Zkx(hc:X.calm=true)(hu:X.A.units+64<cLine):Z8 X (.builtin "min") (Zo9 X.K):=by
 intro pins s σ H vs us Q I r h
 obtain⟨p,ts,sh,rfl,hq,hat,hne,hsh,q⟩:=h
 obtain⟨u,rfl,rx⟩:=ZbB r
 cases rx
 obtain⟨its,rv,pl,hz⟩:=I.list hq
 have ei:=Zep rv
 subst ei
 refine wpAny_call (ZmB (sh:=sh) (I.ok.hd hc) (by omega) pl.isList (.inl ⟨rfl,rfl⟩) (fun t ht=>?_) hsh (.inl hne) fun h' t kp ht hmin=>?_)
 ·obtain⟨i,v,q,_⟩:=I.tuple (SqT.of (K:=X.K) (hat t ht))
  exact⟨i,v,q⟩
 ·exact⟨.ref t.1,H,I.kept (t':=s.toks) kp,rfl,q t ht hmin⟩
theorem ZqR(K:PySem.W.Frag){k:Nat}(hr:ZaJ k X.A)(hc:X.calm=true:=by rfl)(h:X.K=K:=by rfl):Z8 X (.builtin "min") (Zo9 K):=by subst h;exact Zkx hc hr.units
def tMinD(K:PySem.W.Frag)(te:TA):TE:=fun σ H Q=>te σ H fun vs H1=>∃ (p:Addr) (ts:Zb1) (sh:List Bool),vs=[.ref p]∧SqL K H1 p (Zbo ts)∧AtT H1 ts∧(∀t∈ts,shape t.2=sh)∧(ts=[]→Q .non H1) ∧
 ∀t:Addr×List Key,t∈ts→(∀u∈ts,ZT u.2 t.2=false)→Q (.ref t.1) H1
end
theorem ZgZ{α β:Type}(f:α→β):∀ (l:List α) (i:Nat),(l.eraseIdx i).map f=(l.map f).eraseIdx i
 | [],_=>rfl
 | a::r,0=>rfl
 | a::r,i+1=>by simp[ZgZ f r i]
theorem Zk1{A:Around}{a:Args}:(A.under (.builtin "list.remove.loop" a)).units≤A.units+1:=by
 show A.units+(Code.builtin "list.remove.loop" a).cUnits≤A.units+1
 rw[plainId_units MeetsSeq.plain_remove_loop]
 exact Qf _
def EqS(s:Shared)(items:List Value)(v:Value)(e:Nat→Bool):Prop:=∀ (prog:Program) (w:World) (A:Around) (E:Value→Shared→Prop) (Q:Bool→Shared→Prop) (m:Nat) (x:Value),A.units+2<cLine→items[m]? = some x→Q (e m) s→wpAny (model prog w) A (eqBool x v) Q E s
theorem ZiA{prog:Program}{w:World}{A:Around}{R:Result→Shared→Prop}{s:Shared}{l:Addr}{items:List Value}{n:Nat}{v:Value}{e:Nat→Bool}{j:Nat}(hl:s.heap.get? l=some { cls:=.type "list",data:=.seq items.toArray n })(hq:EqS s items v e)(hu:A.units+8<cLine)(hz:items.length≤1000)
  (hj:j<items.length) (h1:e j=true) (h0:∀m,m<j→e m=false) (q:R (.ok (.ret .none)) { s with heap:=s.heap.update l (Obj.mapSeq fun xs=>xs.eraseIdxIfInBounds j) }) :
  ∀ (k i:Nat),j-i=k→i≤j→codeAny (model prog w) A (.builtin "list.remove.loop" { pos:=[.ref l,v,rawInt (i:Int)] }) R s
 | k,i,hk,hi=>by
  refine codeAny_builtin MeetsSeq.entry_remove_loop ?_
  have hx:items.toArray[((i:Nat):Int).toNat]? = some items[i]:=by rw[Qaf];simp
  show wpAny _ _ (Builtin.List.listItems (.ref l) >>= _) _ _ _
  refine wpAny_bind (ZaZ hl rfl ?_)
  show wpAny _ _ (match items.toArray[((i:Nat):Int).toNat]? with|none=>_|some x=>_) _ _ _
  rw[hx]
  refine wpAny_bind (hq prog w _ _ _ i _ (Q9 (Nat.add_le_add_right Zk1 2) (by omega)) (by simp) ?_)
  by_cases e0:i=j
  ·subst e0
   rw[h1]
   show wpAny _ _ (updateSeq l _ >>= _) _ _ _
   refine wpAny_bind (wpAny_updateSeq hl rfl ?_ (by rw[Qr,sizeLine_eq];omega) ?_)
   ·rw[Qaf]
    exact wpAny_pure q
   ·show (items.toArray.eraseIdxIfInBounds ((i:Nat):Int).toNat).size≤_
    rw[Qaq,Qr,sizeLine_eq]
    have:=List.length_eraseIdx_le items ((i:Nat):Int).toNat
    omega
  ·rw[h0 i (by omega)]
   refine wpAny_pure ⟨plainId_quiet MeetsSeq.plain_remove_loop _,?_⟩
   have:=ZiA (prog:=prog) (w:=w) hl hq hu hz hj h1 h0 q (k-1) (i+1) (by omega) (by omega)
   rw[show ((i+1:Nat):Int)=(i:Int)+1 by omega]at this
   exact this
termination_by k=>k
theorem Zkq(l:Addr)(items:List Value)(n:Nat)(v:Value)(e:Nat→Bool)(j:Nat):Meets (Builtin.«list.remove» { pos:=[.ref l,v] }) (fun A R s=>s.heap.get? l=some { cls:=.type "list",data:=.seq items.toArray n }∧EqS s items v e∧A.units+8<cLine∧items.length≤1000∧j<items.length∧e j=true∧(∀m,m<j→e m=false) ∧
  R (.ok (.ret .none)) { s with heap:=s.heap.update l (Obj.mapSeq fun xs=>xs.eraseIdxIfInBounds j) }):=by
 intro prog w A R s ⟨hl,hq,hu,hz,hj,h1,h0,q⟩
 show wpAny _ _ (pure (Fin.again (.builtin "list.remove.loop" { pos:=[.ref l,v,rawInt 0] }))) _ _ _
 exact wpAny_pure ⟨plainId_quiet MeetsSeq.plain_remove_loop _,ZiA hl hq hu hz hj h1 h0 q j 0 rfl (Qq _)⟩
section
variable {X:Cx}
def Zo1:V→List V→Hp→VK→Prop:=fun x vs H Q=>∃ (l:Addr) (ns:List Int) (n:Int),x=.ref l∧vs=[.int n]∧H l=some (.lst (ns.map V.int))∧n∈ns∧ns.length≤1000∧Q .non (upd H l (.lst ((ns.erase n).map V.int)))
theorem Zn8(hu:X.A.units+64<cLine):MtM X "list.remove" Zo1:=by
 intro pins s σ H x vs v us Q I rx rv h
 obtain⟨l,ns,n,rfl,rfl,hH,hn,hz,q⟩:=h
 cases rx
 obtain⟨u,rfl,ru⟩:=rv.one
 obtain⟨tu,rfl⟩:=ru
 obtain⟨z,its,n',r,hl,e⟩:=I.lstM hH
 rw[Qb]at hl
 have hj:ns.idxOf n<ns.length:=List.idxOf_lt_length_of_mem hn
 refine call_meets F.slot_list_remove ⟨_,e,rfl⟩ F.entry_list_remove (F.args_list_remove_2 _ _) (Zkq l its n' _ (fun m=>decide (ns[m]? = some n)) (ns.idxOf n)) ⟨e,?_,by omega,by omega,by omega,?_,?_,?_⟩
 ·intro prog w A E Q' m x _ hx hQ
  have hm:m<ns.length:=by have:=(Qd.mp hx).1;omega
  have hv:(ns.map V.int)[m]? = some (V.int ns[m]):=by rw[Qj,Qa hm];rfl
  obtain⟨y,hy,ry⟩:=r.get hv
  rw[hx]at hy
  cases hy
  obtain⟨ty,rfl⟩:=ry
  refine wpAny_eqBool_int ?_
  have e2:decide (ns[m]? = some n)=(ns[m] == n):=by
   rw[Qa hm]
   by_cases z:ns[m]=n
   ·rw[z];simp
   ·rw[decide_eq_false (fun w=>z (Qm w))];simpa using z
  rw[← e2];exact hQ
 ·exact decide_eq_true (by rw[Qa hj];exact congrArg some (List.getElem_idxOf hj))
 ·intro m hm
  refine decide_eq_false fun w=>?_
  have hml:m<ns.length:=by omega
  rw[Qa hml]at w
  have:=List.not_of_lt_findIdx (xs:=ns) (p:=fun z=>z == n) hm
  rw[Qm w]at this
  simp at this
 ·have hv:Zv ((ns.erase n).map V.int) (its.eraseIdx (ns.idxOf n)):=by
   rw[List.erase_eq_eraseIdx_of_idxOf rfl,ZgZ]
   exact r.eraseIdx _
  refine⟨.non,_,I.lset (its':=its.eraseIdx (ns.idxOf n)) hH e ?_ hv ?_,rfl,q⟩
  ·show its.toArray.eraseIdxIfInBounds (ns.idxOf n)=(its.eraseIdx (ns.idxOf n)).toArray
   rw[Qaq]
  ·rw[Qb]
   have:=List.length_erase_le (a:=n) (l:=ns)
   rw[sizeLine_eq];omega
def rRemT:V→List V→Hp→VK→Prop:=fun x vs H Q=>∃ (l:Addr) (ts:Zb1) (t:Addr×List Key),x=.ref l∧vs=[.ref t.1]∧H l=some (.lst (Zbo ts))∧AtT H ts∧t∈ts∧ts.length≤1000∧∀ (i:Nat) (hi:i<ts.length),ts[i].2=t.2→Q .non (upd H l (.lst (Zbo (ts.eraseIdx i))))
theorem Zsk{k:Nat}(hr:ZaJ k X.A):MtM X "list.remove" Zo1:=Zn8 hr.units
end
section
open PySem.SeqAt
open PySem.AutoSeq1 (wpAny_loadPart')
open PySem.MeetsSeq PySem.MeetsSeq2 PySem.MeetsSeq3
end
section
variable {prog:Program} {w:World} {A:Around} {E:Value→Shared→Prop} {s:Shared}
end
section
variable {X:Cx}
def rGeK(K:PySem.W.Frag):R2:=fun x y H Q=>∃ (a b:Addr) (ks ms:List Key),x=.ref a∧y=.ref b∧SqT K H a (ks.map kV)∧SqT K H b (ms.map kV)∧shape ks=shape ms∧Q (.bl (!ZT ks ms)) H
end
def rMaxL(K:PySem.W.Frag):List V→Hp→VK→Prop:=fun vs H Q=>∃ (p:Addr) (ns:List Int),vs=[.ref p]∧SqL K H p (ns.map V.int)∧0<ns.length∧∀M,M∈ns→(∀a∈ns,a≤M)→Q (.int M) H
def isNum(n:Int):Value→Bool
 | .int a _=>a == n
 | _=>false
section
variable {X:Cx}
def rCountI:V→List V→Hp→VK→Prop:=fun x vs H Q=>∃ (l:Addr) (ns:List Int) (n:Int),x=.ref l∧vs=[.int n]∧H l=some (.lst (ns.map V.int))∧Q (.int ((ns.count n:Nat):Int)) H
end
section
variable {X:Cx} {T name id:String} {r:V→List V→Hp→VK→Prop} {o e:Expr} {es:List Expr} {to:TE} {t:TA} {apos cpos:Pos}
theorem Zqs(K:PySem.W.Frag){X:Cx}{T:String}{name:Str}{id:String}{r:V→List V→Hp→VK→Prop}{o e:Expr}{es:List Expr}{to:TE}{t:TA}{apos cpos:Pos}(pa:PlainAttrs T)(slot:Slot T name id)(hty:typeOf (.builtin id)=pure (.type "method_descriptor"))(hm:MtR X id r)(ho:PE X o to)(ha:PA X (e::es) t)
  (hK:X.K=K:=by rfl)
  (hbase:attributeBase o name X.env (eval o X.env)=eval o X.env:=by rfl)
  (hfew:((backTo cpos (starEach (e::es) X.env)).all (fun x=>!x.1)&&(backToKw cpos (keywordEach [] X.env)).all (fun x=>x.1.isSome)
   && decide ((e::es).length+([]:List Keyword).length+(if ([]:List Keyword).isEmpty then 0 else 1)<30))=true:=by rfl)
  (hline:(apos.endLine == cpos.line)=true:=by rfl) (hs:starEach (e::es) X.env=(false,eval e X.env)::starEach es X.env:=by rfl) (hplain:(backTo cpos (starEach es X.env)).any (·.1)=false:=by rfl) :
  PE X (.Call (.Attribute o name apos) (e::es) [] cpos) (tBM K T r to t):=by
 subst hK
 exact ZbK pa slot hty hm ho ha hbase hfew hline hs hplain
end
def ZsI(s:Shared)(items:List Value)(v:Value)(e:Nat→Bool):Prop:=∀ (prog:Program) (w:World) (A:Around) (E:Value→Shared→Prop) (Q:Bool→Shared→Prop) (m:Nat) (x:Value),A.units+60<cLine→items[m]? = some x→Q (e m) s→wpAny (model prog w) A (eqBool x v) Q E s
section
variable {X:Cx}
def rRemD(K:PySem.W.Frag):V→List V→Hp→VK→Prop:=fun x vs H Q=>∃ (l:Addr) (xs:List V) (ds:List PyData) (y:V) (d:PyData) (i:Nat),x=.ref l∧vs=[y]∧H l=some (.lst xs)∧DVs K H xs ds∧DV K H y d∧(∀e∈ds,e.canLay0=true)∧d.canLay0=true∧d.depth≤56∧xs.length≤1000 ∧
 i<ds.length∧(∀e,ds[i]? = some e→PyData.eqv e d=true)∧(∀m e,m<i→ds[m]? = some e→PyData.eqv e d=false)∧Q .non (upd H l (.lst (xs.eraseIdx i)))
def rInD(K:PySem.W.Frag):R2:=fun x y H Q=>∃ (l:Addr) (xs:List V) (ds:List PyData) (d:PyData),y=.ref l∧SqL K H l xs∧DVs K H xs ds∧DV K H x d∧PyData.canLayAll0 ds=true∧SeqAt.shaped d=true∧d.depth≤60∧Q (.bl (ds.any fun e=>PyData.eqv e d)) H
def ZoZ(K:PySem.W.Frag):List V→Hp→VK→Prop:=fun vs H Q=>∃ (p:Addr) (ns:List Int),vs=[.ref p]∧SqL K H p (ns.map V.int)∧ns.length≤1000∧(∀n∈ns,0≤n∧n≤10000000000000)∧Q (.int ns.sum) H
theorem Zlh(hc:X.calm=true):Z8 X (.builtin "sum") (ZoZ X.K):=by
 intro pins s σ H vs us Q I r h
 obtain⟨p,ns,rfl,hq,hn,hb,q⟩:=h
 obtain⟨u,rfl,rx⟩:=ZbB r
 cases rx
 obtain⟨its,rv,pl,_⟩:=I.list hq
 have hi:=Zjd rv
 obtain⟨xs,e⟩:=hi.allInts.items
 have hns:ns=xs.toList.map (·.1):=by rw[← hi.numsOf,← nums_intItems,← e]
 have hsz:xs.size=ns.length:=by rw[hns,Qb,QaE]
 have hnum:numAt xs=fun j=>ns.getD j 0:=by funext j;rw[numAt_eq,hns]
 have hl:=pl.isList
 rw[e]at hl
 have bound:∀n,n≤ns.length→0≤(ns.take n).sum∧(ns.take n).sum≤10000000000000*n:=by
  intro n
  induction n with
  | zero=>intro _;exact⟨by simp,by simp⟩
  | succ n ih =>
   intro h
   have ih:=ih (by omega)
   have hm:=hb ns[n] (QV (by omega))
   have e2:ns.take (n+1)=ns.take n++[ns[n]]:=by rw[QF,Qa (by omega)];rfl
   rw[e2,Qah]
   have e3:([ns[n]]:List Int).sum=ns[n]:=by simp
   rw[e3]
   omega
 refine sum_intList (I.ok.hd hc) hl (fun j hj=>?_) fun h' tk t' hk=>⟨.int _,H,I.kept hk,⟨t',rfl⟩,?_⟩
 ·rw[hnum]
  have hm:=hb ns[j] (QV (by omega))
  have hg:ns.getD j 0=ns[j]:=by rw[Qo,Qa (by omega)];rfl
  have hp:=bound (j+1) (by omega)
  refine⟨⟨?_,?_⟩,⟨?_,?_⟩⟩
  ·show -(2 ^ 63)≤ns.getD j 0
   rw[hg];omega
  ·show ns.getD j 0<2 ^ 63
   rw[hg];omega
  ·rw[Zd7 ns (j+1) (by omega)];omega
  ·rw[Zd7 ns (j+1) (by omega)];omega
 ·rw[hnum,hsz,Zd7 ns ns.length (Qf _),Qw (Qf _)]
  exact q
theorem Zra(K:PySem.W.Frag)(hc:X.calm=true:=by rfl)(h:X.K=K:=by rfl):Z8 X (.builtin "sum") (ZoZ K):=by subst h;exact Zlh hc
end
section
variable {X:Cx}
def rIxD:R2:=fun x y H Q=>∃d kvs b ks v,x=.ref d∧y=.ref b∧H d=some (.dT kvs)∧H b=some (.tup (ks.map kV))∧Zig kvs ks=some v∧Q v H
def rSetDT:ZkO:=fun o i v H Q=>∃d kvs b ks,o=.ref d∧i=.ref b∧H d=some (.dT kvs)∧H b=some (.tup (ks.map kV))∧Zig kvs ks=none∧kvs.length<sizeLine∧Q (upd H d (.dT (kvs++[(ks,v)])))
end
abbrev IsZipG(h:Heap)(z TI TO:Addr)(f0:Value)(fl:Bool):Prop :=
 h.get? z=some { cls:=.type "zip",dict:=none,data:=.fields #[f0,.bool fl,.bool false,.ref TI,.ref TO],slots:=#[] }
section
variable {prog:Program} {w:World} {A:Around} {E:Value→Shared→Prop} {s:Shared}
end
section
variable {prog:Program} {w:World} {A:Around} {R:Result→Shared→Prop} {s:Shared}
end
def Zot(J:It)(D:Addr)(ys:List V)(σ:St)(H:Hp)(g:TG)(te:TE)(N:List V→St→Hp→Prop):Prop :=
 ∃W:Nat→Nat→List V→St→Hp→Prop,(∃m,W 0 m ys σ H) ∧
  ∀i m ys σ2 H2,W i m ys σ2 H2→(J.stop i H2∧N ys σ2 H2) ∨
   (J.go i H2∧∃N2:List V→St→Hp→Prop,(∀ys' σ' H',N2 ys' σ' H'→∃m',m'<m∧W (i+1) m' ys' σ' H')∧∀x H3,J.yld i H2 x H3→g x σ2 H3 fun σ4 H4 =>
    te σ4 H4 fun y H6=>H6 D=some (.lst ys)∧ys.length<sizeLine∧N2 (ys++[y]) σ4 (upd H6 D (.lst (ys++[y]))))
def ZoM(J:It)(D:Addr)(k:Nat)(σ:St)(H1:Hp)(g:TG)(wi2:TI)(g2:TG)(te:TE)(Q:VK):Prop :=
 ∃W:Nat→Nat→List V→St→Hp→Prop,(∃m,W 0 m [] (σ++List.replicate k none) (upd H1 D (.lst []))) ∧
  ∀i m ys σ2 H2,W i m ys σ2 H2→(J.stop i H2∧Q (.ref D) H2) ∨
   (J.go i H2∧∃N:List V→St→Hp→Prop,(∀ys' σ' H',N ys' σ' H'→∃m',m'<m∧W (i+1) m' ys' σ' H')∧∀x H3,J.yld i H2 x H3→g x σ2 H3 fun σ4 H4=>wi2 σ4 H4 fun J2 H5=>Zot J2 D ys σ4 H5 g2 te N)
def ZsA(n:Nat)(wi:TI)(g:TG)(wi2:TI)(g2:TG)(te:TE):TE:=fun σ H Q=>wi σ H fun J H1=>∀D,H1 D=none→ZoM J D n σ H1 g wi2 g2 te Q
section
variable {X:Cx} {N N':List Str} {o c:Scope}
end
end L2
namespace Hf
open L2
abbrev PW:=List (Int×Nat)
def val(P:PW):Int:=(P.map fun p=>p.1*(p.2:Int)).sum
def ws(P:PW):List Int:=P.map (·.1)
def ds(P:PW):List Nat:=P.map (·.2)
def zs(z:Nat):List Int:=List.replicate z 0
def kr(w E:Nat)(D:List Nat):Nat:=(D.map fun d=>w ^ (E-d)).sum
def Kr(w:Nat)(D:List Nat):Prop:=∃E,(∀d∈D,d≤E)∧kr w E D=w ^ E
inductive Hu (w:Nat):List Int→Nat→Int→Prop
 | stop {e:Int} {m:Nat}:Hu w [e] m 0
 | step {E L:List Int} {m:Nat} {C:Int}:1<L.length→E.Perm L→L.Pairwise (·≤·)→Hu w (L.drop m++[(L.take m).sum]) w C→Hu w E m (C+(L.take m).sum)
def Fit(w n m:Nat):Prop:=n=1∨∃t,n=m+t*(w-1)
structure Fits (w n m:Nat):Prop where
 w2:2≤w
 m2:2≤m
 mw:m≤w
 ok:Fit w n m
end Hf
namespace L2
open PySem PySem.Spec PyProof.Rows
section
variable {prog:Program} {w:World} {A:Around} {R:Result→Shared→Prop} {s:Shared}
end
def Zpf(J:It)(D:Addr)(k:Nat)(σ:St)(H1:Hp)(g:TG)(tc:TT)(tk te:TE)(Q:VK):Prop :=
 ∃W:Nat→Nat→List (List Key×V)→St→Hp→Prop,(∃m,W 0 m [] (σ++List.replicate k none) (upd H1 D (.dT []))) ∧
  ∀i m ys σ2 H2,W i m ys σ2 H2→(J.stop i H2∧Q (.ref D) H2) ∨
   (J.go i H2∧∃N:List (List Key×V)→St→Hp→Prop,(∀ys' σ' H',N ys' σ' H'→∃m',m'<m∧W (i+1) m' ys' σ' H')∧∀x H3,J.yld i H2 x H3→g x σ2 H3 fun σ4 H4=>tc σ4 H4 fun b H5 =>
    if b=true then tk σ4 H5 fun kv H6=>te σ4 H6 fun y H7=>∃ (b:Addr) (ks:List Key),kv=.ref b∧H7 D=some (.dT ys)∧H7 b=some (.tup (ks.map kV))∧Zig ys ks=none∧ys.length<sizeLine∧N (ys++[(ks,y)]) σ4 (upd H7 D (.dT (ys++[(ks,y)]))) else N ys σ4 H5)
def tDComp(n:Nat)(wi:TI)(g:TG)(tc:TT)(tk te:TE):TE:=fun σ H Q=>wi σ H fun J H1=>∀D,H1 D=none→Zpf J D n σ H1 g tc tk te Q
section
variable {X:Cx} {N N':List Str} {o c:Scope}
end
section
variable {κ:Type} [DecidableEq κ]
def Zbm(kvs:List (κ×V))(k:κ):Option V:=(kvs.find? fun kv=>decide (kv.1=k)).map (·.2)
def ZcG(kvs:List (κ×V))(k:κ)(v:V):List (κ×V) :=
 if (kvs.any fun kv=>decide (kv.1=k))=true then kvs.map (fun kv=>if kv.1=k then (kv.1,v) else kv) else kvs++[(k,v)]
def ZjS(kvs:List (κ×V))(k:κ):List (κ×V):=kvs.filter fun kv=>decide (kv.1≠k)
theorem Zrf{k:κ}:Zbm ([]:List (κ×V)) k=none:=rfl
theorem ZcX{p:κ×V}{r:List (κ×V)}{k:κ}(e:p.1=k):Zbm (p::r) k=some p.2:=by simp[Zbm,List.find?_cons,e]
theorem Zdh{p:κ×V}{r:List (κ×V)}{k:κ}(e:¬ p.1=k):Zbm (p::r) k=Zbm r k:=by simp[Zbm,List.find?_cons,e]
theorem Zfn(k:κ):∀kvs:List (κ×V),(kvs.any fun kv=>decide (kv.1=k))=(Zbm kvs k).isSome
 | []=>rfl
 | p::r=>by
  rw[QaG]
  by_cases e:p.1=k
  ·simp only[ZcX e,decide_eq_true e,Bool.true_or,Option.isSome_some]
  ·rw[Zdh e,decide_eq_false e,Bool.false_or];exact Zfn k r
theorem ZeW(kvs:List (κ×V))(k:κ)(v:V):(ZcG kvs k v).length≤kvs.length+1:=by
 unfold ZcG
 split
 ·rw[Qb];omega
 ·rw[Qg,QE,List.length_nil];omega
theorem Zmg{kvs:List (κ×V)}{k:κ}(v:V)(h:Zbm kvs k=none):ZcG kvs k v=kvs++[(k,v)]:=by
 unfold ZcG
 rw[Zfn,h]
 exact if_neg (by decide)
theorem ZcU.isSome_eq{o:Option V}{u:Option Value}(r:ZcU o u):o.isSome=u.isSome:=by
 cases o with
 | none=>cases u with
  | none=>rfl
  | some _=>exact(show False from r).elim
 | some _=>cases u with
  | none=>exact(show False from r).elim
  | some _=>rfl
theorem ZcU.getD{o:Option V}{u:Option Value}{d:V}{d':Value}(r:ZcU o u)(rd:Zx d d'):Zx (o.getD d) (u.getD d'):=by
 cases o with
 | none=>cases u with
  | none=>exact rd
  | some _=>exact(show False from r).elim
 | some _=>cases u with
  | none=>exact(show False from r).elim
  | some _=>exact r
theorem KV.val{kvs:List (κ×V)}{vs:List (κ×Value)}(r:KV kvs vs)(k:κ):ZcU (Zbm kvs k) (valueAt vs k):=by
 unfold KV at r
 induction r with
 | nil=>exact True.intro
 | @cons p q ps qs h t ih =>
  obtain⟨h1,h2⟩:=h
  by_cases e:p.1=k
  ·have e':q.1=k:=h1.symm.trans e
   have b:valueAt (q::qs) k=some q.2:=by simp[valueAt,List.find?_cons,e']
   rw[ZcX e,b];exact h2
  ·have e':¬ q.1=k:=fun z=>e (h1.trans z)
   have b:valueAt (q::qs) k=valueAt qs k:=by simp[valueAt,List.find?_cons,e']
   rw[Zdh e,b];exact ih
theorem KV.any{kvs:List (κ×V)}{vs:List (κ×Value)}(r:KV kvs vs)(k:κ):(kvs.any fun kv=>decide (kv.1=k))=vs.any fun kv=>decide (kv.1=k):=by
 unfold KV at r
 induction r with
 | nil=>rfl
 | cons h t ih=>rw[QaG,QaG,ih,h.1]
theorem KV.repl{kvs:List (κ×V)}{vs:List (κ×Value)}(r:KV kvs vs)(k:κ){y:V}{u:Value}(ry:Zx y u) :
  KV (kvs.map fun kv=>if kv.1=k then (kv.1,y) else kv) (vs.map fun kv=>if kv.1=k then (kv.1,u) else kv):=by
 unfold KV at r ⊢
 induction r with
 | nil=>exact .nil
 | @cons p q ps qs h t ih =>
  rw[Qh,Qh]
  refine .cons ?_ ih
  obtain⟨h1,h2⟩:=h
  by_cases e:p.1=k
  ·rw[if_pos e,if_pos (h1.symm.trans e)];exact⟨h1,ry⟩
  ·rw[if_neg e,if_neg (fun z=>e (h1.trans z))];exact⟨h1,h2⟩
theorem KV.put{kvs:List (κ×V)}{vs:List (κ×Value)}(r:KV kvs vs)(k:κ){y:V}{u:Value}(ry:Zx y u):KV (ZcG kvs k y) (stored vs k u):=by
 unfold ZcG stored
 rw[r.any k]
 by_cases e:(vs.any fun kv=>decide (kv.1=k))=true
 ·rw[if_pos e,if_pos e];exact r.repl k ry
 ·rw[if_neg e,if_neg e];exact Paired.snoc r ⟨rfl,ry⟩
theorem KV.length{kvs:List (κ×V)}{vs:List (κ×Value)}(r:KV kvs vs):kvs.length=vs.length:=Paired.length r
end
theorem Zkl{P:Program}{w:World}{k:Key}{u:Value}(r:Zx (kV k) u):(Zan P w).is k u=true:=by
 cases k with
 | inl i=>obtain⟨t,e⟩:=(show ∃t,u=Value.int i t from r);subst e;exact Zip P w i t
 | inr x=>obtain⟨t,e⟩:=(show ∃t,u=Value.str x t from r);subst e;exact Zic P w x t
theorem ZgQ{P:Program}{w:World}:∀ {ks:List Key} {us:List Value},Zv (ks.map kV) us→ItemsAre (Zan P w) ks us
 | [],_,r=>by rw[Qat]at r;cases r;exact .nil
 | k::ks,_,r=>by
  rw[Qh]at r
  cases r with
  | cons h t=>exact .cons (Zkl h) (ZgQ t)
abbrev KT(H:Hp):List (List Key×V)→List (List Key×Addr×Value)→Prop:=Paired fun p q=>p.1=q.1∧H q.2.1=some (.tup (p.1.map kV))∧Zx p.2 q.2.2
theorem KT.val{H:Hp}{kvs:List (List Key×V)}{xs:List (List Key×Addr×Value)}(r:KT H kvs xs)(k:List Key):ZcU (Zbm kvs k) ((atKey xs k).map (·.2)):=by
 induction r with
 | nil=>exact True.intro
 | @cons p q ps qs h t ih =>
  obtain⟨h1,_,h2⟩:=h
  by_cases e:p.1=k
  ·have e':q.1=k:=h1.symm.trans e
   have b:atKey (q::qs) k=some q.2:=by simp[atKey,List.find?_cons,e']
   rw[ZcX e,b];exact h2
  ·have e':¬ q.1=k:=fun z=>e (h1.trans z)
   have b:atKey (q::qs) k=atKey qs k:=by simp[atKey,List.find?_cons,e']
   rw[Zdh e,b];exact ih
theorem KT.repl{H:Hp}{kvs:List (List Key×V)}{xs:List (List Key×Addr×Value)}(r:KT H kvs xs)(k:List Key){y:V}{u:Value}(ry:Zx y u) :
  KT H (kvs.map fun kv=>if kv.1=k then (kv.1,y) else kv) (xs.map (putAt k u)):=by
 induction r with
 | nil=>exact .nil
 | @cons p q ps qs h t ih =>
  rw[Qh,Qh]
  refine .cons ?_ ih
  obtain⟨h1,h2,h3⟩:=h
  unfold putAt
  by_cases e:p.1=k
  ·rw[if_pos e,if_pos (h1.symm.trans e)];exact⟨h1,h2,ry⟩
  ·rw[if_neg e,if_neg (fun z=>e (h1.trans z))];exact⟨h1,h2,h3⟩
theorem KT.put{H:Hp}{kvs:List (List Key×V)}{xs:List (List Key×Addr×Value)}(r:KT H kvs xs)(k:List Key){b:Addr}{y:V}{u:Value}(hb:H b=some (.tup (k.map kV)))(ry:Zx y u) :
  KT H (ZcG kvs k y) (storedH xs k b u):=by
 have e:(kvs.any fun kv=>decide (kv.1=k))=(atKey xs k).isSome:=by
  rw[Zfn,(r.val k).isSome_eq,Option.isSome_map]
 unfold ZcG storedH
 rw[e]
 by_cases q:(atKey xs k).isSome=true
 ·rw[if_pos q,if_pos q];exact r.repl k ry
 ·rw[if_neg q,if_neg q];exact Paired.snoc r ⟨rfl,hb,ry⟩
theorem KT.keeps{H H':Hp}{kvs:List (List Key×V)}{xs:List (List Key×Addr×Value)}(r:KT H kvs xs)(ht:∀b ys,H b=some (.tup ys)→H' b=some (.tup ys)):KT H' kvs xs :=
 Paired.mapP r fun _ _ z=>⟨z.1,ht _ _ z.2.1,z.2.2⟩
section
variable {P:Program} {w:World} {H:Hp} {h:Heap} {a:Addr}
theorem Zpb{u:HO}(ok:HOk P w H h)(e:Rd H a u):Zac P w H h a u:=e.ok ok
theorem Zgx{kvs:List (Key×V)}(ok:HOk P w H h)(e:Rd H a (.dK kvs)):kvs.length≤sizeLine∧(a == sysModules)=false∧∃vs,KV kvs vs∧h.DictOf (Zan P w) a vs :=
 show Zac P w H h a (.dK kvs) from Zpb ok e
theorem ZrU{kvs:List (Key×V)}(ok:HOk P w H h)(e:H a=some (.dK kvs)):kvs.length≤sizeLine∧(a == sysModules)=false∧∃vs,KV kvs vs∧h.DictOf (Zan P w) a vs:=Zgx ok (.inl e)
theorem Zhv{ks:List Key}(ok:HOk P w H h)(e:H a=some (.tup (ks.map kV))):(tupleKind (Zan P w)).is h ks a:=by
 obtain⟨_,its,r,o,h1,h2,n,h3⟩:=(show Zac P w H h a (.tup (ks.map kV)) from ok a _ e)
 exact⟨o,its.toArray,n,h1,h2,h3,by simpa using ZgQ r⟩
theorem ZiK{kvs:List (List Key×V)}(ok:HOk P w H h)(e:Rd H a (.dT kvs)):kvs.length≤sizeLine∧(a == sysModules)=false ∧
  ∃xs,KT H kvs xs∧h.DictOfH (tupleKind (Zan P w)) a xs:=by
 obtain⟨z,y,xs,r,o,es,ep,h1,h2,h3,h4,h5⟩:=(show Zac P w H h a (.dT kvs) from Zpb ok e)
 refine⟨z,y,xs,r,o,es,ep,h1,h2,h3,h4,fun x hx=>?_,h5⟩
 have all:∀ {l:List (List Key×V)} {m:List (List Key×Addr×Value)},KT H l m→∀x∈m,(tupleKind (Zan P w)).is h x.1 x.2.1:=by
  intro l m q
  induction q with
  | nil=>intro x hx;exact nomatch hx
  | @cons p q ps qs hq t ih =>
   intro x hx
   rcases QO.mp hx with e|hx
   ·subst e
    exact Zhv ok (by rw[← hq.1];exact hq.2.1)
   ·exact ih x hx
 exact all r x hx
theorem Zrs{kvs:List (List Key×V)}(ok:HOk P w H h)(e:H a=some (.dT kvs)):kvs.length≤sizeLine∧(a == sysModules)=false ∧
  ∃xs,KT H kvs xs∧h.DictOfH (tupleKind (Zan P w)) a xs:=ZiK ok (.inl e)
end
def ZbI(H:Hp)(a:Addr)(y:V)(r:Option V):Prop :=
 (∃kvs k,Rd H a (.dK kvs)∧y=kV k∧r=Zbm kvs k)∨∃kvs k b,Rd H a (.dT kvs)∧y=.ref b∧H b=some (.tup (k.map kV))∧r=Zbm kvs k
def ZeM(H:Hp)(a:Addr)(y v:V)(H':Hp):Prop :=
 (∃kvs k,H a=some (.dK kvs)∧y=kV k∧kvs.length<sizeLine∧H'=upd H a (.dK (ZcG kvs k v))) ∨
 ∃kvs k b,H a=some (.dT kvs)∧y=.ref b∧H b=some (.tup (k.map kV))∧kvs.length<sizeLine∧H'=upd H a (.dT (ZcG kvs k v))
theorem ZbI.k{H:Hp}{a:Addr}{kvs:List (Key×V)}{k:Key}(e:H a=some (.dK kvs)):ZbI H a (kV k) (Zbm kvs k):=.inl ⟨kvs,k,.inl e,rfl,rfl⟩
theorem ZbI.t{H:Hp}{a b:Addr}{kvs:List (List Key×V)}{k:List Key}(e:H a=some (.dT kvs))(eb:H b=some (.tup (k.map kV))):ZbI H a (.ref b) (Zbm kvs k):=.inr ⟨kvs,k,b,.inl e,rfl,eb,rfl⟩
theorem ZeM.k{H:Hp}{a:Addr}{kvs:List (Key×V)}{k:Key}{v:V}(e:H a=some (.dK kvs))(hl:kvs.length<sizeLine):ZeM H a (kV k) v (upd H a (.dK (ZcG kvs k v))):=.inl ⟨kvs,k,e,rfl,hl,rfl⟩
theorem ZeM.t{H:Hp}{a b:Addr}{kvs:List (List Key×V)}{k:List Key}{v:V}(e:H a=some (.dT kvs))(eb:H b=some (.tup (k.map kV)))(hl:kvs.length<sizeLine) :
  ZeM H a (.ref b) v (upd H a (.dT (ZcG kvs k v))):=.inr ⟨kvs,k,b,e,rfl,eb,hl,rfl⟩
section
variable {X:Cx} {pins:List (Addr×Obj)} {σ:St} {H:Hp} {s:Shared} {a:Addr} {y v:V} {u r:Value} {o:Option V} {A:Around} {E:Value→Shared→Prop}
theorem Inv.big(I:Inv X pins σ H s):sysModules<s.heap.objs.size:=by
 have h:mainGlobals<s.heap.objs.size:=(I.mod.glob.keeps I.bk).lt
 exact Nat.lt_trans (by decide) h
theorem Zkw{Q:Value→Shared→Prop}(hu:A.units+1<cLine)(I:Inv X pins σ H s)(g:ZbI H a y (some v))(ry:Zx y u)(h:∀w' s',Inv X pins σ H s'→Zx v w'→Q w' s') :
  wpAny (model X.prog X.w) A (getItem (.ref a) u) Q E s:=by
 rcases g with⟨kvs,k,e,ey,l⟩|⟨kvs,k,b,e,ey,eb,l⟩
 ·subst ey
  obtain⟨z,hd,vs,rel,dd⟩:=Zgx I.hok e
  obtain⟨w',hw,rw'⟩:=ZcU.some_of (v:=v) (o:=valueAt vs k) (by rw[l];exact rel.val k)
  exact wpAny_getItem_of (Zkl ry) dd.mapOf hw (h w' _ (I.tok _) rw')
 ·subst ey
  cases (show u=Value.ref b from ry)
  obtain⟨z,hd,xs,rel,dd⟩:=ZiK I.hok e
  obtain⟨w',hw,rw'⟩:=ZcU.some_of (v:=v) (o:=(atKey xs k).map (·.2)) (by rw[l];exact rel.val k)
  obtain⟨p,hp,hp2⟩:=QaP.mp hw
  refine wpAny_getItem_heap (tupleKind_room_in1 hu) (Zhv I.hok eb) dd hp ?_
  rw[hp2]
  exact h w' _ (I.tok _) rw'
theorem Zj5{h':Heap}{t':Nat}{ob:HO}(I:Inv X pins σ H s)(mu:Mut (H a))(hs:Heap.SameBut a s.heap h')(he:∃q,h'.get? a=some q)(new:Zac X.prog X.w (upd H a ob) h' a ob) :
  Inv X pins σ (upd H a ob) { s with heap:=h',toks:=t' } :=
 I.write (x:=a) (e:=a) mu (.inl rfl) (fun b q hb z=>(hs.2 b hb).trans z) he new
theorem Zpv{P:Program}{w:World}{H':Hp}{h':Heap}{kvs:List (Key×V)}{vs:List (Key×Value)}(z:kvs.length≤sizeLine)(hd:(a == sysModules)=false)(rel:KV kvs vs)(dd:h'.DictOf (Zan P w) a vs) :
  Zac P w H' h' a (.dK kvs):=⟨z,hd,vs,rel,dd⟩
theorem Zlb{H':Hp}{Q:Unit→Shared→Prop}(hu:A.units+1<cLine)(I:Inv X pins σ H s)(g:ZeM H a y v H')(ry:Zx y u)(rv:Zx v r)(h:∀s',Inv X pins σ H' s'→Q () s') :
  wpAny (model X.prog X.w) A (setItem (.ref a) u r) Q E s:=by
 rcases g with⟨kvs,k,e,ey,l,eH⟩|⟨kvs,k,b,e,ey,eb,l,eH⟩
 ·subst ey eH
  obtain⟨z,hd,vs,rel,dd⟩:=ZrU I.hok e
  have hz:vs.length≤sizeLine:=by rw[← rel.length];exact z
  have hl:(ZcG kvs k v).length≤sizeLine:=by have:=ZeW kvs k v;omega
  refine wpAny_setItem_pairs (hsz:=hz) (Zkl ry) dd fun h' dd' hs=>h _ ?_
  have he:∃q,h'.get? a=some q:=let ⟨q,_,_,hq,_⟩:=dd';⟨q,hq⟩
  exact Zj5 I (by rw[e];exact True.intro) hs he (Zpv hl hd (rel.put k rv) dd')
 ·subst ey eH
  cases (show u=Value.ref b from ry)
  obtain⟨z,hd,xs,rel,dd⟩:=Zrs I.hok e
  have hz:xs.length≤sizeLine:=by rw[← Paired.length rel];exact z
  have hl:(ZcG kvs k v).length≤sizeLine:=by have:=ZeW kvs k v;omega
  refine wpAny_setItem_heap (hsz:=hz) (tupleKind_room_in1 hu) (Zhv I.hok eb) dd fun h' dd' hs=>h _ ?_
  obtain⟨q,es,ep,hq,h2,h3,h4,_,h5⟩:=dd'
  refine Zj5 I (by rw[e];exact True.intro) hs ⟨q,hq⟩ ⟨hl,hd,_,(rel.put k eb rv).keeps fun c ys ec=>?_,q,es,ep,hq,h2,h3,h4,h5⟩
  rw[Zd (ZoS ec e (fun z=>nomatch z))]
  exact ec
end
section
variable {X:Cx} {pins:List (Addr×Obj)} {σ:St} {H:Hp} {s:Shared} {a:Addr} {kvs:List (Key×V)} {k:Key} {u:Value} {A:Around} {E:Value→Shared→Prop}
theorem ZrB{Q:Value→Shared→Prop}(I:Inv X pins σ H s)(e:Rd H a (.dK kvs))(h:∀t s',Inv X pins σ H s'→Q (.int kvs.length t) s'):wpAny (model X.prog X.w) A (call (.builtin "len") [.ref a]) Q E s:=by
 obtain⟨z,hd,vs,rel,dd⟩:=Zgx I.hok e
 refine call_len_dict hd dd (by rw[← rel.length];rw[sizeLine_eq]at z;omega) ?_
 rw[← rel.length]
 exact h _ _ (I.tok _)
end
def NoSl(i:Expr):Prop:=∀ov iv,subscripted i false ov iv=operate [ov,iv] (getItem ov iv)
theorem ZhI{X:Cx}{pins:List (Addr×Obj)}{σ:St}{H:Hp}{s:Shared}{a:Addr}{y:V}{o:Option V}(I:Inv X pins σ H s)(g:ZbI H a y o):s.TypeIs (.ref a) "dict":=by
 rcases g with⟨kvs,k,e,_,_⟩|⟨kvs,k,b,e,_,_,_⟩
 ·obtain⟨_,_,vs,_,dd⟩:=Zgx I.hok e
  exact dd.typeIs
 ·obtain⟨_,_,xs,_,dd⟩:=ZiK I.hok e
  exact dd.typeIs
def tDGet(td ty:TE):TE:=fun σ H Q=>td σ H fun x H1=>ty σ H1 fun y H2=>∃a v,x=.ref a∧ZbI H2 a y (some v)∧Q v H2
def tDIn(ty td:TE):TE:=fun σ H Q=>ty σ H fun y H1=>td σ H1 fun x H2=>∃a o,x=.ref a∧ZbI H2 a y o∧Q (.bl o.isSome) H2
def tDNotIn(ty td:TE):TE:=fun σ H Q=>ty σ H fun y H1=>td σ H1 fun x H2=>∃a o,x=.ref a∧ZbI H2 a y o∧Q (.bl (!o.isSome)) H2
def sDPut(td ty tv:TE):TS:=fun D σ H=>tv σ H fun v H1=>td σ H1 fun x H2=>ty σ H2 fun y H3=>∃a H4,x=.ref a∧ZeM H3 a y v H4∧D.nx σ H4
def sDAug(td ty tv:TE)(rd:V→V→Hp→VK→Prop):TS:=fun D σ H=>td σ H fun x H1=>ty σ H1 fun y H2=>∃a v,x=.ref a∧ZbI H2 a y (some v) ∧
 tv σ H2 fun y2 H3=>rd v y2 H3 fun z H4=>∃H5,ZeM H4 a y z H5∧D.nx σ H5
def sDDel(td ty:TE):TS:=fun D σ H=>td σ H fun x H1=>ty σ H1 fun y H2=>∃a kvs k,x=.ref a∧H2 a=some (.dK kvs)∧y=kV k∧(Zbm kvs k).isSome=true∧D.nx σ (upd H2 a (.dK (ZjS kvs k)))
section
variable {X:Cx} {o i e value:Expr} {pos pos' tpos:Pos} {td ty tv:TE}
end
theorem Znk{P:Program}{w:World}{H:Hp}(h:Heap)(hb:sysModules<h.objs.size):Zac P w H (h.push { cls:=.type "dict",data:=.dict #[] }) h.objs.size (.dK []) :=
 ⟨Qq _,beq_eq_false_iff_ne.mpr (Ne.symm (QH hb)),[],.nil,Heap.DictOf.new h⟩
def Zpw:TE:=fun _ H Q=>∀p,H p=none→Q (.ref p) (upd H p (.dK []))
def tDNewT:TE:=fun _ H Q=>∀p,H p=none→Q (.ref p) (upd H p (.dT []))
section
variable {X:Cx} {pos:Pos}
theorem Znu:PE X (.Dict [] [] pos) Zpw:=fun pins s σ H Q I h =>
 wpAny_Dict_empty ⟨.ref s.heap.objs.size,_,I.laid (a:=s.heap.objs.size) (o:=.dK []) (t':=s.toks) (fun _ _ q=>Qc _ q) (Qf _) (Znk s.heap I.big),rfl,h _ (I.hok.fresh (Qf _))⟩
end
def Zjr:List (TE×TE)→St→Hp→(List (V×V)→Hp→Prop)→Prop
 | [],_,H,Q=>Q [] H
 | (tk,tv)::r,σ,H,Q=>tk σ H fun x H1=>tv σ H1 fun y H2=>Zjr r σ H2 fun ps H3=>Q ((x,y)::ps) H3
abbrev VV:List (V×V)→List (Value×Value)→Prop:=Paired fun p q=>Zx p.1 q.1∧Zx p.2 q.2
def PPs(X:Cx)(pos:Pos)(keys:List (Option Expr))(values:List Expr)(trs:List (TE×TE)):Prop :=
 ∀ (pins:List (Addr×Obj)) (s:Shared) (σ:St) (H:Hp) (Q:List (V×V)→Hp→Prop),Inv X pins σ H s→Zjr trs σ H Q →
  wpAny (model X.prog X.w) X.A (evalPairs (pairTrees keys values X.env pos)) (fun vs s'=>∃ps H',Inv X pins σ H' s'∧VV ps vs∧Q ps H') X.xe s
def Zjh(kvs more:List (Key×V)):List (Key×V):=more.foldl (fun acc kv=>ZcG acc kv.1 kv.2) kvs
def tDisp(trs:List (TE×TE)):TE:=fun σ H Q=>∀p,H p=none→Zjr trs σ (upd H p (.dK [])) fun ps H2=>H2 p=some (.dK [])∧∃kvs:List (Key×V),ps=kvs.map (fun kv=>(kV kv.1,kv.2))∧kvs.length≤15∧Q (.ref p) (upd H2 p (.dK (Zjh [] kvs)))
structure M1 (X:Cx) (o:Expr) (m:Str) (apos:Pos) (e:Expr) (cpos:Pos):Prop where
 base:attributeBase o m X.env (eval o X.env)=eval o X.env
 few:((backTo cpos (starEach [e] X.env)).all (fun x=>!x.1)&&(backToKw cpos (keywordEach [] X.env)).all (fun x=>x.1.isSome)
  && decide (([e]:List Expr).length+([]:List Keyword).length+(if ([]:List Keyword).isEmpty then 0 else 1)<30))=true
 line:(apos.endLine == cpos.line)=true
 trees:backTo cpos (starEach [e] X.env)=[(false,eval e X.env)]
structure M2 (X:Cx) (o:Expr) (m:Str) (apos:Pos) (e f:Expr) (cpos:Pos):Prop where
 base:attributeBase o m X.env (eval o X.env)=eval o X.env
 few:((backTo cpos (starEach [e,f] X.env)).all (fun x=>!x.1)&&(backToKw cpos (keywordEach [] X.env)).all (fun x=>x.1.isSome)
  && decide (([e,f]:List Expr).length+([]:List Keyword).length+(if ([]:List Keyword).isEmpty then 0 else 1)<30))=true
 line:(apos.endLine == cpos.line)=true
 trees:backTo cpos (starEach [e,f] X.env)=[(false,eval e X.env),(false,eval f X.env)]
def IsD(H:Hp)(a:Addr):Prop:=(∃kvs,Rd H a (.dK kvs))∨∃kvs,Rd H a (.dT kvs)
theorem Zpj{X:Cx}{pins:List (Addr×Obj)}{σ:St}{H:Hp}{s:Shared}{a:Addr}(I:Inv X pins σ H s)(d:IsD H a) :
  s.TypeIs (.ref a) "dict"∧(∀b,Value.ref a=.ref b→∃ob,s.heap.get? b=some ob∧ob.dict=none)∧(a == sysModules)=false:=by
 rcases d with⟨kvs,e⟩|⟨kvs,e⟩
 ·obtain⟨_,hd,vs,_,dd⟩:=Zgx I.hok e
  refine⟨dd.typeIs,fun b q=>?_,hd⟩
  cases q
  obtain⟨ob,_,_,h1,h2,_⟩:=dd
  exact⟨ob,h1,h2.2.1⟩
 ·obtain⟨_,hd,xs,_,dd⟩:=ZiK I.hok e
  refine⟨dd.typeIs,fun b q=>?_,hd⟩
  cases q
  obtain⟨ob,_,_,h1,h2,_⟩:=dd
  exact⟨ob,h1,h2.2.1⟩
section
variable {X:Cx} {pins:List (Addr×Obj)} {σ:St} {H:Hp} {s:Shared} {a:Addr} {y d:V} {u r:Value} {o:Option V} {A:Around} {E:Value→Shared→Prop}
theorem ZpQ{Q:Value→Shared→Prop}(hu:A.units+1<cLine)(I:Inv X pins σ H s)(g:ZbI H a y o)(ry:Zx y u)(h:∀w' s',Inv X pins σ H s'→Zx (o.getD .non) w'→Q w' s') :
  wpAny (model X.prog X.w) A (call (.builtin "dict.get") [.ref a,u]) Q E s:=by
 rcases g with⟨kvs,k,e,ey,l⟩|⟨kvs,k,b,e,ey,eb,l⟩
 ·subst ey
  obtain⟨z,hd,vs,rel,dd⟩:=Zgx I.hok e
  refine call_meetsIn PySem.F.slot_dict_get dd.typeIs PySem.F.entry_dict_get (PySem.F.args_dict_get_2 _ _) (meets_dict_get (Zan X.prog X.w) a (Zkl ry) hd) ⟨_,dd.mapOf,h _ _ (I.tok _) ?_⟩
  rw[l]
  exact(rel.val k).getD rfl
 ·subst ey
  cases (show u=Value.ref b from ry)
  obtain⟨z,hd,xs,rel,dd⟩:=ZiK I.hok e
  refine call_meetsIn PySem.F.slot_dict_get dd.typeIs PySem.F.entry_dict_get (PySem.F.args_dict_get_2 _ _) (meetsH_dict_get (tupleKind (Zan X.prog X.w)) a b hd) ⟨tupleKind_room_in1 hu,k,xs,Zhv I.hok eb,dd,h _ _ (I.tok _) ?_⟩
  rw[l]
  exact(rel.val k).getD rfl
end
def Zmf(td ty:TE):TE:=fun σ H Q=>td σ H fun x H1=>∃a,x=.ref a∧IsD H1 a∧ty σ H1 fun y H2=>∃o,ZbI H2 a y o∧Q (o.getD .non) H2
def Zr3(td ty tx:TE):TE:=fun σ H Q=>td σ H fun x H1=>∃a,x=.ref a∧IsD H1 a∧ty σ H1 fun y H2=>tx σ H2 fun z H3=>∃o,ZbI H3 a y o∧Q (o.getD z) H3
def Zr7(td ty:TE):TE:=fun σ H Q=>td σ H fun x H1=>∃a,x=.ref a∧IsD H1 a∧ty σ H1 fun y H2=>∃kvs k v,H2 a=some (.dK kvs)∧y=kV k∧Zbm kvs k=some v∧Q v (upd H2 a (.dK (ZjS kvs k)))
def Zsq(td ty tx:TE):TE:=fun σ H Q=>td σ H fun x H1=>∃a,x=.ref a∧IsD H1 a∧ty σ H1 fun y H2=>tx σ H2 fun z H3=>∃kvs k,H3 a=some (.dK kvs)∧y=kV k ∧
 (∀v,Zbm kvs k=some v→Q v (upd H3 a (.dK (ZjS kvs k))))∧(Zbm kvs k=none→Q z H3)
section
variable {X:Cx} {o e f:Expr} {apos cpos:Pos} {td ty tx:TE}
theorem ZlE(hu:X.A.units+1<cLine)(ho:PE X o td)(he:PE X e ty)(m:M1 X o "get" apos e cpos):PE X (.Call (.Attribute o "get" apos) [e] [] cpos) (Zmf td ty):=by
 intro pins s σ H Q I h
 refine wpAny_Call_method m.base m.few m.line PySem.F.plainAttrs_dict PySem.F.slot_dict_get PySem.F.type_dict_get (thn (ho pins s σ H _ I h) ?_)
 rintro u s1 ⟨x,H1,I1,rx,a,ex,d,q1⟩
 subst ex
 obtain rfl:u=Value.ref a:=rx
 obtain⟨t1,t2,_⟩:=Zpj I1 d
 refine⟨t1,t2,?_⟩
 rw[m.trees]
 refine Calls.callWith_builtin rfl (Calls.evalArgs_plain (Calls.spliced_cons (thn (he pins s1 σ H1 _ I1 q1) fun iv s2 ⟨y,H2,I2,ry,ov,g,q2⟩=>Calls.spliced_nil ?_)))
 exact ZpQ hu I2 g ry fun w' s3 I3 rw'=>⟨_,H2,I3,rw',q2⟩
end
section
variable {X:Cx} {pins:List (Addr×Obj)} {σ:St} {H:Hp} {s:Shared} {a:Addr} {kvs:List (Key×V)} {A:Around} {E:Value→Shared→Prop}
end
section
variable {X:Cx} {pins:List (Addr×Obj)} {σ:St} {H:Hp} {s:Shared} {a:Addr} {y:V} {u:Value} {A:Around} {E:Value→Shared→Prop}
end
section
variable {X:Cx}
theorem ZkL:Z8 X (.builtin "len") (fun xs H Q=>∃a kvs,xs=[V.ref a]∧H a=some (.dK kvs)∧Q (.int kvs.length) H):=by
 intro pins s σ H xs us Q I r h
 obtain⟨a,kvs,rfl,ha,q⟩:=h
 obtain⟨u,rfl,ru⟩:=ZbB r
 cases ru
 exact ZrB I (.inl ha) fun t s' I'=>⟨.int kvs.length,H,I',⟨t,rfl⟩,q⟩
end
section
variable {κ:Type} [DecidableEq κ]
end
structure Mf (P:Program) (w:World) (K:PySem.W.Frag) (mg:Str→Option Value) (base:Heap) (k:Nat) (C:Addr) (m:Str) (ps:List Str) (sp:Sp):Prop where
 ex:∃f fd,ZdC P w K mg base CX0 k f fd ps sp∧ZmQ K C m f∧ZbZ K fd ps []
structure Cf (P:Program) (w:World) (K:PySem.W.Frag) (mg:Str→Option Value) (base:Heap) (k:Nat) (C:Addr) (x:Str) (ps:List Str) (sp:Sp):Prop where
 ex:∃f fd,ZdC P w K mg base CX0 k f fd ps sp∧Mk K C f∧ZbZ K fd ps []∧mg x=some (.ref C)
structure ZeD (K:PySem.W.Frag) (C:Addr) (m qual:Str) (st:Stmt) (ps:List Str):Prop where
 ex:∃f fd,Fun K m qual st f fd∧ZmQ K C m f∧ZbZ K fd ps []
structure Zn6 (K:PySem.W.Frag) (mg:Str→Option Value) (C:Addr) (x qual:Str) (st:Stmt) (ps:List Str):Prop where
 ex:∃f fd,Fun K "__init__" qual st f fd∧Mk K C f∧ZbZ K fd ps []∧mg x=some (.ref C)
section
variable {P:Program} {w:World} {K:PySem.W.Frag} {mg:Str→Option Value} {base:Heap}
theorem ZeD.mf{C:Addr}{m qual:Str}{st:Stmt}{N ps:List Str}{k:Nat}{sp:Sp}(T:ZeD K C m qual st ps)(S:Zr N ps (Zg st))(len:∀vs H Q E,sp vs H Q E→vs.length=ps.length)
  (hbody:∀ (cdv:Value) (f:Addr) (A:Around) (outer:List Env) (s:Shared) (H:Hp) (vs:List V) (Q:VK) (E:XK),ZaJ k (A.deeper (envOfC qual (Zg st) s.heap.objs.size f cdv))→sp vs H Q E →
   ∃t,PSs (Zg2 CX0 P w K mg base N qual (Zg st) f cdv A outer s H E).nox (Zm st) t∧t { nx:=fun _ H'=>Q .non H',rt:=Q } (Zdd N vs) H):Mf P w K mg base (k+1) C m ps sp:=by
 obtain⟨f,fd,F,m,b⟩:=T.ex
 exact⟨f,fd,F.ok S len (fun cdv A outer s H vs Q E hr h=>hbody cdv f A outer s H vs Q E hr h),m,b⟩
theorem Zn6.cf{C:Addr}{x qual:Str}{st:Stmt}{N ps:List Str}{k:Nat}{sp:Sp}(T:Zn6 K mg C x qual st ps)(S:Zr N ps (Zg st))(len:∀vs H Q E,sp vs H Q E→vs.length=ps.length)
  (hbody:∀ (cdv:Value) (f:Addr) (A:Around) (outer:List Env) (s:Shared) (H:Hp) (vs:List V) (Q:VK) (E:XK),ZaJ k (A.deeper (envOfC qual (Zg st) s.heap.objs.size f cdv))→sp vs H Q E →
   ∃t,PSs (Zg2 CX0 P w K mg base N qual (Zg st) f cdv A outer s H E).nox (Zm st) t∧t { nx:=fun _ H'=>Q .non H',rt:=Q } (Zdd N vs) H):Cf P w K mg base (k+1) C x ps sp:=by
 obtain⟨f,fd,F,m,b,g⟩:=T.ex
 exact⟨f,fd,F.ok S len (fun cdv A outer s H vs Q E hr h=>hbody cdv f A outer s H vs Q E hr h),m,b,g⟩
end
section
variable {X:Cx} {k j:Nat} {C:Addr} {m x:Str} {ps:List Str} {sp:Sp} {o e:Expr} {es:List Expr} {ta:TE} {t:TA} {p apos pos:Pos} {pl:Sem Bool}
theorem ZeS(F:Mf X.prog X.w X.K X.mg X.base k C m ps sp)(c:Cls X.K C)(hr:ZaJ j X.A)(he:PE X o ta)(ha:PA X (e::es) t)(hjk:k≤j:=by decide)
  (hst:starEach (e::es) X.env=(false,eval e X.env)::starEach es X.env:=by rfl) (hpl:(backTo pos (starEach es X.env)).any (·.1)=false:=by rfl)
  (ht:eval (.Call (.Attribute o m apos) (e::es) [] pos) X.env=(do
   let ov ← eval o X.env
   standAt apos.atName
   let (f,first) ← holding [ov] (getMethod ov m pl)
   callWith pos f first (backTo pos (starEach (e::es) X.env)) (backToKw pos (keywordEach [] X.env))):=by rfl) :
  PE X (.Call (.Attribute o m apos) (e::es) [] pos) (Zko C m sp [] E0 ta t):=by
 obtain⟨f,fd,F,g,b⟩:=F.ex
 exact ZnT he c g F (hr.mono hjk) b .nil ZjY ha hst hpl ht
theorem ZcN(F:Mf X.prog X.w X.K X.mg X.base k C m ps sp)(c:Cls X.K C)(hr:ZaJ j X.A)(he:PE X o ta)(hjk:k≤j:=by decide)
  (ht:eval (.Call (.Attribute o m apos) [] [] pos) X.env=(do
   let ov ← eval o X.env
   standAt apos.atName
   let (f,first) ← holding [ov] (getMethod ov m pl)
   callWith pos f first (backTo pos (starEach [] X.env)) (backToKw pos (keywordEach [] X.env))):=by rfl) :
  PE X (.Call (.Attribute o m apos) [] [] pos) (Zko C m sp [] E0 ta Zqu):=by
 obtain⟨f,fd,F,g,b⟩:=F.ex
 exact Zlz he c g F (hr.mono hjk) b .nil ZjY ht
theorem ZoQ(F:Cf X.prog X.w X.K X.mg X.base k C x ps sp)(hr:ZaJ j X.A)(ha:PA X (e::es) t)(hjk:k+1≤j:=by decide)(hg:Gl X x:=by rfl)(hdb:(x == ("__debug__" : Str))=false:=by decide)
  (he:starEach (e::es) X.env=(false,eval e X.env)::starEach es X.env:=by rfl) (hpl:(backTo pos (starEach es X.env)).any (·.1)=false:=by rfl) :
  PE X (.Call (.Name x p) (e::es) [] pos) (ZoT C sp [] E0 t):=by
 obtain⟨f,fd,F,g,b,gm⟩:=F.ex
 exact Zoa g F (hr.mono hjk) hg gm b .nil ZjY ha hdb he hpl
end
section
variable {X:Cx} {pins:List (Addr×Obj)} {σ:St} {H:Hp} {s:Shared} {d:Addr} {o:Obj} {u:HO}
end
def tThaw(t:TE):TE:=fun σ H Q=>∃d u,H d=some u∧Mut (some u)∧t σ H fun v H'=>∃o,H' d=some (.frz o u)∧Q v (upd H' d u)
theorem ZoP{P:Program}{w:World}{k:Key}{v:Value}(h:(Zan P w).is k v=true):Zx (kV k) v:=by
 rw[Zjl]at h
 rcases Zai h with⟨i,t,rfl,rfl⟩|⟨x,t,rfl,rfl⟩
 ·exact⟨t,rfl⟩
 ·exact⟨t,rfl⟩
def Zl0:List V→Hp→VK→Prop:=fun xs H Q=>∃d kvs,xs=[.ref d]∧H d=some (.dK kvs)∧∀l,H l=none→Q (.ref l) (upd H l (.lst (kvs.map fun kv=>kV kv.1)))
theorem ZkS{P:Program}{w:World}:∀ (kvs:List (Key×V)) (vs:List (Key×Value)) (us:List Value),KV kvs vs→us.length=vs.length→(∀ (j:Nat) (v:Value),us[j]? = some v→∃k x,vs[j]? = some (k,x)∧(Zan P w).is k v=true)→Zv (kvs.map fun kv=>kV kv.1) us:=by
 intro kvs vs us r
 unfold KV at r
 induction r generalizing us with
 | nil =>
  intro hl _
  cases us with
  | nil=>exact .nil
  | cons a b=>simp at hl
 | @cons p q ps qs h t ih =>
  intro hl hp
  cases us with
  | nil=>simp at hl
  | cons a b =>
   obtain⟨k,x,e,hk⟩:=hp 0 a rfl
   have e':q=(k,x):=by simpa using e
   rw[Qh]
   refine .cons ?_ (ih b (by simpa using hl) fun j v hv=>?_)
   ·rw[h.1,e'];exact ZoP hk
   ·simpa using hp (j+1) v (by simpa using hv)
theorem Zi5{X:Cx}(hc:X.calm=true):Z8 X (.type "list") Zl0:=by
 intro pins s σ H xs us Q I r h
 obtain⟨d,kvs,rfl,hd,q⟩:=h
 obtain⟨u,rfl,ru⟩:=ZbB r
 cases ru
 obtain⟨z,lo,vs,rel,dd⟩:=(show Zac X.prog X.w H s.heap d (.dK kvs) from I.hok d _ hd)
 obtain⟨ep,da⟩:=dd.dictAt
 have hl:kvs.length=vs.length:=rel.length
 refine PySem.W.kdl_call (PySem.W.kdl_dict lo) (I.ok.hd hc) da (by omega) fun h' tk acc c hk hD hacc=>?_
 have hv:Zv (kvs.map fun kv=>kV kv.1) acc.toList:=ZkS (P:=X.prog) (w:=X.w) kvs vs acc.toList rel (by rw[QaE];exact hacc.1) fun j v e=>hacc.2 j v (by rw[← Array.getElem?_toList];exact e)
 refine⟨.ref s.heap.objs.size,_,I.laid (a:=s.heap.objs.size) (o:=.lst (kvs.map fun kv=>kV kv.1)) (t':=tk) hk (Qf _) ?_,rfl,q _ (I.hok.fresh (Qf _))⟩
 exact⟨by rw[Qb];exact z,acc.toList,c,hv,by simpa using hD⟩
def Itv(d:Addr)(o:Obj)(kvs:List (Key×V)):It :=
 ⟨fun i H=>H d=some (.frz o (.dK kvs))∧i<kvs.length,fun i H v H'=>H'=H∧∃k,kvs[i]? = some (k,v),fun i H=>H d=some (.frz o (.dK kvs))∧kvs.length≤i⟩
def Itk(d:Addr)(o:Obj)(kvs:List (Key×V)):It :=
 ⟨fun i H=>H d=some (.frz o (.dK kvs))∧i<kvs.length,fun i H v H'=>H'=H∧∃k x,kvs[i]? = some (k,x)∧v=kV k,fun i H=>H d=some (.frz o (.dK kvs))∧kvs.length≤i⟩
def iKeys(tl:TE):TI:=fun σ H R=>tl σ H fun x H1=>∃d kvs,x=.ref d∧H1 d=some (.dK kvs)∧∀o,R (Itk d o kvs) (upd H1 d (.frz o (.dK kvs)))
def rSortedD:List V→Hp→VK→Prop:=fun xs H Q=>∃d kvs ns,xs=[.ref d]∧H d=some (.dK kvs)∧kvs.map (·.1)=ns.map Sum.inl∧ns.length<64 ∧
 ∀ (l:Addr) (ns':List Int),H l=none→ns'.Perm ns→ns'.Pairwise (·≤·)→Q (.ref l) (upd H l (.lst (ns'.map V.int)))
def rSumL(K:PySem.W.Frag):List V→Hp→VK→Prop:=fun vs H Q=>∃ (p:Addr) (ns:List Int),vs=[.ref p]∧SqL K H p (ns.map V.int)∧ns.length≤1000∧(∀n∈ns,0≤n∧n≤1000000)∧Q (.int ns.sum) H
def iVals(tl:TE):TI:=fun σ H R=>tl σ H fun x H1=>∃d kvs,x=.ref d∧H1 d=some (.dK kvs)∧∀o,R (Itv d o kvs) (upd H1 d (.frz o (.dK kvs)))
def Iti(d:Addr)(o:Obj)(kvs:List (Key×V)):It :=
 ⟨fun i H=>H d=some (.frz o (.dK kvs))∧i<kvs.length,
  fun i H v H'=>∃p k x,H p=none∧v=.ref p∧kvs[i]? = some (k,x)∧H'=upd H p (.tup [kV k,x]),
  fun i H=>H d=some (.frz o (.dK kvs))∧kvs.length≤i⟩
def iItems(tl:TE):TI:=fun σ H R=>tl σ H fun x H1=>∃d kvs,x=.ref d∧H1 d=some (.dK kvs)∧∀o,R (Iti d o kvs) (upd H1 d (.frz o (.dK kvs)))
def Zoc(J:It)(D:Addr)(k:Nat)(σ:St)(H1:Hp)(g:TG)(tc:TT)(tk te:TE)(Q:VK):Prop :=
 ∃W:Nat→Nat→List (Key×V)→St→Hp→Prop,(∃m,W 0 m [] (σ++List.replicate k none) (upd H1 D (.dK []))) ∧
  ∀i m ys σ2 H2,W i m ys σ2 H2→(J.stop i H2∧Q (.ref D) H2) ∨
   (J.go i H2∧∃N:List (Key×V)→St→Hp→Prop,(∀ys' σ' H',N ys' σ' H'→∃m',m'<m∧W (i+1) m' ys' σ' H')∧∀x H3,J.yld i H2 x H3→g x σ2 H3 fun σ4 H4=>tc σ4 H4 fun b H5 =>
    if b=true then tk σ4 H5 fun kv H6=>te σ4 H6 fun y H7=>∃k:Key,kv=kV k∧H7 D=some (.dK ys)∧ys.length<sizeLine∧N (ZcG ys k y) σ4 (upd H7 D (.dK (ZcG ys k y))) else N ys σ4 H5)
def tKComp(n:Nat)(wi:TI)(g:TG)(tc:TT)(tk te:TE):TE:=fun σ H Q=>wi σ H fun J H1=>∀D,H1 D=none→Zoc J D n σ H1 g tc tk te Q
section
variable {X:Cx} {N N':List Str} {o c:Scope}
end
section
variable {X:Cx}
def rIxK:R2:=fun x y H Q=>∃d kvs k v,x=.ref d∧y=kV k∧H d=some (.dK kvs)∧Zbm kvs k=some v∧Q v H
end
section
variable {prog:Program} {w:World} {A:Around} {R:Result→Shared→Prop} {I:Addr} {fp wr:List Addr} {G:Array GenState→Array GenState→Prop} {n:Nat} {P:Nat→Value→Prop} {St:Nat→Shared→Prop} {K:Type} [DecidableEq K] {knd:KeyKind prog w K}
end
section
variable {prog:Program} {w:World} {A:Around} {E:Value→Shared→Prop} {s:Shared} {K:Type} [DecidableEq K] {knd:KeyKind prog w K}
end
def rDictP(K:PySem.W.Frag):List V→Hp→VK→Prop:=fun xs H Q=>∃ (a:Addr) (ts:List (Addr×Key×V)),xs=[.ref a]∧SqL K H a (ts.map fun t=>V.ref t.1)∧(∀t∈ts,H t.1=some (.tup [kV t.2.1,t.2.2]))∧ts.length≤1000 ∧
 ∀D,H D=none→Q (.ref D) (upd H D (.dK (Zjh [] (ts.map (·.2)))))
def rInG:R2:=fun y x H Q=>∃a o,x=.ref a∧ZbI H a y o∧Q (.bl o.isSome) H
def rNotInG:R2:=fun y x H Q=>∃a o,x=.ref a∧ZbI H a y o∧Q (.bl (!o.isSome)) H
def ZrZ:R2:=fun x y H Q=>∃a v,x=.ref a∧ZbI H a y (some v)∧Q v H
section
variable {X:Cx} {k:Nat}
def ZrI:ZkO:=fun o i v H Q=>∃a H',o=.ref a∧ZeM H a i v H'∧Q H'
theorem Zl2(hr:ZaJ k X.A):ZpC X ZrI:=by
 intro pins s σ H o i v ov iv u Q I ro ri rv h
 obtain⟨a,H',rfl,g,q⟩:=h
 cases ro
 exact Zlb (ZmT hr) I g ri rv fun s4 I4=>⟨H',I4,q⟩
theorem ZiM{prog:Program}{w:World}{A:Around}{E:Value→Shared→Prop}{s:Shared}{value slice:Expr}{o i:Value}{T id:String}{Q:Value→Shared→Prop}(hT:s.TypeIs o T)
  (hl:typeLookup (.type T) "__getitem__" = pure (some (.builtin id))) (hs:subscripted slice false o i=operate [o,i] (getItem o i)) (h:wpAny (model prog w) A (getItem o i) Q E s) :
  wpAny (model prog w) A (subscriptTail value slice o i) Q E s:=by
 unfold subscriptTail
 refine wpAny_bind ?_
 rw[getitemInPython_of_ne hT.not_modules]
 refine wpAny_bind (wpAny_specialOf hT hl ?_)
 have fin:wpAny (model prog w) A (subscripted slice false o i) (fun r s₃=>wpAny (model prog w) A (letTemporaryGo value o r >>= fun _=>pure r) Q E s₃) E s:=by
  rw[hs]
  exact wpAny_operating (wpAny_mono h (fun r s₃ h₃=>wpAny_bind (wpAny_letTemporaryGo (wpAny_pure h₃))) fun _ _ x=>x)
 first
  | exact wpAny_pure (wpAny_bind fin)
  | exact wpAny_bind (wpAny_pure (wpAny_bind fin))
  | exact wpAny_bind fin
theorem ixG(hr:ZaJ k X.A):IxR X ZrZ:=by
 intro value slice pins s σ H x y v u Q I rx ry h hs
 obtain⟨a,z,rfl,g,q⟩:=h
 cases rx
 exact ZiM (ZhI I g) PySem.F.slot_dict_getitem.lookup hs (Zkw (ZmT hr) I g ry fun w' s' I' rw'=>⟨z,H,I',rw',q⟩)
def rEqE(neg:Bool):R2:=fun x y H Q=>∃a b kvs,x=.ref a∧y=.ref b∧H a=some (.dK kvs)∧H b=some (.dK [])∧Q (.bl (if neg then !kvs.isEmpty else kvs.isEmpty)) H
theorem Zsr:Z8 X (.builtin "len") (fun xs H Q=>∃a kvs,xs=[V.ref a]∧H a=some (.dK kvs)∧Q (.int kvs.length) H):=ZkL
theorem ZqW(hc:X.calm=true:=by rfl):Z8 X (.type "list") Zl0:=Zi5 hc
end
mutual
inductive DH (H:Hp):V→PyData→Prop where
 | non:DH H .non .none
 | bl (b:Bool):DH H (.bl b) (.bool b)
 | int (i:Int):DH H (.int i) (.int i)
 | str (s:Str):DH H (.str s) (.str s)
 | lst {a:Addr} {xs:List V} {ds:List PyData}:H a=some (.lst xs)→DHs H xs ds→DH H (.ref a) (.list ds)
 | tup {a:Addr} {xs:List V} {ds:List PyData}:H a=some (.tup xs)→DHs H xs ds→DH H (.ref a) (.tuple ds)
inductive DHs (H:Hp):List V→List PyData→Prop where
 | nil:DHs H [] []
 | cons {x:V} {d:PyData} {xs:List V} {ds:List PyData}:DH H x d→DHs H xs ds→DHs H (x::xs) (d::ds)
end
mutual
theorem DH.mono{H H':Hp}(s:Zw H H'):∀ {x:V} {d:PyData},DH H x d→DH H' x d
 | _,_,.non=>.non
 | _,_,.bl b=>.bl b
 | _,_,.int i=>.int i
 | _,_,.str z=>.str z
 | _,_,.lst h hs=>.lst (s _ _ h) (DHs.mono s hs)
 | _,_,.tup h hs=>.tup (s _ _ h) (DHs.mono s hs)
theorem DHs.mono{H H':Hp}(s:Zw H H'):∀ {xs:List V} {ds:List PyData},DHs H xs ds→DHs H' xs ds
 | _,_,.nil=>.nil
 | _,_,.cons h hs=>.cons (DH.mono s h) (DHs.mono s hs)
end
mutual
theorem DH.dv{K:PySem.W.Frag}{H:Hp}:∀ {x:V} {d:PyData},DH H x d→DV K H x d
 | _,_,.non=>.non
 | _,_,.bl b=>.bl b
 | _,_,.int i=>.int i
 | _,_,.str z=>.str z
 | _,_,.lst h hs=>.lst (SqL.of h) (DHs.dv hs)
 | _,_,.tup h hs=>.tup (SqT.of h) (DHs.dv hs)
theorem DHs.dv{K:PySem.W.Frag}{H:Hp}:∀ {xs:List V} {ds:List PyData},DHs H xs ds→DVs K H xs ds
 | _,_,.nil=>.nil
 | _,_,.cons h hs=>.cons (DH.dv h) (DHs.dv hs)
end
def tyD:PyData→String
 | .none => "NoneType"
 | .bool _ => "bool"
 | .int _ => "int"
 | .str _ => "str"
 | .tuple _ => "tuple"
 | _ => "list"
def isIntD:PyData→Bool
 | .int _=>true
 | _=>false
def isBoolD:PyData→Bool
 | .bool _=>true
 | _=>false
def isLstD:PyData→Bool
 | .list _=>true
 | _=>false
def isTupD:PyData→Bool
 | .tuple _=>true
 | _=>false
def isStrD:PyData→Bool
 | .str _=>true
 | _=>false
section
open PySem.W
end
theorem ZlC{kvs:List (Key×V)}{k:Key}{v:V}(h:Zbm kvs k=some v):(k,v)∈kvs:=by
 unfold Zbm at h
 obtain⟨p,hp,rfl⟩:=QaP.mp h
 have h1:=List.find?_some hp
 have h2:=List.mem_of_find?_eq_some hp
 have:p.1=k:=by simpa using h1
 rw[← this];exact h2
theorem ZhL{kvs:List (Key×V)}(hn:(kvs.map (·.1)).Nodup){k:Key}{v:V}(h:(k,v)∈kvs):Zbm kvs k=some v:=by
 induction kvs with
 | nil=>cases h
 | cons p r ih =>
  obtain⟨n1,n2⟩:=QU.mp (by simpa using hn:(p.1::r.map (·.1)).Nodup)
  rcases QO.mp h with rfl|h
  ·exact ZcX rfl
  ·rw[Zdh fun e=>n1 (e ▸ Qn (f:=(·.1)) h)]
   exact ih n2 h
def tOrK(K:PySem.W.Frag)(ta tb:TE):TE:=fun σ H Q=>ta σ H fun x H1=>∃k,Zsy K x H1 k∧if k=true then Q x H1 else tb σ H1 Q
end L2
namespace L2
open PySem PySem.Spec PyProof.Rows
def off(p:Addr)(H:Hp):Hp:=fun b=>if b=p then none else H b
section
variable {prog:Program} {w:World} {A:Around} {R:Result→Shared→Prop} {I:Addr} {fp wr:List Addr} {G:Array GenState→Array GenState→Prop} {n:Nat} {P:Nat→Value→Prop} {St:Nat→Shared→Prop} {K:Type} [DecidableEq K] {knd:KeyKind prog w K}
end
def rDPop:V→List V→Hp→VK→Prop:=fun x vs H Q=>∃a kvs k v,x=.ref a∧vs=[kV k]∧H a=some (.dK kvs)∧Zbm kvs k=some v∧Q v (upd H a (.dK (ZjS kvs k)))
def rDUpd(K:PySem.W.Frag):V→List V→Hp→VK→Prop:=fun x vs H Q=>∃ (D a:Addr) (kvs:List (Key×V)) (ts:List (Addr×Key×V)),x=.ref D∧vs=[.ref a]∧H D=some (.dK kvs)∧H a=some (.lst (ts.map fun t=>V.ref t.1))∧(∀t∈ts,H t.1=some (.tup [kV t.2.1,t.2.2]))∧ts.length≤1000∧kvs.length≤100000 ∧
 Q .non (upd H D (.dK (Zjh kvs (ts.map (·.2)))))
theorem Zob{X:Cx}{s:Stmt}:PS X s (fun _ _ _=>False):=fun pins s' σ H D I h=>h.elim
def pairsAt(ts:List (Addr×Key×V))(l:Addr)(H:Hp):Hp:=fun b=>if b=l then some (.lst (ts.map fun t=>V.ref t.1)) else
 match ts.find? fun t=>decide (t.1=b) with
 | some t=>some (.tup [kV t.2.1,t.2.2])
 | none=>H b
def tLstItems(to:TE):TE:=fun σ H Q=>to σ H fun x H1=>∃d kvs,x=.ref d∧H1 d=some (.dK kvs) ∧
 ∀ (l:Addr) (ts:List (Addr×Key×V)) (H2:Hp),H1 l=none→ts.map (·.2)=kvs→(∀t∈ts,H1 t.1=none∧H2 t.1=some (.tup [kV t.2.1,t.2.2]))→(∀b o,H1 b=some o→H2 b=some o)→H2 l=some (.lst (ts.map fun t=>V.ref t.1))→Q (.ref l) H2
theorem Zqk{X:Cx}{k:Nat}{o e:Expr}{td ty:TE}{apos cpos:Pos}(hr:ZaJ k X.A)(ho:PE X o td)(he:PE X e ty)(hb:attributeBase o "get" X.env (eval o X.env)=eval o X.env:=by rfl)
  (hl:(apos.endLine == cpos.line)=true:=by rfl) (ht:backTo cpos (starEach [e] X.env)=[(false,eval e X.env)]:=by rfl):PE X (.Call (.Attribute o "get" apos) [e] [] cpos) (Zmf td ty):=by
 refine ZlE (ZmT hr) ho he ⟨hb,?_,hl,ht⟩
 rw[ht];rfl
section
variable {prog:Program} {w:World} {A:Around} {E:Value→Shared→Prop} {s:Shared} {l:Addr} {xs:Array (Int×Tok)}
end
def rMinQ(K:PySem.W.Frag):List V→Hp→VK→Prop:=fun vs H Q=>∃ (p:Addr) (ns:List Int),vs=[.ref p]∧SqT K H p (ns.map V.int)∧0<ns.length∧∀M,M∈ns→(∀a∈ns,M≤a)→Q (.int M) H
section
variable {X:Cx}
end
section
variable {X:Cx}
end
def tThawS(t:TS):TS:=fun D σ H=>∃d u,H d=some u∧Mut (some u)∧t ⟨fun σ' H'=>∃o,H' d=some (.frz o u)∧D.nx σ' (upd H' d u),fun _ _=>False,fun _ _=>False,fun _ _=>False⟩ σ H
def Zr8(t u:TS):TS:=fun D σ H=>∃M:St→Hp→Prop,t { D with nx:=M } σ H∧∀σ' H',M σ' H'→u D σ' H'
theorem Zn1{X:Cx}{st:Stmt}{rest:List Stmt}{t u:TS}(h1:PS X st t)(h2:PSs X rest u):PSs X (st::rest) (Zr8 t u):=by
 intro pins s σ H D I h
 obtain⟨M,h,hm⟩:=h
 refine wpAny_execs_cons (thn (h1 pins s σ H { D with nx:=M } I h) fun f s1 q=>?_)
 cases f with
 | next =>
  obtain⟨σ',H',I',q⟩:=q
  exact h2 pins s1 σ' H' D I' (hm σ' H' q)
 | ret v=>exact q
 | brk=>exact q
 | cont=>exact q
end L2
set_option maxHeartbeats 1000000
namespace My
open PySem L2 PyProof.Rows
abbrev Ztl:=@List.tail Stmt
abbrev Zt2(x:List Stmt):=Ztl (Ztl x)
abbrev Zt4(x:List Stmt):=Zt2 (Zt2 x)
abbrev Zt8(x:List Stmt):=Zt4 (Zt4 x)
abbrev Zt16(x:List Stmt):=Zt8 (Zt8 x)
abbrev Zt32(x:List Stmt):=Zt16 (Zt16 x)
local macro_rules|`(‹$i:num›)=>`(@pv _ $i _ _ (by rfl) (Or.inl rfl) (by decide) (by decide))
local macro_rules|`(tactic|trivial)=>`(tactic|first|exact .inl rfl|exact .inr rfl|decide|exact Nat.le_refl _|omega)
local macro_rules
|`(#[Xns,$a,$b,$c])=>`(PySem.W.nsIn $a mainGlobals $b=some (some (.ref $c)))
|`(#[Xfi,$a,$b,$c,$d])=>`(PySem.W.findIn $a (.ref $b) $c=some (some (.ref $d)))
|`(#[Xlk,$z,$a,$b,$c,$d,$e,$f,$g,$h,$i,$j,$k,$l,$m])=>`(($z).lookup $a=some ⟨$b,$c,.func (PySem.W.fnOf $d $e (Zq $f) (Zm $f) (Zg $f) .none $g $h $i $j $k $l),$m⟩)
|`(#[Xci,$a,$b,$c])=>`(PySem.W.codeIn $a $b $c=true)
|`(#[Xki,$a,$b])=>`(PySem.W.keepIn $a (.ref $b)=true)
|`(#[Xif,$a,$b])=>`(PySem.W.isFn $a (.ref $b)=true)
|`(#[Zf,$a,$b])=>`(@Zf _ _ _ _ _ $a $b)
|`(#[Zu,$a,$b,$c,$d])=>`(@Zu _ _ $a _ _ _ _ $b rfl $c $d (by rfl) (by trivial))
|`(#[ZI,$a,$b,$c])=>`(@ZI _ _ _ _ _ _ _ _ $a $b $c)
|`(#[Zi])=>`(@Zi _ _ _ _)
|`(#[Zj,$a])=>`(@Zj _ _ _ $a)
|`(#[Zp,$a])=>`(@Zp _ _ _ _ $a)
|`(#[Zby,$a,$b,$c])=>`(@Zby _ _ _ _ _ _ _ _ $a $b $c)
|`(#[Zo,$a,$b,$c,$d])=>`(@Zo _ _ _ _ _ _ _ _ $a $b $c $d)
|`(#[Zk,$a,$b,$c,$d,$e])=>`(@Zk _ _ _ _ _ _ _ _ _ $a $b $c $d $e (by decide) (by decide) (by rfl) (by rfl))
|`(#[Za,$a,$b])=>`(@Za _ _ _ _ _ $a $b (by rfl))
|`(#[Ze])=>`(@Ze _)
|`(#[ZA,$a,$b,$c])=>`(@ZA _ _ _ _ _ _ _ $a $b $c (fun _ _=>rfl))
|`(#[Zah,$a])=>`(@Zah _ _ _ _ $a)
|`(#[ZQ,$a,$b,$c,$d,$e])=>`(@ZQ _ _ _ _ _ _ _ _ _ $a $b $c $d $e (by decide) (by decide) (by rfl) (by rfl))
|`(#[ZcF,$a,$b,$c])=>`(@ZcF _ _ _ _ _ _ _ _ $a $b $c (Zt _))
|`(#[Zbs,$a,$b])=>`(@Zbs _ _ _ _ _ _ $a $b (by rfl) (by rfl) (by rfl))
|`(#[ZdU,$a,$b,$c])=>`(@ZdU _ _ _ _ _ _ _ $a $b $c (by intro _;rfl))
|`(#[Zag,$a,$b,$c])=>`(@Zag _ _ _ _ _ _ _ _ $a $b $c)
|`(#[ZD])=>`(@ZD _)
|`(#[Zz,$a,$b,$c,$d])=>`(@Zz _ _ _ _ _ _ _ _ _ _ _ $a $b $c (by trivial) $d (by decide) (by rfl) (by rfl))
|`(#[Zbl])=>`(@Zbl _ _ _ _)
|`(#[ZaE,$a,$b,$c,$d,$e])=>`(@ZaE _ _ _ _ _ _ _ _ _ _ _ _ _ _ $a rfl rfl rfl $b $c $d $e (by intro _;rfl))
|`(#[Zbd,$a,$b])=>`(@Zbd _ _ _ _ _ _ rfl $a $b (by rfl))
|`(#[pv,$a,$b])=>`(@pv _ $a _ _ (by rfl) $b (by decide) (by decide))
|`(#[cg,$a,$b])=>`(@cg _ _ _ _ _ _ _ _ _ _ _ $a $b rfl (by ac_rfl) (by rfl))
|`(#[cv,$a,$b])=>`(@cv _ _ _ _ _ _ _ _ _ _ _ $a $b rfl (by ac_rfl) (by rfl) (by decide) (by decide))
|`(#[ZbK,$a,$b,$c,$d,$e,$f])=>`(@ZbK _ _ _ _ _ _ _ _ _ _ _ _ $a $b $c $d $e $f (by rfl) (by rfl) (by rfl) (by rfl) (by rfl))
|`(#[ZeH,$a,$b])=>`(@ZeH _ _ _ _ _ _ _ $a $b)
|`(#[ZdM,$a])=>`(@ZdM _ _ _ $a (by intro _;rfl))
|`(#[Za1,$a])=>`(@Za1 _ _ _ _ _ $a)
|`(#[ZbF,$a,$b])=>`(@ZbF _ _ _ _ $a $b (by rfl) (by decide) (by decide))
|`(#[Zex,$a,$b])=>`(@Zex _ _ _ _ _ _ _ $a $b)
|`(#[gT,$a,$b,$c])=>`(@gT _ $a _ _ _ $b _ $c (by rfl) (by rfl) (by rfl) (by rfl))
|`(#[Zy,$a,$b])=>`(@Zy _ _ _ _ _ $a $b (by rfl))
|`(#[cw,$a,$b])=>`(@cw _ _ _ _ _ _ _ _ _ _ _ $a $b rfl (by ac_rfl) (by rfl) (by decide) (by decide))
|`(#[Zay])=>`(@Zay _ _ _)
|`(#[Zcf,$a,$b,$c,$d])=>`(@Zcf _ _ _ _ _ _ _ _ $a rfl $b $c $d (by intro _;rfl))
|`(#[iE,$a,$b,$c])=>`(@iE _ $a _ _ _ _ _ _ _ $b $c (by rfl) (by rfl) (by rfl))
|`(#[ZN,$a,$b])=>`(@ZN _ _ $a _ $b rfl (Or.inl rfl) (by trivial))
|`(#[Zam,$a])=>`(@Zam _ _ _ _ $a (by rfl))
|`(#[Zc4,$a,$b,$c,$d])=>`(@Zc4 _ _ _ _ _ _ _ _ _ _ $a $b $c $d)
|`(#[Zaa,$a])=>`(@Zaa _ _ _ _ _ $a (by rfl))
|`(#[ZcN,$a,$b,$c,$d])=>`(@ZcN _ _ _ _ _ _ _ _ _ _ _ _ $a $b $c $d (by trivial) (by rfl))
|`(#[ZbG,$a,$b])=>`(@ZbG _ _ _ _ _ _ _ _ $a $b (by rfl))
|`(#[ZeS,$a,$b,$c,$d,$e])=>`(@ZeS _ _ _ _ _ _ _ _ _ _ _ _ _ _ _ $a $b $c $d $e (by trivial) (by rfl) (by rfl) (by rfl))
|`(#[ZoQ,$a,$b,$c])=>`(@ZoQ _ _ _ _ _ _ _ _ _ _ _ _ $a $b $c (by trivial) (by rfl) (by decide) (by rfl) (by rfl))
|`(#[iL,$a,$b])=>`(@iL _ $a _ _ _ $b (by rfl))
|`(#[neD,$a,$b])=>`(@neD _ $a _ $b (by rfl))
|`(#[ZcM,$a,$b,$c,$d,$e,$f,$g])=>`(@ZcM _ _ _ _ _ $a _ _ _ _ _ _ _ _ _ _ _ _ $b rfl (Or.inl rfl) $c rfl rfl rfl $d $e $f $g (by rfl) (by intro _;rfl) (by trivial))
def hdS:List Stmt→Stmt
 | a::_=>a
 | []=>.Pass ⟨0,0,0,0⟩
abbrev Z7:List Stmt:=PySem.Challenge.pw_mergetree_k46_runs_merged_by_a_tree.main.body
abbrev Znz:Stmt:=hdS (Zt8 (Zt4 (Ztl Z7)))
abbrev Zf3:Stmt:=hdS (Zt8 (Zt4 (Zt2 Z7)))
abbrev Zff:Stmt:=hdS (Zt16 (Zt2 (Ztl Z7)))
abbrev Z5:Stmt:=hdS (Zt16 (Zt4 Z7))
abbrev Zrw:Stmt:=hdS Z7
abbrev Zbi:Stmt:=hdS (Zt2 Z7)
abbrev Zdi:Stmt:=hdS (Zt4 Z7)
abbrev Zc7:Stmt:=hdS (Zt4 (Ztl Z7))
abbrev Za4:Stmt:=hdS (Zt4 (Zt2 Z7))
abbrev Za3:Stmt:=hdS (Zt4 (Zt2 (Ztl Z7)))
abbrev Zbx:Stmt:=hdS (Zt8 Z7)
abbrev Zck:Stmt:=hdS (Zt8 (Zt2 Z7))
abbrev ZcB:Stmt:=hdS (Zt8 (Zt2 (Ztl Z7)))
abbrev ZaR:Stmt:=hdS (Zt16 Z7)
abbrev Zcl:Stmt:=hdS (Zt16 (Ztl Z7))
abbrev ZaM:Stmt:=hdS (Zt16 (Zt4 (Ztl Z7)))
abbrev Za6:Stmt:=hdS (Zt16 (Zt4 (Zt2 Z7)))
abbrev ZbS:Stmt:=hdS (Zt16 (Zt8 Z7))
abbrev Zbc:Stmt:=hdS (Zt16 (Zt8 (Ztl Z7)))
abbrev Zav:Stmt:=hdS (Zt16 (Zt8 (Zt2 (Ztl Z7))))
abbrev ZcZ:Stmt:=hdS (Zt16 (Zt8 (Zt4 (Ztl Z7))))
abbrev Zcg:Stmt:=hdS (Zt16 (Zt8 (Zt4 (Zt2 Z7))))
abbrev Zcp:Stmt:=hdS (Zt16 (Zt8 (Zt4 (Zt2 (Ztl Z7)))))
abbrev Zbt:Stmt:=hdS (Zt32 Z7)
abbrev Zch:Stmt:=hdS (Zt32 (Ztl Z7))
abbrev ZbD:Stmt:=hdS (Zt32 (Zt2 Z7))
abbrev Zcr:Stmt:=hdS (Zt32 (Zt2 (Ztl Z7)))
abbrev Zar:Stmt:=hdS (Zt32 (Zt4 Z7))
abbrev Zax:Stmt:=hdS (Zt32 (Zt4 (Ztl Z7)))
abbrev Zco:Stmt:=hdS (Zt32 (Zt4 (Zt2 Z7)))
abbrev Z1:Stmt:=hdS (Zt32 (Zt4 (Zt2 (Ztl Z7))))
abbrev Zba:Stmt:=hdS (Zt32 (Zt8 Z7))
abbrev ZbU:Stmt:=hdS (Zt32 (Zt8 (Ztl Z7)))
abbrev Za7:Stmt:=hdS (Zt32 (Zt8 (Zt2 Z7)))
abbrev Zaq:Stmt:=hdS (Zt32 (Zt8 (Zt2 (Ztl Z7))))
abbrev Zce:Stmt:=hdS (Zt32 (Zt8 (Zt4 Z7)))
abbrev ZiN:Stmt:=ZS Zf3 0
abbrev ZaS:Stmt:=ZS Zff 0
abbrev ZnC:Stmt:=ZS Zff 1
abbrev ZaI:Stmt:=ZS Zff 2
abbrev ZaU:Stmt:=ZS Zff 3
abbrev Zlu:Stmt:=ZS Zff 4
abbrev ZaC:Stmt:=ZS Z5 0
abbrev Zad:Stmt:=ZS Z5 1
abbrev Zaz:Stmt:=ZS Z5 2
abbrev ZY:Stmt:=ZS Z5 3
abbrev ZnA:Stmt:=ZS Z5 4
abbrev Znd:Stmt:=ZS Z5 5
abbrev ZiU:Stmt:=ZS Z5 6
abbrev ZaH:Stmt:=ZS Z5 7
abbrev ZnD:Stmt:=ZS Z5 8
abbrev ZkF:Stmt:=ZS Z5 9
abbrev Zjw:Stmt:=ZS Z5 10
abbrev ZnB:Stmt:=ZS Z5 11
abbrev Zlv:Stmt:=ZS Z5 12
abbrev ZZ:Stmt:=ZS Z5 13
abbrev ZaA:Stmt:=ZS Z5 14
abbrev ZX:Stmt:=ZS Z5 15
abbrev ZM:Stmt:=ZS Z5 16
abbrev Zaw:Stmt:=ZS Z5 17
theorem ZhH:Zr ["_law_cell", "_law_k", "_law_m"] ["_law_cell", "_law_k"] (Zg ZcZ):=⟨rfl,rfl,rfl,by ac_rfl,rfl,by ac_rfl,by ac_rfl⟩
theorem Zgw:Zr ["_law_script", "_law_k", "_law_cell"] ["_law_script", "_law_k"] (Zg Zcg):=⟨rfl,rfl,rfl,by ac_rfl,rfl,by ac_rfl,by ac_rfl⟩
theorem ZgO:Zr ["_law_left_here", "_law_many", "_law_digit"] ["_law_left_here", "_law_many"] (Zg Zcp):=⟨rfl,rfl,rfl,by ac_rfl,rfl,by ac_rfl,by ac_rfl⟩
theorem Zfk:Zr ["_law_left_here", "_law_some"] ["_law_left_here"] (Zg Zbt):=⟨rfl,rfl,rfl,by ac_rfl,rfl,by ac_rfl,by ac_rfl⟩
theorem ZhQ:Zr ["_law_left_here", "_law_stems_here", "_law_tail"] ["_law_left_here", "_law_stems_here"] (Zg Zch):=⟨rfl,rfl,rfl,by ac_rfl,rfl,by ac_rfl,by ac_rfl⟩
theorem Zcc:Zr ["one", "other", "far", "at"] ["one", "other", "far"] (Zg Za3):=⟨rfl,rfl,rfl,by ac_rfl,rfl,by ac_rfl,by ac_rfl⟩
theorem ZlV:Zr ["one", "other"] ["one", "other"] (Zg Zdi):=⟨rfl,rfl,rfl,by ac_rfl,rfl,by ac_rfl,by ac_rfl⟩
theorem ZgW:Zr ["_law_found", "_law_due"] ["_law_found", "_law_due"] (Zg ZbU):=⟨rfl,rfl,rfl,by ac_rfl,rfl,by ac_rfl,by ac_rfl⟩
theorem Zdw:Zr ["row", "told", "place", "key"] ["row"] (Zg Zcl):=⟨rfl,rfl,rfl,by ac_rfl,rfl,by ac_rfl,by ac_rfl⟩
theorem ZhF:Zr ["one", "other", "at"] ["one", "other", "at"] (Zg Zbx):=⟨rfl,rfl,rfl,by ac_rfl,rfl,by ac_rfl,by ac_rfl⟩
theorem Zm2:Zr ["one", "other"] ["one", "other"] (Zg Zc7):=⟨rfl,rfl,rfl,by ac_rfl,rfl,by ac_rfl,by ac_rfl⟩
theorem ZdI:Zr ["one", "other", "far", "at"] ["one", "other", "far"] (Zg Za4):=⟨rfl,rfl,rfl,by ac_rfl,rfl,by ac_rfl,by ac_rfl⟩
theorem ZcW:Zr ["keys", "place"] ["keys"] (Zg ZaR):=⟨rfl,rfl,rfl,by ac_rfl,rfl,by ac_rfl,by ac_rfl⟩
theorem Zgt:Zr ["numbers", "middle"] ["numbers"] (Zg Zck):=⟨rfl,rfl,rfl,by ac_rfl,rfl,by ac_rfl,by ac_rfl⟩
theorem Zhs:Zr ["self"] ["self"] (Zg ZaI):=⟨rfl,rfl,rfl,by ac_rfl,rfl,by ac_rfl,by ac_rfl⟩
theorem Zh5:Zr ["self"] ["self"] (Zg ZaU):=⟨rfl,rfl,rfl,by ac_rfl,rfl,by ac_rfl,by ac_rfl⟩
theorem Zh9:Zr ["self", "keys"] ["self", "keys"] (Zg ZaS):=⟨rfl,rfl,rfl,by ac_rfl,rfl,by ac_rfl,by ac_rfl⟩
theorem Zca:Zr ["self", "rows", "number", "keys"] ["self", "rows"] (Zg ZaC):=⟨rfl,rfl,rfl,by ac_rfl,rfl,by ac_rfl,by ac_rfl⟩
theorem ZcQ:Zr ["self", "row"] ["self"] (Zg Zad):=⟨rfl,rfl,rfl,by ac_rfl,rfl,by ac_rfl,by ac_rfl⟩
theorem Zd1:Zr ["self"] ["self"] (Zg ZZ):=⟨rfl,rfl,rfl,by ac_rfl,rfl,by ac_rfl,by ac_rfl⟩
theorem Z9:Zr ["self", "numbers", "first_side", "other_side", "one", "other", "winner", "loser", "far"] ["self", "numbers"] (Zg ZaA):=⟨rfl,rfl,rfl,by ac_rfl,rfl,by ac_rfl,by ac_rfl⟩
theorem Zbv:Zr ["self", "one", "other", "far", "order", "alike_far", "seen"] ["self", "one", "other", "far"] (Zg Zaw):=⟨rfl,rfl,rfl,by ac_rfl,rfl,by ac_rfl,by ac_rfl⟩
theorem ZcR:Zr ["number", "keys", "place"] ["number", "keys"] (Zg ZaM):=⟨rfl,rfl,rfl,by ac_rfl,rfl,by ac_rfl,by ac_rfl⟩
theorem ZdJ:Zr ["self", "thing"] ["self"] (Zg Zaz):=⟨rfl,rfl,rfl,by ac_rfl,rfl,by ac_rfl,by ac_rfl⟩
theorem Zb4:Zr ["self", "many", "things"] ["self", "many"] (Zg ZY):=⟨rfl,rfl,rfl,by ac_rfl,rfl,by ac_rfl,by ac_rfl⟩
theorem Zas:Zr ["self", "number", "row", "comer", "meeting"] ["self", "number"] (Zg ZX):=⟨rfl,rfl,rfl,by ac_rfl,rfl,by ac_rfl,by ac_rfl⟩
theorem Zaf:Zr ["self", "meeting", "comer", "stayer", "winner", "loser", "far"] ["self", "meeting", "comer"] (Zg ZM):=⟨rfl,rfl,rfl,by ac_rfl,rfl,by ac_rfl,by ac_rfl⟩
theorem ZaB:Zr ["numbers", "n", "matches", "least", "greatest", "others"] ["numbers", "n"] (Zg Za6):=⟨rfl,rfl,rfl,by ac_rfl,rfl,by ac_rfl,by ac_rfl⟩
theorem Zbq:Zr ["numbers", "n", "others", "side", "first", "rest"] ["numbers", "n"] (Zg ZcB):=⟨rfl,rfl,rfl,by ac_rfl,rfl,by ac_rfl,by ac_rfl⟩
theorem Ziy:Zr ["rows"] ["rows"] (Zg Zbc):=⟨rfl,rfl,rfl,by ac_rfl,rfl,by ac_rfl,by ac_rfl⟩
theorem Zkp:Zr ["rows"] ["rows"] (Zg ZbS):=⟨rfl,rfl,rfl,by ac_rfl,rfl,by ac_rfl,by ac_rfl⟩
theorem Zat:Zr ["_law_left_here", "_law_stems_here", "_law_many", "_law_found", "_law_k", "_law_key_here", "_law_way", "_law_cut"] ["_law_left_here"] (Zg ZbD):=⟨rfl,rfl,rfl,by ac_rfl,rfl,by ac_rfl,by ac_rfl⟩
theorem Zln:Zr ["_law_left_here"] ["_law_left_here"] (Zg Zcr):=⟨rfl,rfl,rfl,by ac_rfl,rfl,by ac_rfl,by ac_rfl⟩
theorem Z0:Zr ["_law_things_here", "_law_room_here", "_law_here", "_law_came", "_law_found", "_law_later", "_law_gone", "_law_number"] ["_law_things_here", "_law_room_here"] (Zg Zar):=⟨rfl,rfl,rfl,by ac_rfl,rfl,by ac_rfl,by ac_rfl⟩
theorem Zga:Zr ["_law_things_here"] ["_law_things_here"] (Zg Zax):=⟨rfl,rfl,rfl,by ac_rfl,rfl,by ac_rfl,by ac_rfl⟩
theorem Zhh:Zr ["thing"] ["thing"] (Zg Zbi):=⟨rfl,rfl,rfl,by ac_rfl,rfl,by ac_rfl,by ac_rfl⟩
theorem ZbP:Zr ["things", "runs", "tree", "parts", "rows"] ["things", "runs", "tree"] (Zg Zav):=⟨rfl,rfl,rfl,by ac_rfl,rfl,by ac_rfl,by ac_rfl⟩
theorem Zdq:Zr ["_law_left_here", "_law_begin", "_law_end", "_law_ways", "_law_found", "_law_many", "_law_at"] ["_law_left_here", "_law_begin", "_law_end", "_law_ways"] (Zg Zco):=⟨rfl,rfl,rfl,by ac_rfl,rfl,by ac_rfl,by ac_rfl⟩
theorem ZaN:Zr ["_law_things_here", "_law_parts", "_law_left_over", "_law_found", "_law_turn", "_law_fronts"] ["_law_things_here", "_law_parts"] (Zg Z1):=⟨rfl,rfl,rfl,by ac_rfl,rfl,by ac_rfl,by ac_rfl⟩
theorem ZeU:Zr ["_law_things_here", "_law_lists_here", "_law_tree_here"] ["_law_things_here", "_law_lists_here", "_law_tree_here"] (Zg Zba):=⟨rfl,rfl,rfl,by ac_rfl,rfl,by ac_rfl,by ac_rfl⟩
theorem ZdW:Zr ["_law_left_here", "_law_things_here", "_law_found", "_law_number"] ["_law_left_here", "_law_things_here"] (Zg Za7):=⟨rfl,rfl,rfl,by ac_rfl,rfl,by ac_rfl,by ac_rfl⟩
theorem ZcP:Zr ["_law_tree_here", "_law_names"] ["_law_tree_here", "_law_names"] (Zg Zaq):=⟨rfl,rfl,rfl,by ac_rfl,rfl,by ac_rfl,by ac_rfl⟩
theorem Zbp:Zr ["_law_script", "_law_k", "_law_left_here", "_law_things_here", "_law_lists_here", "_law_tree_here", "_law_names", "_law_kept", "_law_due", "_law_turn", "_law_found"] ["_law_script"] (Zg Zce):=⟨rfl,rfl,rfl,by ac_rfl,rfl,by ac_rfl,by ac_rfl⟩
def Zoo:Scope:={ kind:=.function,names:=[(Str.ofString ".0",.«local»),(Str.ofString "_law_k",.«local»),(Str.ofString "_law_pick",.globalImplicit),(Str.ofString "_law_left_here",.free),(Str.ofString "_law_some",.free)],isGenerator:=false,isCoroutine:=false,more:=[] }
theorem Zlw:ZK ["_law_left_here", "_law_some"] ["_law_left_here", "_law_some", "_law_k"] (Zg Zbt) Zoo:=⟨rfl,rfl,by ac_rfl,by ac_rfl,by ac_rfl,by decide,by ac_rfl,by ac_rfl⟩
def ZqT:Scope:={ kind:=.function,names:=[(Str.ofString ".0",.«local»),(Str.ofString "_law_k",.«local»),(Str.ofString "_law_pick",.globalImplicit),(Str.ofString "_law_left_here",.cell),(Str.ofString "_law_some",.cell)],isGenerator:=false,isCoroutine:=false,more:=[] }
def Zn7:Scope:={ kind:=.function,names:=[(Str.ofString ".0",.«local»),(Str.ofString "_law_k",.«local»),(Str.ofString "_law_pick",.globalImplicit),(Str.ofString "_law_left_here",.free)],isGenerator:=false,isCoroutine:=false,more:=[] }
theorem Zov:ZK ["_law_left_here", "_law_stems_here", "_law_tail"] ["_law_left_here", "_law_stems_here", "_law_tail", "_law_k"] (Zg Zch) Zn7:=⟨rfl,rfl,by ac_rfl,by ac_rfl,by ac_rfl,by decide,by ac_rfl,by ac_rfl⟩
def Zrl:Scope:={ kind:=.function,names:=[(Str.ofString ".0",.«local»),(Str.ofString "_law_k",.«local»),(Str.ofString "_law_pick",.globalImplicit),(Str.ofString "_law_left_here",.cell)],isGenerator:=false,isCoroutine:=false,more:=[] }
def Zor:Scope:={ kind:=.function,names:=[(Str.ofString ".0",.«local»),(Str.ofString "_law_one",.«local»),(Str.ofString "_law_other",.«local»),(Str.ofString "_law_same",.globalImplicit)],isGenerator:=false,isCoroutine:=false,more:=[] }
theorem Zk8:ZK ["_law_found", "_law_due"] ["_law_found", "_law_due", "_law_one", "_law_other"] (Zg ZbU) Zor:=⟨rfl,rfl,by ac_rfl,by ac_rfl,by ac_rfl,by decide,by ac_rfl,by ac_rfl⟩
def ZqL:Scope:={ kind:=.function,names:=[(Str.ofString ".0",.«local»),(Str.ofString "_law_one",.«local»),(Str.ofString "_law_other",.«local»),(Str.ofString "_law_same",.globalImplicit)],isGenerator:=false,isCoroutine:=false,more:=[] }
def ZoI:Scope:={ kind:=.function,names:=[(Str.ofString ".0",.«local»),(Str.ofString "row",.«local»),(Str.ofString "len",.globalImplicit)],isGenerator:=false,isCoroutine:=false,more:=[] }
theorem ZnZ:ZK ["rows"] ["rows", "row"] (Zg Zbc) ZoI:=⟨rfl,rfl,by ac_rfl,by ac_rfl,by ac_rfl,by decide,by ac_rfl,by ac_rfl⟩
def Zrj:Scope:={ kind:=.function,names:=[(Str.ofString ".0",.«local»),(Str.ofString "row",.«local»),(Str.ofString "len",.globalImplicit)],isGenerator:=false,isCoroutine:=false,more:=[] }
def ZnK:Scope:={ kind:=.function,names:=[(Str.ofString ".0",.«local»),(Str.ofString "row",.«local»),(Str.ofString "place",.«local»),(Str.ofString "key",.«local»)],isGenerator:=false,isCoroutine:=false,more:=[] }
theorem Zli:ZK ["rows"] ["rows", "row", "place", "key"] (Zg ZbS) ZnK:=⟨rfl,rfl,by ac_rfl,by ac_rfl,by ac_rfl,by decide,by ac_rfl,by ac_rfl⟩
def Zrz:Scope:={ kind:=.function,names:=[(Str.ofString ".0",.«local»),(Str.ofString "row",.«local»),(Str.ofString "place",.«local»),(Str.ofString "key",.«local»)],isGenerator:=false,isCoroutine:=false,more:=[] }
def Zof:Scope:={ kind:=.function,names:=[(Str.ofString ".0",.«local»),(Str.ofString "_law_one",.«local»),(Str.ofString "_law_things_here",.free)],isGenerator:=false,isCoroutine:=false,more:=[] }
theorem ZlF:ZK ["_law_things_here", "_law_room_here", "_law_here", "_law_came", "_law_found", "_law_later", "_law_gone", "_law_number"] ["_law_things_here", "_law_room_here", "_law_here", "_law_came", "_law_found", "_law_later", "_law_gone", "_law_number", "_law_one"] (Zg Zar) Zof:=⟨rfl,rfl,by ac_rfl,by ac_rfl,by ac_rfl,by decide,by ac_rfl,by ac_rfl⟩
def Zrm:Scope:={ kind:=.function,names:=[(Str.ofString ".0",.«local»),(Str.ofString "_law_one",.«local»),(Str.ofString "_law_things_here",.cell)],isGenerator:=false,isCoroutine:=false,more:=[] }
def Zon:Scope:={ kind:=.function,names:=[(Str.ofString ".0",.«local»),(Str.ofString "_law_key_here",.«local»),(Str.ofString "_law_number",.«local»)],isGenerator:=false,isCoroutine:=false,more:=[] }
theorem ZnF:ZK ["_law_things_here"] ["_law_things_here", "_law_key_here", "_law_number"] (Zg Zax) Zon:=⟨rfl,rfl,by ac_rfl,by ac_rfl,by ac_rfl,by decide,by ac_rfl,by ac_rfl⟩
def ZqS:Scope:={ kind:=.function,names:=[(Str.ofString ".0",.«local»),(Str.ofString "_law_key_here",.«local»),(Str.ofString "_law_number",.«local»)],isGenerator:=false,isCoroutine:=false,more:=[] }
def Zom:Scope:={ kind:=.function,names:=[(Str.ofString ".0",.«local»),(Str.ofString "_law_number",.«local»),(Str.ofString "_law_key_here",.«local»)],isGenerator:=false,isCoroutine:=false,more:=[] }
theorem Zmm:ZK ["_law_things_here"] ["_law_things_here", "_law_number", "_law_key_here"] (Zg Zax) Zom:=⟨rfl,rfl,by ac_rfl,by ac_rfl,by ac_rfl,by decide,by ac_rfl,by ac_rfl⟩
def ZrJ:Scope:={ kind:=.function,names:=[(Str.ofString ".0",.«local»),(Str.ofString "_law_number",.«local»),(Str.ofString "_law_key_here",.«local»)],isGenerator:=false,isCoroutine:=false,more:=[] }
def Zox:Scope:={ kind:=.function,names:=[(Str.ofString ".0",.«local»),(Str.ofString "part",.«local»),(Str.ofString "merged_by",.globalImplicit),(Str.ofString "runs",.free),(Str.ofString "things",.free)],isGenerator:=false,isCoroutine:=false,more:=[] }
theorem Zlt:ZK ["things", "runs", "tree", "parts", "rows"] ["things", "runs", "tree", "parts", "rows", "part"] (Zg Zav) Zox:=⟨rfl,rfl,by ac_rfl,by ac_rfl,by ac_rfl,by decide,by ac_rfl,by ac_rfl⟩
def ZrG:Scope:={ kind:=.function,names:=[(Str.ofString ".0",.«local»),(Str.ofString "part",.«local»),(Str.ofString "merged_by",.globalImplicit),(Str.ofString "runs",.cell),(Str.ofString "things",.cell)],isGenerator:=false,isCoroutine:=false,more:=[] }
def Zoi:Scope:={ kind:=.function,names:=[(Str.ofString ".0",.«local»),(Str.ofString "part",.«local»),(Str.ofString "things",.free)],isGenerator:=false,isCoroutine:=false,more:=[] }
theorem Zqo:ZK ["things", "runs", "tree", "parts", "rows"] ["things", "runs", "tree", "parts", "rows", "part"] (Zg Zav) Zoi:=⟨rfl,rfl,by ac_rfl,by ac_rfl,by ac_rfl,by decide,by ac_rfl,by ac_rfl⟩
def ZlS:Scope:={ kind:=.function,names:=[(Str.ofString ".0",.«local»),(Str.ofString "part",.«local»),(Str.ofString "things",.cell)],isGenerator:=false,isCoroutine:=false,more:=[] }
def ZmC:Scope:={ kind:=.function,names:=[(Str.ofString ".0",.«local»),(Str.ofString "number",.«local»),(Str.ofString "things",.free)],isGenerator:=false,isCoroutine:=false,more:=[] }
theorem ZjN:ZK ["things", "runs", "tree", "parts", "rows", "part"] ["things", "runs", "tree", "parts", "rows", "part", "number"] ZlS ZmC:=⟨rfl,rfl,by ac_rfl,by ac_rfl,by ac_rfl,by decide,by ac_rfl,by ac_rfl⟩
def ZqC:Scope:={ kind:=.function,names:=[(Str.ofString ".0",.«local»),(Str.ofString "number",.«local»),(Str.ofString "things",.cell)],isGenerator:=false,isCoroutine:=false,more:=[] }
def Zlx:Scope:={ kind:=.function,names:=[(Str.ofString ".0",.«local»),(Str.ofString "part",.«local»),(Str.ofString "place",.«local»),(Str.ofString "parts",.free)],isGenerator:=false,isCoroutine:=false,more:=[] }
theorem ZgG:ZK ["things", "runs", "tree", "parts", "rows"] ["things", "runs", "tree", "parts", "rows", "part", "place"] (Zg Zav) Zlx:=⟨rfl,rfl,by ac_rfl,by ac_rfl,by ac_rfl,by decide,by ac_rfl,by ac_rfl⟩
def ZqE:Scope:={ kind:=.function,names:=[(Str.ofString ".0",.«local»),(Str.ofString "part",.«local»),(Str.ofString "place",.«local»),(Str.ofString "parts",.cell)],isGenerator:=false,isCoroutine:=false,more:=[] }
def Zl4:Scope:={ kind:=.function,names:=[(Str.ofString ".0",.«local»),(Str.ofString "_law_part",.«local»),(Str.ofString "list",.globalImplicit)],isGenerator:=false,isCoroutine:=false,more:=[] }
theorem Zjx:ZK ["_law_things_here", "_law_parts", "_law_left_over", "_law_found", "_law_turn", "_law_fronts"] ["_law_things_here", "_law_parts", "_law_left_over", "_law_found", "_law_turn", "_law_fronts", "_law_part"] (Zg Z1) Zl4:=⟨rfl,rfl,by ac_rfl,by ac_rfl,by ac_rfl,by decide,by ac_rfl,by ac_rfl⟩
def ZqI:Scope:={ kind:=.function,names:=[(Str.ofString ".0",.«local»),(Str.ofString "_law_part",.«local»),(Str.ofString "list",.globalImplicit)],isGenerator:=false,isCoroutine:=false,more:=[] }
def Zl9:Scope:={ kind:=.function,names:=[(Str.ofString ".0",.«local»),(Str.ofString "_law_part",.«local»),(Str.ofString "len",.globalImplicit)],isGenerator:=false,isCoroutine:=false,more:=[] }
theorem ZjH:ZK ["_law_things_here", "_law_parts", "_law_left_over", "_law_found", "_law_turn", "_law_fronts"] ["_law_things_here", "_law_parts", "_law_left_over", "_law_found", "_law_turn", "_law_fronts", "_law_part"] (Zg Z1) Zl9:=⟨rfl,rfl,by ac_rfl,by ac_rfl,by ac_rfl,by decide,by ac_rfl,by ac_rfl⟩
def ZqG:Scope:={ kind:=.function,names:=[(Str.ofString ".0",.«local»),(Str.ofString "_law_part",.«local»),(Str.ofString "len",.globalImplicit)],isGenerator:=false,isCoroutine:=false,more:=[] }
def ZmK:Scope:={ kind:=.function,names:=[(Str.ofString ".0",.«local»),(Str.ofString "_law_place",.«local»),(Str.ofString "_law_part",.«local»),(Str.ofString "_law_things_here",.free)],isGenerator:=false,isCoroutine:=false,more:=[] }
theorem ZfT:ZK ["_law_things_here", "_law_parts", "_law_left_over", "_law_found", "_law_turn", "_law_fronts"] ["_law_things_here", "_law_parts", "_law_left_over", "_law_found", "_law_turn", "_law_fronts", "_law_place", "_law_part"] (Zg Z1) ZmK:=⟨rfl,rfl,by ac_rfl,by ac_rfl,by ac_rfl,by decide,by ac_rfl,by ac_rfl⟩
def ZqF:Scope:={ kind:=.function,names:=[(Str.ofString ".0",.«local»),(Str.ofString "_law_place",.«local»),(Str.ofString "_law_part",.«local»),(Str.ofString "_law_things_here",.cell)],isGenerator:=false,isCoroutine:=false,more:=[] }
def ZmD:Scope:={ kind:=.function,names:=[(Str.ofString ".0",.«local»),(Str.ofString "_law_part",.«local»),(Str.ofString "_law_put_by",.globalImplicit),(Str.ofString "_law_lists_here",.free),(Str.ofString "_law_things_here",.free)],isGenerator:=false,isCoroutine:=false,more:=[] }
theorem ZgH:ZK ["_law_things_here", "_law_lists_here", "_law_tree_here"] ["_law_things_here", "_law_lists_here", "_law_tree_here", "_law_part"] (Zg Zba) ZmD:=⟨rfl,rfl,by ac_rfl,by ac_rfl,by ac_rfl,by decide,by ac_rfl,by ac_rfl⟩
def ZqH:Scope:={ kind:=.function,names:=[(Str.ofString ".0",.«local»),(Str.ofString "_law_part",.«local»),(Str.ofString "_law_put_by",.globalImplicit),(Str.ofString "_law_lists_here",.cell),(Str.ofString "_law_things_here",.cell)],isGenerator:=false,isCoroutine:=false,more:=[] }
def Znt:Scope:={ kind:=.function,names:=[(Str.ofString ".0",.«local»),(Str.ofString "_law_part",.«local»)],isGenerator:=false,isCoroutine:=false,more:=[] }
theorem Zo0:ZK ["_law_left_here", "_law_things_here", "_law_found", "_law_number"] ["_law_left_here", "_law_things_here", "_law_found", "_law_number", "_law_part"] (Zg Za7) Znt:=⟨rfl,rfl,by ac_rfl,by ac_rfl,by ac_rfl,by decide,by ac_rfl,by ac_rfl⟩
def ZqA:Scope:={ kind:=.function,names:=[(Str.ofString ".0",.«local»),(Str.ofString "_law_part",.«local»)],isGenerator:=false,isCoroutine:=false,more:=[] }
def Zmp:Scope:={ kind:=.function,names:=[(Str.ofString ".0",.«local»),(Str.ofString "_law_part",.«local»)],isGenerator:=false,isCoroutine:=false,more:=[] }
theorem ZjQ:ZK ["_law_left_here", "_law_things_here", "_law_found", "_law_number"] ["_law_left_here", "_law_things_here", "_law_found", "_law_number", "_law_part"] (Zg Za7) Zmp:=⟨rfl,rfl,by ac_rfl,by ac_rfl,by ac_rfl,by decide,by ac_rfl,by ac_rfl⟩
def ZqJ:Scope:={ kind:=.function,names:=[(Str.ofString ".0",.«local»),(Str.ofString "_law_part",.«local»)],isGenerator:=false,isCoroutine:=false,more:=[] }
def Znp:Scope:={ kind:=.function,names:=[(Str.ofString ".0",.«local»),(Str.ofString "_law_part",.«local»),(Str.ofString "_law_renumbered",.globalImplicit),(Str.ofString "_law_names",.free)],isGenerator:=false,isCoroutine:=false,more:=[] }
theorem ZiF:ZK ["_law_tree_here", "_law_names"] ["_law_tree_here", "_law_names", "_law_part"] (Zg Zaq) Znp:=⟨rfl,rfl,by ac_rfl,by ac_rfl,by ac_rfl,by decide,by ac_rfl,by ac_rfl⟩
def ZqB:Scope:={ kind:=.function,names:=[(Str.ofString ".0",.«local»),(Str.ofString "_law_part",.«local»),(Str.ofString "_law_renumbered",.globalImplicit),(Str.ofString "_law_names",.cell)],isGenerator:=false,isCoroutine:=false,more:=[] }
def Zno:Scope:={ kind:=.function,names:=[(Str.ofString ".0",.«local»),(Str.ofString "_law_turn",.«local»),(Str.ofString "_law_pick",.globalImplicit),(Str.ofString "len",.globalImplicit),(Str.ofString "_law_left_here",.free),(Str.ofString "_law_names",.free)],isGenerator:=false,isCoroutine:=false,more:=[] }
theorem ZfE:ZK ["_law_script", "_law_k", "_law_left_here", "_law_things_here", "_law_lists_here", "_law_tree_here", "_law_names", "_law_kept", "_law_due", "_law_turn", "_law_found"] ["_law_script", "_law_k", "_law_left_here", "_law_things_here", "_law_lists_here", "_law_tree_here", "_law_names", "_law_kept", "_law_due", "?_law_turn", "_law_found", "_law_turn"] (Zg Zce) Zno:=⟨rfl,rfl,by ac_rfl,by ac_rfl,by ac_rfl,by decide,by ac_rfl,by ac_rfl⟩
def ZqD:Scope:={ kind:=.function,names:=[(Str.ofString ".0",.«local»),(Str.ofString "_law_turn",.«local»),(Str.ofString "_law_pick",.globalImplicit),(Str.ofString "len",.globalImplicit),(Str.ofString "_law_left_here",.cell),(Str.ofString "_law_names",.cell)],isGenerator:=false,isCoroutine:=false,more:=[] }
structure Bt (mg:Str→Option Value):Prop where
 n_abs:mg "abs" = none
 n_all:mg "all" = none
 n_bool:mg "bool" = none
 n_enumerate:mg "enumerate" = none
 n_int:mg "int" = none
 n_isinstance:mg "isinstance" = none
 n_len:mg "len" = none
 n_list:mg "list" = none
 n_max:mg "max" = none
 n_min:mg "min" = none
 n_range:mg "range" = none
 n_sorted:mg "sorted" = none
 n_str:mg "str" = none
 n_sum:mg "sum" = none
 n_tuple:mg "tuple" = none
 n_zip:mg "zip" = none
structure Zau (K:PySem.W.Frag) (mg:Str→Option Value) (cRow:Addr) (cMerge:Addr):Prop where
 b:Bt mg
 t_is_number:Top K mg "is_number" Zbi ["thing"]
 t_alike:Top K mg "alike" Zdi ["one", "other"]
 t_liken:Top K mg "liken" Zc7 ["one", "other"]
 t_liken_from:Top K mg "liken_from" Za4 ["one", "other", "far"]
 t_alike_from:Top K mg "alike_from" Za3 ["one", "other", "far"]
 t_order_at:Top K mg "order_at" Zbx ["one", "other", "at"]
 t_halves:Top K mg "halves" Zck ["numbers"]
 t_way_up:Top K mg "way_up" ZcB ["numbers", "n"]
 t_first_break:Top K mg "first_break" ZaR ["keys"]
 t_alikes:Top K mg "alikes" Zcl ["row"]
 t_refuse_break:Top K mg "refuse_break" ZaM ["number", "keys"]
 t_matches_up:Top K mg "matches_up" Za6 ["numbers", "n"]
 t_merged:Top K mg "merged" ZbS ["rows"]
 t_how_many:Top K mg "how_many" Zbc ["rows"]
 t_merged_by:Top K mg "merged_by" Zav ["things", "runs", "tree"]
 t_l_mix:Top K mg "_law_mix" ZcZ ["_law_cell", "_law_k"]
 t_l_left:Top K mg "_law_left" Zcg ["_law_script", "_law_k"]
 t_l_pick:Top K mg "_law_pick" Zcp ["_law_left_here", "_law_many"]
 t_l_stems:Top K mg "_law_stems" Zbt ["_law_left_here"]
 t_l_key:Top K mg "_law_key" Zch ["_law_left_here", "_law_stems_here"]
 t_l_things:Top K mg "_law_things" ZbD ["_law_left_here"]
 t_l_room:Top K mg "_law_room" Zcr ["_law_left_here"]
 t_l_rounds_due:Top K mg "_law_rounds_due" Zar ["_law_things_here", "_law_room_here"]
 t_l_in_order:Top K mg "_law_in_order" Zax ["_law_things_here"]
 t_l_tree:Top K mg "_law_tree" Zco ["_law_left_here", "_law_begin", "_law_end", "_law_ways"]
 t_l_put_in_one:Top K mg "_law_put_in_one" Z1 ["_law_things_here", "_law_parts"]
 t_l_put_by:Top K mg "_law_put_by" Zba ["_law_things_here", "_law_lists_here", "_law_tree_here"]
 t_l_same:Top K mg "_law_same" ZbU ["_law_found", "_law_due"]
 t_l_lists:Top K mg "_law_lists" Za7 ["_law_left_here", "_law_things_here"]
 t_l_renumbered:Top K mg "_law_renumbered" Zaq ["_law_tree_here", "_law_names"]
 t_Row_init:Zn6 K mg cRow "Row" "Row.__init__" ZaS ["self", "keys"]
 t_Row_to_go:ZeD K cRow "to_go" "Row.to_go" ZaI ["self"]
 t_Row_head:ZeD K cRow "head" "Row.head" ZaU ["self"]
 t_Merge_init:Zn6 K mg cMerge "Merge" "Merge.__init__" ZaC ["self", "rows"]
 t_Merge_coming:ZeD K cMerge "coming" "Merge.coming" Zad ["self"]
 t_Merge_take:ZeD K cMerge "take" "Merge.take" Zaz ["self"]
 t_Merge_take_few:ZeD K cMerge "take_few" "Merge.take_few" ZY ["self", "many"]
 t_Merge_looks:ZeD K cMerge "looks" "Merge.looks" ZaH ["self"]
 t_Merge_play_all:ZeD K cMerge "play_all" "Merge.play_all" ZZ ["self"]
 t_Merge_play:ZeD K cMerge "play" "Merge.play" ZaA ["self", "numbers"]
 t_Merge_send_out:ZeD K cMerge "send_out" "Merge.send_out" ZX ["self", "number"]
 t_Merge_play_again:ZeD K cMerge "play_again" "Merge.play_again" ZM ["self", "meeting", "comer"]
 t_Merge_meet:ZeD K cMerge "meet" "Merge.meet" Zaw ["self", "one", "other", "far"]
 cl_Row:Cls K cRow
 na_Row_all_keys:Za0 K cRow "all_keys"
 na_Row_fars:Za0 K cRow "fars"
 na_Row_gone:Za0 K cRow "gone"
 cl_Merge:Cls K cMerge
 na_Merge_best:Za0 K cMerge "best"
 na_Merge_likened:Za0 K cMerge "likened"
 na_Merge_looked:Za0 K cMerge "looked"
 na_Merge_next_number:Za0 K cMerge "next_number"
 na_Merge_rows:Za0 K cMerge "rows"
 na_Merge_stays:Za0 K cMerge "stays"
def Zak(H:Hp)(p:Addr)(c:Int):Prop:=∃a b:Int,H p=some (.lst [.int a,.int b,.int c])∧0≤c
def But(p:Addr)(H H':Hp):Prop:=∀b o,H b=some o→b≠p→H' b=some o
theorem But.trans{p:Addr}{H H1 H2:Hp}(a:But p H H1)(b:But p H1 H2):But p H H2:=fun c o h n=>b c o (a c o h n) n
theorem But.same{p:Addr}{H H1:Hp}(a:Zw H H1):But p H H1:=fun c o h _=>a c o h
theorem Zh{H:Hp}{p:Addr}(h:H p=none)(o:HO):Zw H (upd H p o):=fun b u q=>by rw[Zd (Zb q h)];exact q
theorem Zb5{n:Nat}(h:n≤1000):n≤sizeLine:=Nat.le_of_lt (ZH h)
def ZlP:Sp:=fun vs H Q _=>∃a k:Int,vs=[.int a,.int k] ∧ -(2 ^ 62)<k∧k<2 ^ 62∧∀r:Int,0≤r→r<2000000000→Q (.int r) H
def Znb(K:PySem.W.Frag):Sp:=fun vs H Q _=>∃ (a:Addr) (ns:List Int) (k:Int),vs=[.ref a,.int k]∧SqL K H a (ns.map V.int)∧ns.length≤63∧0≤k∧k<100 ∧
 ∀ (p:Addr) (H':Hp),H p=none→Zak H' p 0→Zw H H'→Q (.ref p) H'
def Zda:Sp:=fun vs H Q _=>∃ (p:Addr) (c m:Int),vs=[.ref p,.int m]∧Zak H p c∧c<2 ^ 60∧0<m∧m<1000000 ∧
 ∀ (r:Int) (H':Hp),0≤r→r<m→Zak H' p (c+1)→But p H H'→Q (.int r) H'
theorem Zp9{ns:List Int}{k:Int}(h0:0≤k)(h:k<(ns.length:Int)):∃v:Int,atI (ns.map V.int) k=some (.int v):=by
 have hk:k.toNat<ns.length:=by omega
 have ek:k=((k.toNat:Nat):Int):=by omega
 have q:atI (ns.map V.int) ((k.toNat:Nat):Int)=some (.int ns[k.toNat]):=Z3 (by rw[Qj,Qa hk]<;>rfl)
 rw[← ek]at q
 exact⟨_,q⟩
theorem Zi0{ss:List Str}{k:Int}(h0:0≤k)(h:k<(ss.length:Int)):∃s∈ss,atI (ss.map V.str) k=some (.str s):=by
 have hk:k.toNat<ss.length:=by omega
 have ek:k=((k.toNat:Nat):Int):=by omega
 have q:atI (ss.map V.str) ((k.toNat:Nat):Int)=some (.str ss[k.toNat]):=Z3 (by rw[Qj,Qa hk]<;>rfl)
 rw[← ek]at q
 exact⟨_,QV hk,q⟩
theorem Zo6(b:Bool):-(2 ^ 64)<(if b=true then (1:Int) else 0)∧(if b=true then (1:Int) else 0)<2 ^ 64:=by cases b<;>decide
theorem Zeb{z:Str}{k:Int}(h0:0≤k)(h:k<(z.length:Int)):∃c:Nat,z.cps.toList[k.toNat]? = some c∧atI z.cps.toList k=some c:=by
 have hl:z.cps.toList.length=z.length:=by simp[Str.length]
 have hk:k.toNat<z.cps.toList.length:=by omega
 have ek:k=((k.toNat:Nat):Int):=by omega
 have q:atI z.cps.toList ((k.toNat:Nat):Int)=some z.cps.toList[k.toNat]:=Z3 (Qa hk)
 rw[← ek]at q
 exact⟨_,Qa hk,q⟩
theorem ZlK(sep:Str)(ys:List Str):(Txt.join sep ys).length≤(ys.map (·.length)).sum+ys.length*sep.length:=by
 have e:Txt.join sep ys=Str.join sep ys:=by simpa using join_plain_closes sep ys
 rw[e]
 exact StrLaws.join_length_le sep ys
theorem Zil:∀ss:List Str,(∀s∈ss,s.length≤1)→(ss.map (·.length)).sum≤ss.length
 | [],_=>Qf _
 | s::r,h=>by
  have h1:=h s Q8
  have h2:=Zil r fun x hx=>h x (Qs _ hx)
  rw[Qh,QL,QE]
  omega
def lcp:List Nat→List Nat→Nat
 | a::r,b::s=>if a=b then lcp r s+1 else 0
 | _,_=>0
theorem ZfK:∀ (x y:List Nat),lcp x y≤x.length∧lcp x y≤y.length
 | [],_=>⟨Qq _,Qq _⟩
 | _::_,[]=>⟨Qq _,Qq _⟩
 | a::r,b::s=>by
  have h:=ZfK r s
  unfold lcp
  split
  ·exact⟨QaB h.1,QaB h.2⟩
  ·exact⟨Qq _,Qq _⟩
theorem ZbY:∀ (x y:List Nat),lcp x y=lcp y x
 | [],[]=>rfl
 | [],_::_=>rfl
 | _::_,[]=>rfl
 | a::r,b::s=>by
  unfold lcp
  by_cases h:a=b
  ·rw[if_pos h,if_pos h.symm,ZbY r s]
  ·rw[if_neg h,if_neg fun e=>h e.symm]
theorem Ziz:∀x:List Nat,lcp x x=x.length
 | []=>rfl
 | a::r=>by unfold lcp;rw[if_pos rfl,Ziz r];rfl
theorem Zdr(x:List Nat):lcp x []=0:=by cases x<;>rfl
theorem lcp_nil'(x:List Nat):lcp [] x=0:=by cases x<;>rfl
theorem ZmN:∀ (x y:List Nat) (k:Nat),k≤lcp x y→∀a,x[k]? = some a→y[k]? = some a→k+1≤lcp x y
 | [],_,k,_,a,h,_=>by simp at h
 | _::_,[],k,_,a,_,h=>by simp at h
 | a::r,b::s,0,_,c,h1,h2=>by
  simp at h1 h2
  unfold lcp
  rw[if_pos (by rw[h1,h2])]
  omega
 | a::r,b::s,k+1,h,c,h1,h2=>by
  unfold lcp at h ⊢
  by_cases e:a=b
  ·rw[if_pos e]at h ⊢
   have:=ZmN r s k (by omega) c (by simpa using h1) (by simpa using h2)
   omega
  ·rw[if_neg e]at h;omega
theorem Znh:∀ (x y:List Nat) (k:Nat),k<lcp x y→x[k]? = y[k]?
 | [],_,k,h=>by unfold lcp at h;omega
 | _::_,[],k,h=>by unfold lcp at h;omega
 | a::r,b::s,0,h=>by
  unfold lcp at h
  by_cases e:a=b
  ·simp[e]
  ·rw[if_neg e]at h;omega
 | a::r,b::s,k+1,h=>by
  unfold lcp at h
  by_cases e:a=b
  ·rw[if_pos e]at h
   simpa using Znh r s k (by omega)
  ·rw[if_neg e]at h;omega
theorem Zhj(x y:List Nat)(k:Nat)(h:k≤lcp x y)(n:x.length≤k∨y.length≤k∨∃a b,x[k]? = some a∧y[k]? = some b∧a≠b):lcp x y=k:=by
 have l:=ZfK x y
 rcases n with n|n|⟨a,b,h1,h2,ne⟩
 ·omega
 ·omega
 ·by_cases q:k<lcp x y
  ·have:=Znh x y k q
   rw[h1,h2]at this
   exact absurd (Qm this) ne
  ·omega
theorem ZeC:∀ (x y z:List Nat),(lcp x y≤lcp x z∧lcp y z=lcp x y)∨(lcp x y≤lcp y z∧lcp x z=lcp x y)∨(lcp x z≤lcp x y∧lcp y z=lcp x z)
 | [],y,z=>.inr (.inl ⟨by rw[lcp_nil'];exact Qq _,by rw[lcp_nil',lcp_nil']⟩)
 | x,[],z=>.inl ⟨by rw[Zdr];exact Qq _,by rw[Zdr,lcp_nil']⟩
 | x,y,[]=>.inr (.inr ⟨by rw[Zdr];exact Qq _,by rw[Zdr,Zdr]⟩)
 | a::r,b::s,c::t=>by
  have ih:=ZeC r s t
  unfold lcp
  by_cases h1:a=b
  ·by_cases h2:b=c
   ·rw[if_pos h1,if_pos h2,if_pos (h1.trans h2)]
    omega
   ·rw[if_pos h1,if_neg h2,if_neg fun e=>h2 (h1.symm.trans e)]
    omega
  ·rw[if_neg h1]
   by_cases h2:b=c
   ·rw[if_pos h2,if_neg fun e=>h1 (e.trans h2.symm)]
    omega
   ·rw[if_neg h2]
    omega
abbrev cds(z:Str):List Nat:=z.cps.toList
def AZ(z:Str):Prop:=∀c∈cds z,97≤c∧c≤122
theorem ZnL(x y:Str):cds (x++y)=cds x++cds y:=by
 show (x++y).cps.toList=_
 rw[PySem.Str.cps_append]
 simp
theorem AZ.app{x y:Str}(a:AZ x)(b:AZ y):AZ (x++y):=fun c h=>by
 rw[ZnL]at h
 exact(Qk.mp h).elim (a c) (b c)
theorem AZ.nil:AZ "":=by unfold AZ cds;ac_rfl
theorem AZ.join:∀ys:List Str,(∀s∈ys,AZ s)→AZ (Str.join "" ys)
 | [],_=>fun c h=>by cases (show c∈([]:List Nat) from h)
 | [x],h=>h x (by simp)
 | x::y::r,h=>((h x (by simp)).app AZ.nil).app (AZ.join (y::r) fun s hs=>h s (Qs _ hs))
theorem AZ.joinT(ys:List Str)(h:∀s∈ys,AZ s):AZ (Txt.join "" ys):=by
 have e:Txt.join "" ys=Str.join "" ys:=by simpa using join_plain_closes "" ys
 rw[e]
 exact AZ.join ys h
theorem AZ.one{z:Str}(a:AZ z){k:Nat}{c:Nat}(h:z.cps.toList[k]? = some c):AZ ⟨#[c]⟩:=fun d hd=>by
 have e:d=c:=by simpa using hd
 rw[e]
 exact a c (Qp h)
theorem AZ.ok{z:Str}(a:AZ z):PyData.strOk z=true:=by
 unfold PyData.strOk
 rw[Array.all_eq_true]
 intro i hi
 have:=a z.cps[i] (by simp)
 exact decide_eq_true (by omega)
theorem Zpg:AZ "ababcz":=by unfold AZ cds;ac_rfl
def Ze4:Sp:=fun vs H Q _=>∃x y:Str,vs=[.str x,.str y]∧x.length≤1000∧y.length≤1000∧Q (.int (lcp (cds x) (cds y))) H
def Zb6:Sp:=fun vs H Q _=>∃ (x y:Str) (far:Nat),vs=[.str x,.str y,.int far]∧x.length≤1000∧y.length≤1000∧far≤lcp (cds x) (cds y)∧Q (.int (lcp (cds x) (cds y))) H
def IsD(H:Hp):Nat→V→V→Prop
 | 0,_,_=>False
 | n+1,x,y=>(x=y∧(x=.non∨(∃b,x=.bl b)∨(∃i,x=.int i)∨∃s,x=.str s)) ∨
   (∃ (p q:Addr) (xs ys:List V),x=.ref p∧y=.ref q∧((H p=some (.lst xs)∧H q=some (.lst ys))∨(H p=some (.tup xs)∧H q=some (.tup ys)))∧xs.length=ys.length∧xs.length≤1000∧∀ (i:Nat) (x y:V),xs[i]? = some x→ys[i]? = some y→IsD H n x y)
theorem IsD.mono{H H':Hp}(s:Zw H H'):∀ {n:Nat} {x y:V},IsD H n x y→IsD H' n x y
 | 0,_,_,h=>h.elim
 | n+1,x,y,h=>by
  rcases h with h|⟨p,q,xs,ys,e1,e2,h,hl,hz,hi⟩
  ·exact .inl h
  ·refine .inr ⟨p,q,xs,ys,e1,e2,?_,hl,hz,fun i x y a b=>(hi i x y a b).mono s⟩
   rcases h with⟨a,b⟩|⟨a,b⟩
   ·exact .inl ⟨s _ _ a,s _ _ b⟩
   ·exact .inr ⟨s _ _ a,s _ _ b⟩
def Zmj(n:Nat):Sp:=fun vs H Q _=>∃x y:V,vs=[x,y]∧IsD H n x y∧∀H',Zw H H'→Q (.bl true) H'
section
variable (K:PySem.W.Frag)
open PySem.W
theorem Zkt:kitAny K (.type "int") (["list", "tuple"].map Value.type)=some false:=by unfold kitAny kitOne kitCls;rfl
theorem Zni:kitAny K (.type "bool") (["list", "tuple"].map Value.type)=some false:=by unfold kitAny kitOne kitCls;rfl
theorem ZkY:kitAny K (.type "str") (["list", "tuple"].map Value.type)=some false:=by unfold kitAny kitOne kitCls;rfl
theorem ZkI:kitAny K (.type "NoneType") (["list", "tuple"].map Value.type)=some false:=by unfold kitAny kitOne kitCls;rfl
theorem Zll:kitAny K (.type "list") (["list", "tuple"].map Value.type)=some true:=by unfold kitAny kitOne kitCls;rfl
theorem Zlk:kitAny K (.type "tuple") (["list", "tuple"].map Value.type)=some true:=by unfold kitAny kitOne kitCls;rfl
theorem Zgj:kitOne K (.type "list") (.type "list")=some true:=by unfold kitOne kitCls;rfl
theorem ZgT:kitOne K (.type "list") (.type "tuple")=some false:=by unfold kitOne kitCls;rfl
theorem ZgP:kitOne K (.type "tuple") (.type "list")=some false:=by unfold kitOne kitCls;rfl
theorem ZdA:kitOne K (.type "tuple") (.type "tuple")=some true:=by unfold kitOne kitCls;rfl
theorem Zlf:kitOne K (.type "int") (.type "str")=some false:=by unfold kitOne kitCls;rfl
theorem Zfd:kitOne K (.type "int") (.type "bool")=some false:=by unfold kitOne kitCls;rfl
theorem ZgU:kitOne K (.type "int") (.type "int")=some true:=by unfold kitOne kitCls;rfl
theorem Zer:kitOne K (.type "str") (.type "str")=some true:=by unfold kitOne kitCls;rfl
theorem ZgR:kitOne K (.type "NoneType") (.type "str")=some false:=by unfold kitOne kitCls;rfl
theorem Zmv:kitOne K (.type "bool") (.type "str")=some false:=by unfold kitOne kitCls;rfl
theorem ZjC:kitOne K (.type "bool") (.type "bool")=some true:=by unfold kitOne kitCls;rfl
end
section
variable {P:Program} {w:World} {K:PySem.W.Frag} {mg:Str→Option Value} {base:Heap} {cRow cMerge:Addr}
theorem Zqt(T:Zau K mg cRow cMerge):Df P w K mg base 1 "_law_mix" ["_law_cell", "_law_k"] ZlP:=by
 refine T.t_l_mix.df ZhH (fun vs H Q E h=>?_) (fun cdv f A outer s H vs Q E hr h=>?_)
 ·obtain⟨a,k,rfl,_⟩:=h
  rfl
 obtain⟨a,k,rfl,k1,k2,q⟩:=h
 refine⟨_,#[Zf,#[Zu,2,ZhH.nd,(Or.inl rfl),#[ZI,ZfF,#[ZI,Zeo,#[ZI,ZaD,#[ZI,ZaD,#[ZI,ZfF,‹0›,#[Zi]],#[ZI,Zeo,#[ZI,Zeo,‹1›,‹1›],#[Zi]]],#[Zi]],#[Zi]],#[Zi]]],#[Zj,#[Zp,#[ZI,ZfF,#[ZI,Zeo,‹2›,‹2›],#[Zi]]]]],?_⟩
 refine⟨_,rfl,_,_,rfl,rfl,(by show (0:Int)<_;decide),_,rfl,_,rfl,_,_,rfl,rfl,.inl ⟨by omega,by omega⟩,_,_,rfl,rfl,.inr ⟨by decide,by decide⟩,_,_,rfl,rfl,_,_,rfl,rfl,_,_,rfl,rfl,.inr ⟨by decide,by decide⟩,_,_,rfl,rfl,(by show (0:Int)<_;decide),?_⟩
 have m0:=Int.emod_nonneg ((a % 2147483629+k*k*7919+11)*48271) (show (2147483647:Int)≠0 by decide)
 have m1:=QaK ((a % 2147483629+k*k*7919+11)*48271) (show (0:Int)<2147483647 by decide)
 refine⟨_,rfl,_,rfl,_,_,rfl,rfl,.inl ⟨by omega,by omega⟩,_,_,rfl,rfl,(by show (0:Int)<_;decide),?_⟩
 exact q _ (Int.emod_nonneg _ (by decide)) (Int.lt_trans (QaK _ (by decide)) (by decide))
theorem ZnI(T:Zau K mg cRow cMerge):Df P w K mg base 1 "_law_left" ["_law_script", "_law_k"] (Znb K):=by
 refine T.t_l_left.df Zgw (fun vs H Q E h=>?_) (fun cdv f A outer s H vs Q E hr h=>?_)
 ·obtain⟨a,ns,k,rfl,_⟩:=h
  rfl
 obtain⟨a,ns,k,rfl,hS,h63,k0,k1,q⟩:=h
 refine⟨_,#[Zf,#[Zu,2,Zgw.nd,(Or.inl rfl),#[Zby,#[Zo,ZeT,‹1›,#[Zk,(Zbn K),(by rfl),T.b.n_len,Qx,#[Za,‹0›,#[Ze]]],(Zt _)],#[ZA,(ixL K),‹0›,‹1›],#[Zi]]],#[Zj,#[Zp,#[Zah,#[Za,#[ZI,Zeo,#[Zk,Ziv,(by rfl),T.b.n_abs,boot_abs,#[Za,‹2›,#[Ze]]],#[ZQ,ZgK,(by rfl),T.b.n_int,boot_int,#[Za,#[ZcF,ZrW,#[Zk,Ziv,(by rfl),T.b.n_abs,boot_abs,#[Za,‹2›,#[Ze]]],#[ZI,ZpI,#[Zi],#[Zi]]],#[Ze]]]],#[Za,#[ZI,ZaD,‹2›,#[ZI,Zeo,#[Zi],‹1›]],#[Za,#[Zi],#[Ze]]]]]]]],?_⟩
 have hl:(ns.map V.int).length=ns.length:=Qb _
 have pw:Zrt 10 18:=⟨by decide,by decide,by decide⟩
 refine⟨_,rfl,_,rfl,a,_,rfl,.inl hS,_,_,rfl,rfl,_,rfl,?_⟩
 refine Za9 (fun c=>?_) (fun c=>?_)
 ·have c':k<(((ns.map V.int).length:Nat):Int):=of_decide_eq_true c
  rw[hl]at c'
  obtain⟨v,hv⟩:=Zp9 (ns:=ns) k0 c'
  refine⟨_,rfl,_,rfl,a,_,_,_,rfl,rfl,hS,hv,?_⟩
  refine⟨_,rfl,_,rfl,_,rfl,_,rfl,_,_,rfl,rfl,pw,_,_,rfl,rfl,.inr ⟨_,rfl,_,_,rfl,rfl,.inr (Zo6 _),_,rfl,_,rfl,_,_,rfl,rfl,.inl ⟨by decide,by decide⟩,_,_,rfl,rfl,(by show 3≤sizeLine;decide),fun p hp=>?_⟩⟩
  exact q p _ hp ⟨_,_,Zc,Int.le_refl _⟩ (Zh hp _)
 ·refine⟨_,rfl,_,rfl,_,rfl,_,rfl,_,_,rfl,rfl,pw,_,_,rfl,rfl,.inr ⟨_,rfl,_,_,rfl,rfl,.inr (Zo6 _),_,rfl,_,rfl,_,_,rfl,rfl,.inl ⟨by decide,by decide⟩,_,_,rfl,rfl,(by show 3≤sizeLine;decide),fun p hp=>?_⟩⟩
  exact q p _ hp ⟨_,_,Zc,Int.le_refl _⟩ (Zh hp _)
theorem ZoF(T:Zau K mg cRow cMerge)(f_l_mix:Df P w K mg base 1 "_law_mix" ["_law_cell", "_law_k"] ZlP):Df P w K mg base 2 "_law_pick" ["_law_left_here", "_law_many"] Zda:=by
 refine T.t_l_pick.df ZgO (fun vs H Q E h=>?_) (fun cdv f A outer s H vs Q E hr h=>?_)
 ·obtain⟨p,c,m,rfl,_⟩:=h
  rfl
 obtain⟨p,c,m,rfl,⟨a,b,hp,c0⟩,c1,m0,m1,q⟩:=h
 refine⟨_,#[Zf,#[Zbs,#[ZI,ZaD,#[ZA,(ixL K),‹0›,#[Zi]],#[Zi]],#[ZdU,‹0›,#[Zi],Zir]],#[Zf,#[Zag,#[Zo,ZfW,#[ZA,(ixL K),‹0›,#[Zi]],#[Zi],(Zt _)],#[Zf,#[Zu,2,ZgO.nd,(Or.inl rfl),#[ZI,ZfF,#[ZA,(ixL K),‹0›,#[Zi]],‹1›]],#[Zf,#[Zbs,#[ZI,Zd4,#[ZA,(ixL K),‹0›,#[Zi]],‹1›],#[ZdU,‹0›,#[Zi],Zir]],#[Zj,#[Zp,‹2›]]]],#[ZD]],#[Zj,#[Zp,#[ZI,ZfF,#[ZI,Zd4,#[Zz,f_l_mix,hr,#[Za,#[Zz,f_l_mix,hr,#[Za,#[ZA,(ixL K),‹0›,#[Zi]],#[Za,#[ZA,(ixL K),‹0›,#[Zi]],#[Ze]]],(by rfl)],#[Za,#[ZI,ZaD,#[ZA,(ixL K),‹0›,#[Zi]],#[Zi]],#[Ze]]],(by rfl)],#[Zi]],‹1›]]]]],?_⟩
 have u1:(upd H p (.lst [.int a,.int b,.int (c+1)])) p=some (.lst [.int a,.int b,.int (c+1)]):=Zc
 refine⟨_,rfl,p,_,_,_,rfl,rfl,SqL.of hp,rfl,_,_,rfl,rfl,_,rfl,p,_,_,2,rfl,rfl,hp,rfl,?_⟩
 refine⟨_,rfl,p,_,_,_,rfl,rfl,SqL.of u1,rfl,_,_,rfl,rfl,_,rfl,?_⟩
 refine Za9 (fun d=>?_) (fun d=>?_)
 ·refine⟨_,rfl,p,_,_,_,rfl,rfl,SqL.of u1,rfl,_,rfl,_,_,rfl,rfl,m0,?_⟩
  refine⟨_,rfl,p,_,_,_,rfl,rfl,SqL.of u1,rfl,_,rfl,_,_,rfl,rfl,⟨m0,by omega⟩,_,rfl,p,_,_,0,rfl,rfl,u1,rfl,?_⟩
  refine⟨_,rfl,?_⟩
  refine q _ _ (Int.emod_nonneg _ (by omega)) (QaK _ m0) ⟨a / m,b,Zc,by omega⟩ fun e o h n=>?_
  rw[Zd n,Zd n]
  exact h
 ·refine⟨_,rfl,p,_,_,_,rfl,rfl,SqL.of u1,rfl,_,rfl,p,_,_,_,rfl,rfl,SqL.of u1,rfl,_,_,rfl,by omega,by omega,fun r r0 r1=>?_⟩
  refine⟨_,rfl,p,_,_,_,rfl,rfl,SqL.of u1,rfl,_,_,rfl,rfl,_,_,rfl,by omega,by omega,fun r' r0' r1'=>?_⟩
  refine⟨_,_,rfl,rfl,⟨by decide,by decide⟩,_,rfl,_,_,rfl,rfl,m0,?_⟩
  refine q _ _ (Int.emod_nonneg _ (by omega)) (QaK _ m0) ⟨a,b,Zc,by omega⟩ fun e o h n=>?_
  rw[Zd n]
  exact h
def Zbu:List Str:=["", "a", "ab", "aba", "abab", "b", "zebra", "aaaaaaaa", "knowswho", "z", "abababababab",Txt.mul "a" 24]
theorem Zin:∀s∈Zbu,s.length≤24:=by ac_rfl
theorem Zji:∀s∈Zbu,AZ s:=by unfold AZ cds;ac_rfl
def Zhn:Sp:=fun vs H Q _=>∃ (p:Addr) (c:Int),vs=[.ref p]∧Zak H p c∧c<2 ^ 50 ∧
 ∀ (l:Addr) (ss:List Str) (c':Int) (H':Hp),H l=none→H' l=some (.lst (ss.map V.str))→1≤ss.length→ss.length≤4→(∀s∈ss,s.length≤24∧AZ s)→Zak H' p c'→c≤c'→c'≤c+5→But p H H'→Q (.ref l) H'
def ZlI:Sp:=fun vs H Q _=>∃ (p l:Addr) (c:Int) (ss:List Str),vs=[.ref p,.ref l]∧Zak H p c∧c<2 ^ 50∧H l=some (.lst (ss.map V.str))∧1≤ss.length∧ss.length≤4∧(∀s∈ss,s.length≤24∧AZ s) ∧
 ∀ (z:Str) (c':Int) (H':Hp),z.length≤28→AZ z→Zak H' p c'→c≤c'→c'≤c+6→But p H H'→Q (.str z) H'
theorem ZmR(T:Zau K mg cRow cMerge)(f_l_pick:Df P w K mg base 2 "_law_pick" ["_law_left_here", "_law_many"] Zda):Df P w K mg base 3 "_law_stems" ["_law_left_here"] Zhn:=by
 refine T.t_l_stems.df Zfk (fun vs H Q E h=>?_) (fun cdv f A outer s H vs Q E hr h=>?_)
 ·obtain⟨p,c,rfl,_⟩:=h
  rfl
 obtain⟨p,c,rfl,hL,c1,q⟩:=h
 refine⟨_,#[Zf,#[Zu,1,Zfk.nd,(Or.inr rfl),#[Zah,#[Za,#[Zbl],#[Za,#[Zbl],#[Za,#[Zbl],#[Za,#[Zbl],#[Za,#[Zbl],#[Za,#[Zbl],#[Za,#[Zbl],#[Za,#[Zbl],#[Za,#[Zbl],#[Za,#[Zbl],#[Za,#[Zbl],#[Za,#[ZI,ZoC,#[Zbl],#[Zi]],#[Ze]]]]]]]]]]]]]]],#[Zj,#[Zp,#[ZaE,Zlw,#[Zbd,T.b.n_range,#[Za,#[ZI,ZaD,#[Zi],#[Zz,f_l_pick,hr,#[Za,#[pv,0,(Or.inr (Or.inl rfl))],#[Za,#[Zi],#[Ze]]],(by rfl)]],#[Ze]]],(fun _ _ _ _=>#[cg,2,Zlw]),(fun _ _ _ _=>(@Zao _)),(fun _ _ _ _=>#[ZA,(ixL K),#[cv,1,Zlw],#[Zz,f_l_pick,hr,#[Za,#[cv,0,Zlw],#[Za,#[Zi],#[Ze]]],(ZaF Zlw rfl (by ac_rfl))]])]]]],?_⟩
 refine⟨_,_,rfl,rfl,by decide,by decide,by decide,(by show 12≤sizeLine;decide),fun l hl=>?_⟩
 have npl:p≠l:=by obtain⟨a,b,hp,_⟩:=hL;exact Zb hp hl
 have hL1:Zak (upd H l (.lst (Zbu.map V.str))) p c:=by obtain⟨a,b,hp,c0⟩:=hL;exact⟨a,b,by rw[Zd npl];exact hp,c0⟩
 refine⟨_,rfl,p,c,_,rfl,hL1,by omega,by decide,by decide,fun r H1 r0 r1 L1 B1=>?_⟩
 refine⟨_,_,rfl,rfl,_,rfl,by omega,by omega,fun D hD=>?_⟩
 have c0:0≤c:=by obtain⟨a,b,hp,c0⟩:=hL;exact c0
 have h1l:H1 l=some (.lst (Zbu.map V.str)):=B1 l _ Zc npl.symm
 have npD:p≠D:=by obtain⟨a,b,hp,_⟩:=L1;exact Zb hp hD
 have nlD:l≠D:=Zb h1l hD
 refine ZcO (fun i ys σ H2=>∃ (ss:List Str) (v:Option V) (c2:Int),σ=[some (.ref p),some (.ref l),v]∧ys=ss.map V.str∧ss.length=i∧(∀s∈ss,s.length≤24∧AZ s)∧Zak H2 p c2∧c+1≤c2∧c2≤c+1+i ∧
   H2 l=some (.lst (Zbu.map V.str))∧H2 D=some (.lst ys)∧But p H H2) ?_ ?_ ?_
 ·refine⟨[],none,c+1,rfl,rfl,rfl,(fun s hs=>by cases hs),?_,by omega,by omega,?_,Zc,?_⟩
  ·obtain⟨a,b,hp,q0⟩:=L1
   exact⟨a,b,by rw[Zd npD];exact hp,q0⟩
  ·rw[Zd nlD];exact h1l
  ·intro b o e n
   have e1:(upd H l (.lst (Zbu.map V.str))) b=some o:=by rw[Zd (Zb e hl)];exact e
   have e2:=B1 b o e1 n
   rw[Zd (Zb e2 hD)]
   exact e2
 ·rintro i ys σ H2 hi ⟨ss,v,c2,rfl,rfl,hn,hs,L2',b1,b2,hl2,hD2,B2⟩
  refine⟨_,rfl,_,rfl,p,c2,_,rfl,L2',by omega,by decide,by decide,fun r' H3 r0' r1' L3 B3=>?_⟩
  obtain⟨s,hs1,hs2⟩:=Zi0 (ss:=Zbu) r0' r1'
  have hD3:H3 D=some (.lst (ss.map V.str)):=B3 D _ hD2 npD.symm
  have hl3:H3 l=some (.lst (Zbu.map V.str)):=B3 l _ hl2 npl.symm
  refine⟨l,_,_,_,rfl,rfl,SqL.of hl3,hs2,hD3,(by rw[Qb,hn];exact ZH (by omega)),ss++[s],_,c2+1,rfl,?_,?_,?_,?_,by omega,by omega,?_,Zc,?_⟩
  ·rw[Qe];rfl
  ·rw[Qg,hn];rfl
  ·intro x hx
   rcases Qk.mp hx with hx|hx
   ·exact hs x hx
   ·rw[Qi.mp hx];exact⟨Zin s hs1,Zji s hs1⟩
  ·obtain⟨a,b,hp,q0⟩:=L3
   exact⟨a,b,by rw[Zd npD];exact hp,q0⟩
  ·rw[Zd nlD];exact hl3
  ·intro b o e n
   have e2:=B3 b o (B2 b o e n) n
   have e3:H D=none:=by
    cases w':H D with
    | none=>rfl
    | some u =>
     have nDp:D≠p:=npD.symm
     have z1:(upd H l (.lst (Zbu.map V.str))) D=some u:=by rw[Zd nlD.symm];exact w'
     rw[B1 D u z1 nDp]at hD
     cases hD
   rw[Zd (Zb e e3)]
   exact e2
 ·rintro ys σ H2 ⟨ss,v,c2,rfl,rfl,hn,hs,L2',b1,b2,hl2,hD2,B2⟩
  have e3:H D=none:=by
   cases w':H D with
   | none=>rfl
   | some u =>
    have z1:(upd H l (.lst (Zbu.map V.str))) D=some u:=by rw[Zd nlD.symm];exact w'
    rw[B1 D u z1 npD.symm]at hD
    cases hD
  exact q D ss c2 H2 e3 hD2 (by omega) (by omega) hs L2' (by omega) (by omega) B2
theorem Zp2(T:Zau K mg cRow cMerge)(f_l_pick:Df P w K mg base 2 "_law_pick" ["_law_left_here", "_law_many"] Zda):Df P w K mg base 3 "_law_key" ["_law_left_here", "_law_stems_here"] ZlI:=by
 refine T.t_l_key.df ZhQ (fun vs H Q E h=>?_) (fun cdv f A outer s H vs Q E hr h=>?_)
 ·obtain⟨p,l,c,ss,rfl,_⟩:=h
  rfl
 obtain⟨p,l,c,ss,rfl,hL,c1,hl,n1,n4,h24,q⟩:=h
 refine⟨_,#[Zf,#[Zu,2,ZhQ.nd,(Or.inl rfl),#[ZbK,PySem.F.plainAttrs_str,PySem.F.slot_str_join,PySem.F.type_str_join,(ZrR K),#[Zbl],#[Za,#[ZaE,Zov,#[Zbd,T.b.n_range,#[Za,#[Zz,f_l_pick,hr,#[Za,#[pv,0,(Or.inr (Or.inl rfl))],#[Za,#[Zi],#[Ze]]],(by rfl)],#[Ze]]],(fun _ _ _ _=>#[cg,3,Zov]),(fun _ _ _ _=>(@Zao _)),(fun _ _ _ _=>#[ZA,Zfl,#[Zbl],#[Zz,f_l_pick,hr,#[Za,#[cv,0,Zov],#[Za,#[Zi],#[Ze]]],(ZaF Zov rfl (by ac_rfl))]])],#[Ze]]]],#[Zj,#[Zp,#[ZI,Zjq,#[ZA,(ixL K),‹1›,#[Zz,f_l_pick,hr,#[Za,#[pv,0,(Or.inr (Or.inl rfl))],#[Za,#[Zk,(Zbn K),(by rfl),T.b.n_len,Qx,#[Za,‹1›,#[Ze]]],#[Ze]]],(by rfl)]],‹2›]]]],?_⟩
 have c0:0≤c:=by obtain⟨a,b,hp,c0⟩:=hL;exact c0
 have npl:p≠l:=by
  obtain⟨a,b,hp,_⟩:=hL
  refine ZoS hp hl fun e=>?_
  have e1:=congrArg List.length (HO.lst.inj e)
  cases ss with
  | nil=>cases e1
  | cons x r=>exact absurd (HO.lst.inj e) (by intro z;cases z)
 refine⟨rfl,_,rfl,p,c,_,rfl,hL,by omega,by decide,by decide,fun r H1 r0 r1 L1 B1=>?_⟩
 refine⟨_,rfl,by omega,by omega,fun D hD=>?_⟩
 have npD:p≠D:=by obtain⟨a,b,hp,_⟩:=L1;exact Zb hp hD
 have h1l:=B1 l _ hl npl.symm
 have nlD:l≠D:=Zb h1l hD
 have hDn:H D=none:=by
  cases w':H D with
  | none=>rfl
  | some u=>rw[B1 D u w' npD.symm]at hD;cases hD
 refine ZcO (fun i ys σ H2=>∃ (ts:List Str) (v:Option V) (c2:Int),σ=[some (.ref p),some (.ref l),none,v]∧ys=ts.map V.str∧ts.length=i∧(∀s∈ts,s.length≤1∧AZ s)∧Zak H2 p c2∧c+1≤c2∧c2≤c+1+i ∧
   H2 D=some (.lst ys)∧But p H H2) ?_ ?_ ?_
 ·refine⟨[],none,c+1,rfl,rfl,rfl,(fun s hs=>by cases hs),?_,by omega,by omega,Zc,?_⟩
  ·obtain⟨a,b,hp,q0⟩:=L1
   exact⟨a,b,by rw[Zd npD];exact hp,q0⟩
  ·intro b o e n
   rw[Zd (Zb e hDn)]
   exact B1 b o e n
 ·rintro i ys σ H2 hi ⟨ts,v,c2,rfl,rfl,hn,hs,L2',b1,b2,hD2,B2⟩
  refine⟨_,rfl,p,c2,_,rfl,L2',by omega,by decide,by decide,fun r' H3 r0' r1' L3 B3=>?_⟩
  obtain⟨ch,hcm,hch⟩:=Zeb (z := "ababcz") r0' r1'
  have hD3:H3 D=some (.lst (ts.map V.str)):=B3 D _ hD2 npD.symm
  refine⟨_,_,_,rfl,rfl,(by ac_rfl),hch,hD3,(by rw[Qb,hn];exact ZH (by omega)),ts++[⟨#[ch]⟩],_,c2+1,rfl,?_,?_,?_,?_,by omega,by omega,Zc,?_⟩
  ·rw[Qe];rfl
  ·rw[Qg,hn];rfl
  ·intro x hx
   rcases Qk.mp hx with hx|hx
   ·exact hs x hx
   ·rw[Qi.mp hx];exact⟨Qf 1,Zpg.one hcm⟩
  ·obtain⟨a,b,hp,q0⟩:=L3
   exact⟨a,b,by rw[Zd npD];exact hp,q0⟩
  ·intro b o e n
   rw[Zd (Zb e hDn)]
   exact B3 b o (B2 b o e n) n
 ·rintro ys σ H2 ⟨ts,v,c2,rfl,rfl,hn,hs,L2',b1,b2,hD2,B2⟩
  have hsum:=Zil ts fun s h=>(hs s h).1
  have hjl:=ZlK "" ts
  have e0:("" : Str).length=0:=by ac_rfl
  rw[e0]at hjl
  have hl2:=B2 l _ hl npl.symm
  refine⟨_,D,ts,rfl,rfl,SqL.of hD2,(by rw[e0];omega),?_⟩
  have hlen:(((ss.map V.str).length:Nat):Int)=(ss.length:Int):=by rw[Qb]
  refine⟨_,rfl,_,rfl,_,rfl,l,_,rfl,.inl (SqL.of hl2),p,c2,_,rfl,L2',by omega,by omega,by omega,fun r' H3 r0' r1' L3 B3=>?_⟩
  obtain⟨st,hs1,hs2⟩:=Zi0 (ss:=ss) r0' (by omega)
  have hst:=(h24 st hs1).1
  refine⟨l,_,_,_,rfl,rfl,SqL.of (B3 l _ hl2 npl.symm),hs2,_,rfl,_,_,rfl,rfl,Zb5 (by omega),?_⟩
  refine q _ (c2+1) H3 ?_ ((h24 st hs1).2.app (AZ.joinT ts fun s h=>(hs s h).2)) L3 (by omega) (by omega) (B2.trans B3)
  rw[PySem.Str.length_append]
  omega
theorem Zf7(T:Zau K mg cRow cMerge):Df P w K mg base 1 "alike_from" ["one", "other", "far"] Zb6:=by
 refine T.t_alike_from.df Zcc (fun vs H Q E h=>?_) (fun cdv f A outer s H vs Q E hr h=>?_)
 ·obtain⟨x,y,far,rfl,_⟩:=h
  rfl
 obtain⟨x,y,far,rfl,hx,hy,hf,q⟩:=h
 refine⟨_,#[Zf,#[Zu,3,Zcc.nd,(Or.inl rfl),‹2›],#[Zf,(@Zcu _ _ _ _ _ _ PassesOwn.never (@PW.pt _ _ _ #[ZeH,#[Zo,ZeT,‹3›,#[Zk,ZaW,(by rfl),T.b.n_len,Qx,#[Za,‹0›,#[Ze]]],(Zt _)],#[ZeH,#[Zo,ZeT,‹3›,#[Zk,ZaW,(by rfl),T.b.n_len,Qx,#[Za,‹1›,#[Ze]]],(Zt _)],(@Zd3 _ _ _ _ #[Zo,Zbj,#[ZA,Zfl,‹0›,‹3›],#[ZA,Zfl,‹1›,‹3›],(Zt _)])]]) #[Zj,(@Zpy _ _ 3 _ _ _ _ _ _ Zcc.nd rfl (Or.inl rfl) #[Zi] ZpX (by trivial))]),#[Zj,#[Zp,‹3›]]]],?_⟩
 refine⟨_,rfl,?_⟩
 have lx:(cds x).length=x.length:=by simp[Str.length]
 have ly:(cds y).length=y.length:=by simp[Str.length]
 have ll:=ZfK (cds x) (cds y)
 refine⟨fun m σ H2=>∃k:Nat,σ=[some (.str x),some (.str y),some (.int far),some (.int k)]∧H2=H∧k≤lcp (cds x) (cds y)∧m=lcp (cds x) (cds y)-k,⟨_,far,rfl,rfl,hf,rfl⟩,?_⟩
 rintro m σ H2 ⟨k,rfl,rfl,hk,rfl⟩
 refine⟨_,rfl,_,rfl,x,rfl,Zb5 hx,_,_,rfl,rfl,_,rfl,?_⟩
 refine Za9 (fun d1=>?_) (fun d1=>?_)
 ·have d1':(k:Int)<(x.length:Int):=of_decide_eq_true d1
  refine⟨_,rfl,_,rfl,y,rfl,Zb5 hy,_,_,rfl,rfl,_,rfl,?_⟩
  refine Za9 (fun d2=>?_) (fun d2=>?_)
  ·have d2':(k:Int)<(y.length:Int):=of_decide_eq_true d2
   obtain⟨a,ha,ha'⟩:=Zeb (z:=x) (k:=k) (by omega) d1'
   obtain⟨b,hb,hb'⟩:=Zeb (z:=y) (k:=k) (by omega) d2'
   rw[Qaf]at ha hb
   refine⟨_,rfl,_,rfl,x,_,a,rfl,rfl,Zb5 hx,ha',_,rfl,_,rfl,y,_,b,rfl,rfl,Zb5 hy,hb',rfl,_,rfl,?_⟩
   refine Za9 (fun d3=>?_) (fun d3=>?_)
   ·have d3':a=b:=by
     have:=of_decide_eq_true d3
     injection this with e
     injection e with e
     simpa using e
    subst d3'
    have:=ZmN _ _ k hk a ha hb
    refine⟨fun σ' H'=>σ'=[some (.str x),some (.str y),some (.int far),some (.int ((k+1:Nat):Int))]∧H'=H2,fun σ' H' ⟨e1,e2⟩=>⟨_,?_,k+1,e1,e2,this,rfl⟩,?_⟩
    ·omega
    ·exact⟨_,rfl,_,_,rfl,rfl,rfl,rfl⟩
   ·refine⟨_,rfl,?_⟩
    have e:=Zhj _ _ k hk (.inr (.inr ⟨a,b,ha,hb,fun e=>d3 (by subst e;exact decide_eq_true rfl)⟩))
    rw[e]at q
    exact q
  ·refine ZbM ⟨_,rfl,?_⟩
   have d2':¬ (k:Int)<(y.length:Int):=of_decide_eq_false (Bool.eq_false_iff.mpr d2)
   have e:=Zhj _ _ k hk (.inr (.inl (by omega)))
   rw[e]at q
   exact q
 ·refine ZbM ⟨_,rfl,?_⟩
  have d1':¬ (k:Int)<(x.length:Int):=of_decide_eq_false (Bool.eq_false_iff.mpr d1)
  have e:=Zhj _ _ k hk (.inl (by omega))
  rw[e]at q
  exact q
theorem ZlJ(T:Zau K mg cRow cMerge)(f_alike_from:Df P w K mg base 1 "alike_from" ["one", "other", "far"] Zb6):Df P w K mg base 2 "alike" ["one", "other"] Ze4:=by
 refine T.t_alike.df ZlV (fun vs H Q E h=>?_) (fun cdv f A outer s H vs Q E hr h=>?_)
 ·obtain⟨x,y,rfl,_⟩:=h
  rfl
 obtain⟨x,y,rfl,hx,hy,q⟩:=h
 refine⟨_,#[Zj,#[Zp,#[Zz,f_alike_from,hr,#[Za,‹0›,#[Za,‹1›,#[Za,#[Zi],#[Ze]]]],(by rfl)]]],?_⟩
 exact⟨_,rfl,_,rfl,x,y,0,rfl,hx,hy,Qq _,q⟩
theorem Zef{c A B:Prop}[Decidable c](hc:c)(h:A):if decide c=true then A else B:=by
 rw[if_pos (decide_eq_true hc)]
 exact h
theorem ZcS{c A B:Prop}[Decidable c](hc:¬ c)(h:B):if decide c=true then A else B:=by
 rw[if_neg (by rw[decide_eq_false hc];exact Qt)]
 exact h
theorem Zkm(T:Zau K mg cRow cMerge):∀n:Nat,Df P w K mg base (n+1) "_law_same" ["_law_found", "_law_due"] (Zmj n)
 | 0=>by
  refine T.t_l_same.df ZgW (fun vs H Q E h=>?_) (fun cdv f A outer s H vs Q E hr h=>?_)
  ·obtain⟨x,y,rfl,_⟩:=h
   rfl
  obtain⟨x,y,rfl,h,_⟩:=h
  exact h.elim
 | n+1=>by
  have f_l_same:=Zkm T n
  refine T.t_l_same.df ZgW (fun vs H Q E h=>?_) (fun cdv f A outer s H vs Q E hr h=>?_)
  ·obtain⟨x,y,rfl,_⟩:=h
   rfl
  obtain⟨x,y,rfl,hD,q⟩:=h
  refine⟨_,#[Zf,#[Zag,#[ZdM,#[Zk,(Zq6 K),(by rfl),T.b.n_isinstance,boot_isinstance,#[Za,‹1›,#[Za,#[Za1,#[Za,#[ZbF,T.b.n_list,boot_list],#[Za,#[ZbF,T.b.n_tuple,boot_tuple],#[Ze]]]],#[Ze]]]]],#[Zf,#[Zag,(@PW.pt _ _ _ (@Zj4 _ _ _ _ _ _ _ #[Zo,Zm6,#[Zk,(ZdV K),(by rfl),T.b.n_isinstance,boot_isinstance,#[Za,‹0›,#[Za,#[ZbF,T.b.n_list,boot_list],#[Ze]]]],#[Zk,(ZdV K),(by rfl),T.b.n_isinstance,boot_isinstance,#[Za,‹1›,#[Za,#[ZbF,T.b.n_list,boot_list],#[Ze]]]],(Zt _)] (@Zhg _ _ _ _ #[Zo,Zm6,#[Zk,(ZdV K),(by rfl),T.b.n_isinstance,boot_isinstance,#[Za,‹0›,#[Za,#[ZbF,T.b.n_tuple,boot_tuple],#[Ze]]]],#[Zk,(ZdV K),(by rfl),T.b.n_isinstance,boot_isinstance,#[Za,‹1›,#[Za,#[ZbF,T.b.n_tuple,boot_tuple],#[Ze]]]],(Zt _)]))),#[Zj,#[Zp,(@Zl5 _ _ _ _)]],#[ZD]],#[Zj,#[Zp,#[Zex,#[ZcF,Zbj,#[Zk,(Zbn K),(by rfl),T.b.n_len,Qx,#[Za,‹0›,#[Ze]]],#[Zk,(Zbn K),(by rfl),T.b.n_len,Qx,#[Za,‹1›,#[Ze]]]],(@Zfu _ _ _ _ _ #[Zk,(Zsi K),(by rfl),T.b.n_all,boot_all,#[Za,#[ZaE,Zk8,(@iZ _ K _ _ _ _ _ _ _ _ T.b.n_zip #[Za,‹0›,#[Za,‹1›,#[Ze]]] (by rfl) (by rfl) (by rfl) (by rfl)),(fun _ _ _ _=>#[gT,K,2,#[Zy,#[cg,2,Zk8],#[Zy,#[cg,3,Zk8],(@ZaY _)]]]),(fun _ _ _ _=>(@Zao _)),(fun _ _ _ _=>#[Zz,f_l_same,hr,#[Za,#[cw,2,Zk8],#[Za,#[cw,3,Zk8],#[Ze]]],(ZaF Zk8 rfl (by ac_rfl))])],#[Ze]]])]]]],#[ZD]],#[Zf,#[Zag,(@PW.pt _ _ _ (@Zj4 _ _ _ _ _ _ _ #[Zo,ZcD,‹1›,#[Zay],(Zt _)] (@Zhg _ _ _ _ #[ZdM,#[Zk,(ZdV K),(by rfl),T.b.n_isinstance,boot_isinstance,#[Za,‹1›,#[Za,#[ZbF,T.b.n_str,boot_str],#[Ze]]]]]))),#[Zj,#[Zp,#[Zex,#[ZcF,Zbj,‹0›,‹1›],(@Zfu _ _ _ _ _ #[ZcF,Zbj,#[Zk,(ZdV K),(by rfl),T.b.n_isinstance,boot_isinstance,#[Za,‹0›,#[Za,#[ZbF,T.b.n_str,boot_str],#[Ze]]]],#[Zk,(ZdV K),(by rfl),T.b.n_isinstance,boot_isinstance,#[Za,‹1›,#[Za,#[ZbF,T.b.n_str,boot_str],#[Ze]]]]])]]],#[ZD]],#[Zf,#[Zag,#[ZdM,#[Zk,(ZdV K),(by rfl),T.b.n_isinstance,boot_isinstance,#[Za,‹1›,#[Za,#[ZbF,T.b.n_bool,boot_bool],#[Ze]]]]],#[Zj,#[Zp,#[Zex,#[Zk,(ZdV K),(by rfl),T.b.n_isinstance,boot_isinstance,#[Za,‹0›,#[Za,#[ZbF,T.b.n_bool,boot_bool],#[Ze]]]],(@Zfu _ _ _ _ _ #[ZcF,Zbj,‹0›,‹1›])]]],#[ZD]],#[Zj,#[Zp,#[Zex,#[Zk,(ZdV K),(by rfl),T.b.n_isinstance,boot_isinstance,#[Za,‹0›,#[Za,#[ZbF,T.b.n_int,boot_int],#[Ze]]]],#[Zex,(@Zmb _ _ _ _ #[Zk,(ZdV K),(by rfl),T.b.n_isinstance,boot_isinstance,#[Za,‹0›,#[Za,#[ZbF,T.b.n_bool,boot_bool],#[Ze]]]]),(@Zfu _ _ _ _ _ #[ZcF,Zbj,‹0›,‹1›])]]]]]]],?_⟩
  refine⟨_,rfl,(by show 2≤sizeLine;decide),fun tp htp=>?_⟩
  have sT:Zw H (upd H tp (.tup (["list", "tuple"].map V.ty))):=Zh htp _
  rcases hD with⟨rfl,rfl|⟨b,rfl⟩|⟨i,rfl⟩|⟨z,rfl⟩⟩|⟨p,q2,xs,ys,rfl,rfl,⟨hp,hq⟩|⟨hp,hq⟩,hl,hz,hi⟩
  ·refine⟨_,tp,["list", "tuple"],_,_,rfl,Zc,.non,ZkI K,_,rfl,ZbM ?_⟩
   refine⟨_,rfl,rfl,_,rfl,Zef rfl (Zdj ?_)⟩
   refine⟨_,rfl,_,rfl,rfl,_,rfl,Zef rfl ?_⟩
   exact⟨_,rfl,_, "str",_,_,rfl,.non,ZgR K,_,rfl,_, "str",_,_,rfl,.non,ZgR K,rfl,q _ sT⟩
  ·refine⟨_,tp,["list", "tuple"],_,_,rfl,Zc,.bl b,Zni K,_,rfl,ZbM ?_⟩
   refine⟨_,rfl,rfl,_,rfl,ZcS (by intro z;cases z) ?_⟩
   refine⟨_,rfl,_, "str",_,_,rfl,.bl b,Zmv K,_,rfl,ZbM ?_⟩
   refine⟨_,rfl,_, "bool",_,_,rfl,.bl b,ZjC K,_,rfl,Zdj ?_⟩
   refine⟨_,rfl,_, "bool",_,_,rfl,.bl b,ZjC K,_,rfl,Zdj ?_⟩
   refine⟨_,rfl,_,rfl,rfl,?_⟩
   have e:decide (V.bl b=V.bl b)=true:=decide_eq_true rfl
   rw[e]
   exact q _ sT
  ·refine⟨_,tp,["list", "tuple"],_,_,rfl,Zc,.int i,Zkt K,_,rfl,ZbM ?_⟩
   refine⟨_,rfl,rfl,_,rfl,ZcS (by intro z;cases z) ?_⟩
   refine⟨_,rfl,_, "str",_,_,rfl,.int i,Zlf K,_,rfl,ZbM ?_⟩
   refine⟨_,rfl,_, "bool",_,_,rfl,.int i,Zfd K,_,rfl,ZbM ?_⟩
   refine⟨_,rfl,_, "int",_,_,rfl,.int i,ZgU K,_,rfl,Zdj ?_⟩
   refine⟨_,rfl,_, "bool",_,_,rfl,.int i,Zfd K,_,rfl,_,rfl,Zdj ?_⟩
   refine⟨_,rfl,_,rfl,rfl,?_⟩
   have e:decide (V.int i=V.int i)=true:=decide_eq_true rfl
   rw[e]
   exact q _ sT
  ·refine⟨_,tp,["list", "tuple"],_,_,rfl,Zc,.str z,ZkY K,_,rfl,ZbM ?_⟩
   refine⟨_,rfl,rfl,_,rfl,ZcS (by intro z;cases z) ?_⟩
   refine⟨_,rfl,_, "str",_,_,rfl,.str z,Zer K,_,rfl,Zdj ?_⟩
   refine⟨_,rfl,_,rfl,rfl,_,rfl,Zef rfl ?_⟩
   exact⟨_,rfl,_, "str",_,_,rfl,.str z,Zer K,_,rfl,_, "str",_,_,rfl,.str z,Zer K,rfl,q _ sT⟩
  ·have hxT:(upd H tp (.tup (["list", "tuple"].map V.ty))) p=some (.lst xs):=by rw[Zd (Zb hp htp)];exact hp
   have hyT:(upd H tp (.tup (["list", "tuple"].map V.ty))) q2=some (.lst ys):=by rw[Zd (Zb hq htp)];exact hq
   refine⟨_,tp,["list", "tuple"],_,_,rfl,Zc,.lst hyT,Zll K,_,rfl,Zdj ?_⟩
   refine⟨_,rfl,_, "list",_,_,rfl,.lst hxT,Zgj K,_,rfl,_, "list",_,_,rfl,.lst hyT,Zgj K,rfl,_,rfl,ZfM rfl ?_⟩
   refine⟨_,rfl,_, "tuple",_,_,rfl,.lst hxT,ZgT K,_,rfl,_, "tuple",_,_,rfl,.lst hyT,ZgT K,rfl,_,rfl,ZfM rfl ?_⟩
   refine⟨_,rfl,p,xs,rfl,.inl (SqL.of hxT),_,rfl,q2,ys,rfl,.inl (SqL.of hyT),rfl,_,rfl,Zef (by rw[hl]) ?_⟩
   refine⟨_,rfl,_,rfl,.l p,.l q2,xs,ys,rfl,SqL.of hxT,SqL.of hyT,fun D hD=>?_⟩
   have sD:Zw H (upd H tp (.tup (["list", "tuple"].map V.ty))):=Zh htp _
   refine ZhR (K:=K) (xs:=xs) (ys:=ys) (fun i zs σ H2=>(∃v1 v2,σ=[some (.ref p),some (.ref q2),v1,v2])∧zs=List.replicate i (.bl true)∧Zw H H2∧H2 D=some (.lst zs)∧i≤xs.length) ?_ ?_ ?_ ?_
   ·exact⟨⟨none,none,rfl⟩,rfl,sD.trans (Zh hD _),Zc,Qq _⟩
   ·rintro i zs σ H2 ⟨_,_,s2,_⟩
    exact⟨SqL.of (s2 _ _ hp),SqL.of (s2 _ _ hq)⟩
   ·rintro i zs σ H2 x' y' r hx' hy' ⟨⟨v1,v2,rfl⟩,rfl,s2,hD2,hiz⟩ hr
    have hil:i<xs.length:=(Qd.mp hx').1
    have nDr:D≠r:=Zb hD2 hr
    have s3:Zw H (upd H2 r (.tup [x',y'])):=s2.trans (Zh hr _)
    refine⟨r,_,rfl,SqT.of Zc,rfl,_,_,rfl,_,_,rfl,rfl,?_⟩
    refine⟨_,rfl,_,rfl,x',y',rfl,(hi i x' y' hx' hy').mono s3,fun H' s'=>?_⟩
    have hD':H' D=some (.lst (List.replicate i (.bl true))):=s' _ _ (by rw[Zd nDr];exact hD2)
    refine⟨hD',(by rw[Q7];exact ZH (by omega)),⟨_,_,rfl⟩,?_,?_,Zc,hil⟩
    ·rw[List.replicate_succ']
    ·intro b o e
     have e1:=s' b o (s3 b o e)
     rw[Zd (fun z=>by subst z;exact nomatch (sD b o e).symm.trans hD)]
     exact e1
   ·rintro zs σ H2 ⟨_,rfl,s2,hD2,_⟩
    refine⟨D,List.replicate (min xs.length ys.length) true,rfl,SqL.of (by rw[List.map_replicate];exact hD2),?_⟩
    have e:(List.replicate (min xs.length ys.length) true).all id=true:=by rw[QaX];intro b hb;exact(List.eq_of_mem_replicate hb)
    rw[e]
    exact q H2 s2
  ·have hxT:(upd H tp (.tup (["list", "tuple"].map V.ty))) p=some (.tup xs):=by rw[Zd (Zb hp htp)];exact hp
   have hyT:(upd H tp (.tup (["list", "tuple"].map V.ty))) q2=some (.tup ys):=by rw[Zd (Zb hq htp)];exact hq
   refine⟨_,tp,["list", "tuple"],_,_,rfl,Zc,.tup hyT,Zlk K,_,rfl,Zdj ?_⟩
   refine⟨_,rfl,_, "list",_,_,rfl,.tup hxT,ZgP K,_,rfl,_, "list",_,_,rfl,.tup hyT,ZgP K,rfl,_,rfl,ZfM rfl ?_⟩
   refine⟨_,rfl,_, "tuple",_,_,rfl,.tup hxT,ZdA K,_,rfl,_, "tuple",_,_,rfl,.tup hyT,ZdA K,rfl,_,rfl,ZfM rfl ?_⟩
   refine⟨_,rfl,p,xs,rfl,.inr (SqT.of hxT),_,rfl,q2,ys,rfl,.inr (SqT.of hyT),rfl,_,rfl,Zef (by rw[hl]) ?_⟩
   refine⟨_,rfl,_,rfl,.t p,.t q2,xs,ys,rfl,SqT.of hxT,SqT.of hyT,fun D hD=>?_⟩
   have sD:Zw H (upd H tp (.tup (["list", "tuple"].map V.ty))):=Zh htp _
   refine ZhR (K:=K) (xs:=xs) (ys:=ys) (fun i zs σ H2=>(∃v1 v2,σ=[some (.ref p),some (.ref q2),v1,v2])∧zs=List.replicate i (.bl true)∧Zw H H2∧H2 D=some (.lst zs)∧i≤xs.length) ?_ ?_ ?_ ?_
   ·exact⟨⟨none,none,rfl⟩,rfl,sD.trans (Zh hD _),Zc,Qq _⟩
   ·rintro i zs σ H2 ⟨_,_,s2,_⟩
    exact⟨SqT.of (s2 _ _ hp),SqT.of (s2 _ _ hq)⟩
   ·rintro i zs σ H2 x' y' r hx' hy' ⟨⟨v1,v2,rfl⟩,rfl,s2,hD2,hiz⟩ hr
    have hil:i<xs.length:=(Qd.mp hx').1
    have nDr:D≠r:=Zb hD2 hr
    have s3:Zw H (upd H2 r (.tup [x',y'])):=s2.trans (Zh hr _)
    refine⟨r,_,rfl,SqT.of Zc,rfl,_,_,rfl,_,_,rfl,rfl,?_⟩
    refine⟨_,rfl,_,rfl,x',y',rfl,(hi i x' y' hx' hy').mono s3,fun H' s'=>?_⟩
    have hD':H' D=some (.lst (List.replicate i (.bl true))):=s' _ _ (by rw[Zd nDr];exact hD2)
    refine⟨hD',(by rw[Q7];exact ZH (by omega)),⟨_,_,rfl⟩,?_,?_,Zc,hil⟩
    ·rw[List.replicate_succ']
    ·intro b o e
     have e1:=s' b o (s3 b o e)
     rw[Zd (fun z=>by subst z;exact nomatch (sD b o e).symm.trans hD)]
     exact e1
   ·rintro zs σ H2 ⟨_,rfl,s2,hD2,_⟩
    refine⟨D,List.replicate (min xs.length ys.length) true,rfl,SqL.of (by rw[List.map_replicate];exact hD2),?_⟩
    have e:(List.replicate (min xs.length ys.length) true).all id=true:=by rw[QaX];intro b hb;exact(List.eq_of_mem_replicate hb)
    rw[e]
    exact q H2 s2
theorem Zak.new{H:Hp}{p l:Addr}{c:Int}{o:HO}(h:Zak H p c)(n:H l=none):Zak (upd H l o) p c:=by
 obtain⟨a,b,hp,c0⟩:=h
 exact⟨a,b,by rw[Zd (Zb hp n)];exact hp,c0⟩
theorem Zak.ge{H:Hp}{p:Addr}{c:Int}(h:Zak H p c):0≤c:=by obtain⟨a,b,hp,c0⟩:=h;exact c0
theorem Zak.here{H:Hp}{p:Addr}{c:Int}(h:Zak H p c):∃o,H p=some o:=by obtain⟨a,b,hp,c0⟩:=h;exact⟨_,hp⟩
theorem Zak.at{H:Hp}{p l:Addr}{c:Int}{o:HO}(h:Zak H p c)(n:p≠l):Zak (upd H l o) p c:=by
 obtain⟨a,b,hp,c0⟩:=h
 exact⟨a,b,by rw[Zd n];exact hp,c0⟩
theorem ZfU:∀ss:List Str,(∀s∈ss,AZ s)→PyData.canLayAll0 (ss.map PyData.str)=true
 | [],_=>rfl
 | x::r,h=>by simp[PyData.canLayAll0,PyData.canLay0,(h x (by simp)).ok,ZfU r fun s hs=>h s (List.mem_cons_of_mem _ hs)]
theorem ZdS:∀ss:List Str,PyData.depthAll (ss.map PyData.str)=0
 | []=>rfl
 | _::r=>by simp[PyData.depthAll,PyData.depth,ZdS r]
theorem ZhG(ss:List Str)(h:∀s∈ss,AZ s):SeqAt.shaped (.list (ss.map PyData.str))=true:=by simp[SeqAt.shaped,PyData.canLay0,PyData.depth,ZfU ss h,ZdS]
theorem Zkj{K:PySem.W.Frag}{H:Hp}:∀ss:List Str,DVs K H (ss.map V.str) (ss.map PyData.str)
 | []=>.nil
 | s::r=>.cons (.str s) (Zkj r)
def spKeys:Sp:=fun vs H Q _=>∃ (p l:Addr) (c most:Int) (ss:List Str),vs=[.ref p,.ref l,.int most]∧Zak H p c∧c<2 ^ 40∧0≤most∧most≤60∧H l=some (.lst (ss.map V.str))∧1≤ss.length∧ss.length≤4∧(∀s∈ss,s.length≤24∧AZ s) ∧
 ∀ (r:Addr) (ts:List Str) (c':Int) (H':Hp),H r=none→H' r=some (.lst (ts.map V.str))→(ts.length:Int)≤most→(∀s∈ts,s.length≤28∧AZ s)→Zak H' p c'→c≤c'→c'≤c+600→But p H H'→Q (.ref r) H'
def Zci(ss:List Str)(i:Nat):Int:=if i=0 then 0 else (lcp (cds (ss.getD (i-1) "")) (cds (ss.getD i "")):Nat)
def Zfc(K:PySem.W.Frag):Sp:=fun vs H Q _=>∃ (a:Addr) (ss:List Str),vs=[.ref a]∧SqL K H a (ss.map V.str)∧ss.length≤100∧(∀s∈ss,s.length≤1000) ∧
 ∀ (r:Addr) (H':Hp),H r=none→H' r=some (.lst ((List.range ss.length).map fun j=>.int (Zci ss j)))→Zw H H'→Q (.ref r) H'
theorem ZkK(T:Zau K mg cRow cMerge)(f_alike:Df P w K mg base 2 "alike" ["one", "other"] Ze4):Df P w K mg base 3 "alikes" ["row"] (Zfc K):=by
 refine T.t_alikes.df Zdw (fun vs H Q E h=>?_) (fun cdv f A outer s H vs Q E hr h=>?_)
 ·obtain⟨a,ss,rfl,_⟩:=h
  rfl
 obtain⟨a,ss,rfl,hS,hn,hlen,q⟩:=h
 refine⟨_,#[Zf,#[Zu,1,Zdw.nd,(Or.inl rfl),#[Zah,#[Ze]]],#[Zf,#[Zcf,PassesOwn.never,#[iE,K,T.b.n_enumerate,#[Za,‹0›,#[Ze]]],#[gT,K,2,#[Zy,#[ZN,2,Zdw.nd],#[Zy,#[ZN,3,Zdw.nd],(@ZaY _)]]],#[Zj,#[Zam,#[ZbK,QA,QI,QJ,Zaj,‹1›,#[Za,#[Zby,#[Zo,Zbj,‹2›,#[Zi],(Zt _)],#[Zi],#[Zz,f_alike,hr,#[Za,#[ZA,(ixL K),‹0›,#[ZI,Zev,‹2›,#[Zi]]],#[Za,‹3›,#[Ze]]],(by rfl)]],#[Ze]]]]]],#[Zj,#[Zp,‹1›]]]],?_⟩
 refine⟨(by show 0≤sizeLine;decide),fun r hr0=>?_⟩
 have s1:Zw H (upd H r (.lst [])):=Zh hr0 _
 refine⟨_,rfl,a,ss.map V.str,rfl,s1.seq hS,?_⟩
 refine Zid (K:=K) (a:=a) (xs:=ss.map V.str) (fun i σ H2=>(∃v1 v2:Option V,σ=[some (.ref a),some (.ref r),v1,v2])∧H2 r=some (.lst ((List.range i).map fun j=>.int (Zci ss j)))∧Zw H H2∧i≤ss.length) ⟨⟨none,none,rfl⟩,Zc,s1,Qq _⟩ (fun _ _ _ hq=>by obtain⟨_,_,s2,_⟩:=hq;exact s2.seq hS) ?_ ?_
 ·rintro i x σ H2 p hx ⟨⟨v1,v2,rfl⟩,hr2,s2,hi⟩ hp
  rw[Qj]at hx
  cases hy:ss[i]? with
  | none=>rw[hy]at hx;cases hx
  | some y =>
   rw[hy]at hx
   cases hx
   have hil:i<ss.length:=(Qd.mp hy).1
   have npr:r≠p:=Zb hr2 hp
   have s3:Zw H (upd H2 p (.tup [.int i,.str y])):=s2.trans (Zh hp _)
   have hr3:(upd H2 p (.tup [.int i,.str y])) r=some (.lst ((List.range i).map fun j=>.int (Zci ss j))):=by rw[Zd npr];exact hr2
   have hlt:((List.range i).map fun j=>V.int (Zci ss j)).length<sizeLine:=by rw[Qb,QaQ];exact ZH (by omega)
   have fin:∀z:Int,z=Zci ss i→(∃v1 v2:Option V,[some (V.ref a),some (V.ref r),some (V.int i),some (V.str y)]=[some (.ref a),some (.ref r),v1,v2]) ∧
     (upd (upd H2 p (.tup [.int i,.str y])) r (.lst (((List.range i).map fun j=>.int (Zci ss j))++[.int z]))) r=some (.lst ((List.range (i+1)).map fun j=>.int (Zci ss j))) ∧
     Zw H (upd (upd H2 p (.tup [.int i,.str y])) r (.lst (((List.range i).map fun j=>.int (Zci ss j))++[.int z])))∧i+1≤ss.length:=fun z e=>by
    refine⟨⟨_,_,rfl⟩,?_,fun b o h=>?_,hil⟩
    ·rw[Zc,List.range_succ,Qe,e];rfl
    ·rw[Zd (Zb h hr0)];exact s3 b o h
   refine⟨p,_,rfl,SqT.of Zc,rfl,_,_,rfl,_,_,rfl,rfl,?_⟩
   refine⟨_,rfl,.inl ⟨rfl,_,SqL.of hr3⟩,_,rfl,rfl,_,rfl,?_⟩
   by_cases e0:i=0
   ·subst e0
    exact Zef rfl ⟨r,_,_,rfl,rfl,hr3,hlt,fin 0 rfl⟩
   ·have hprev:i-1<ss.length:=by omega
    have ei:((i:Int)-1)=((i-1:Nat):Int):=by omega
    have hat:atI (ss.map V.str) ((i:Int)-1)=some (.str ss[i-1]):=by rw[ei];exact Z3 (by rw[Qj,Qa hprev]<;>rfl)
    refine ZcS (fun z=>by injection z with z;omega) ⟨_,rfl,_,rfl,_,_,rfl,rfl,a,_,_,_,rfl,rfl,s3.seq hS,hat,_,rfl,ss[i-1],y,rfl,hlen _ (QV hprev),hlen _ (Qp hy),r,_,_,rfl,rfl,hr3,hlt,fin _ ?_⟩
    unfold Zci
    rw[if_neg e0,Qo,Qo,Qa hprev,hy]
    rfl
 ·rintro σ H2 ⟨⟨v1,v2,rfl⟩,hr2,s2,hi⟩
  rw[Qb]at hr2
  exact⟨_,rfl,q r H2 hr0 hr2 s2⟩
def ZG:List Nat→List Nat→Int
 | [],[]=>0
 | [],_::_ =>-1
 | _::_,[]=>1
 | a::r,b::s=>if a=b then ZG r s else if a<b then -1 else 1
theorem Zgk:∀ (x y:List Nat),Spec.ltCps y x=false→ZG x y≤0
 | [],[],_=>by unfold ZG;omega
 | [],_::_,_=>by unfold ZG;omega
 | _::_,[],h=>by unfold Spec.ltCps at h;cases h
 | a::r,b::s,h=>by
  have ih:=Zgk r s
  unfold Spec.ltCps at h
  unfold ZG
  rw[Bool.or_eq_false_iff,Bool.and_eq_false_iff]at h
  obtain⟨h1,h2⟩:=h
  have h1':¬ b<a:=of_decide_eq_false h1
  by_cases e:a=b
  ·rw[if_pos e]
   rcases h2 with z|z
   ·rw[e]at z;simp at z
   ·exact ih z
  ·rw[if_neg e,if_pos (by omega)]
   omega
theorem ZcH:∀ (x y z:List Nat),ZG x y≤0→ZG y z≤0→ZG x z≤0
 | [],_,[],_,_=>by unfold ZG;omega
 | [],_,_::_,_,_=>by unfold ZG;omega
 | _::_,[],_,h,_=>by unfold ZG at h;omega
 | _::_,_::_,[],_,h=>by unfold ZG at h;omega
 | a::r,b::s,c::t,h1,h2=>by
  unfold ZG at h1 h2 ⊢
  have ih:=ZcH r s t
  by_cases e1:a=b
  ·rw[if_pos e1]at h1
   by_cases e2:b=c
   ·rw[if_pos e2]at h2
    rw[if_pos (e1.trans e2)]
    exact ih h1 h2
   ·rw[if_neg e2]at h2
    rw[if_neg (fun e=>e2 (e1.symm.trans e))]
    split at h2
    ·rw[if_pos (by omega)];omega
    ·omega
  ·rw[if_neg e1]at h1
   split at h1
   ·by_cases e2:b=c
    ·rw[if_neg (fun e=>e1 (e.trans e2.symm)),if_pos (by omega)];omega
    ·rw[if_neg e2]at h2
     split at h2
     ·rw[if_neg (by omega),if_pos (by omega)];omega
     ·omega
   ·omega
theorem ZgC:∀ (ss:List Str) (p:Str),risingS p ss=true→∀ (k:Nat) (x y:Str),(p::ss)[k]? = some x→ss[k]? = some y→ZG (cds x) (cds y)≤0
 | [],p,_,k,x,y,_,h=>by simp at h
 | z::r,p,h,0,x,y,h1,h2=>by
  unfold risingS at h
  rw[QX]at h
  simp at h1 h2
  subst h1 h2
  exact Zgk _ _ (by simpa using h.1)
 | z::r,p,h,k+1,x,y,h1,h2=>by
  unfold risingS at h
  rw[QX]at h
  exact ZgC r z h.2 k x y (by simpa using h1) (by simpa using h2)
theorem Zgs{ss:List Str}(h:sortedS ss=true)(k:Nat)(x y:Str)(h1:ss[k]? = some x)(h2:ss[k+1]? = some y):ZG (cds x) (cds y)≤0:=by
 cases ss with
 | nil=>simp at h1
 | cons p r=>exact ZgC r p h k x y h1 (by simpa using h2)
theorem ZjV{ss:List Str}{k:Nat}(h:k<ss.length):atI (ss.map V.str) (k:Int)=some (.str ss[k]):=Z3 (by rw[Qj,Qa h]<;>rfl)
theorem ZlD(xs:List V)(i j:Nat)(h:i≤xs.length)(h2:j≤xs.length):ZdY xs (some i) (some j)=(xs.drop i).take (j-i):=by
 have e:∀ (k d:Nat),k≤xs.length→HT.sIx xs.length d (some (k:Int))=k:=fun k d hk=>by
  unfold HT.sIx
  simp only[]
  rw[if_neg (by omega)]
  omega
 unfold ZdY
 rw[e i _ h,e j _ h2]
def lawInv(H:Hp)(a p:Addr)(j:Nat)(σ:L2.St)(H4:Hp):Prop:=∃ (u1 u3 u4 u5 u6 u7 u8 u9:Option V) (c:Int),σ=[some (.ref a),u1,some (.ref p),u3,u4,u5,u6,u7,u8,u9]∧Zw H H4∧Zak H4 p c∧c≤700*j
theorem Zak.same{H H':Hp}{p:Addr}{c:Int}(h:Zak H p c)(s:Zw H H'):Zak H' p c:=by obtain⟨b1,b2,hb,c0⟩:=h;exact⟨b1,b2,s _ _ hb,c0⟩
def mid(ns:List Int):Nat:=(ns.length+1) / 2
def ZdB(ns:List Int):List Int:=ns.take (mid ns)
def Zf2(ns:List Int):List Int:=ns.drop (mid ns)
theorem ZoO(ns:List Int):((((ns.map V.int).length:Nat):Int)+1) / 2=((mid ns:Nat):Int):=by
 rw[Qb];unfold mid;omega
theorem ZjX{ns:List Int}{k:Int}(h0:0≤k)(h:k<(ns.length:Int)):∃v∈ns,atI (ns.map V.int) k=some (.int v):=by
 have hk:k.toNat<ns.length:=by omega
 have ek:k=((k.toNat:Nat):Int):=by omega
 have q:atI (ns.map V.int) ((k.toNat:Nat):Int)=some (.int ns[k.toNat]):=Z3 (by rw[Qj,Qa hk]<;>rfl)
 rw[← ek]at q
 exact⟨_,QV hk,q⟩
theorem Zqe(ns:List Int)(m:Nat)(h:m≤ns.length):ZdY (ns.map V.int) none (some (m:Int))=(ns.take m).map V.int:=by
 unfold ZdY
 have e:HT.sIx (ns.map V.int).length (ns.map V.int).length (some (m:Int))=m:=by
  unfold HT.sIx
  simp only[List.length_map]
  rw[if_neg (by omega)]
  omega
 have e0:HT.sIx (ns.map V.int).length 0 none=0:=rfl
 rw[e,e0,List.drop_zero,Nat.sub_zero,List.map_take]
theorem ZmO(ns:List Int)(m:Nat)(h:m≤ns.length):ZdY (ns.map V.int) (some (m:Int)) none=(ns.drop m).map V.int:=by
 unfold ZdY
 have e:HT.sIx (ns.map V.int).length 0 (some (m:Int))=m:=by
  unfold HT.sIx
  simp only[List.length_map]
  rw[if_neg (by omega)]
  omega
 have e0:HT.sIx (ns.map V.int).length (ns.map V.int).length none=(ns.map V.int).length:=rfl
 rw[e,e0,List.map_drop,Qw (by rw[QP,Qb];omega)]
theorem Zj8(z:Str):(cds z).length=z.length:=by simp[Str.length]
theorem Zj7:∀ (x y:List Nat),(lcp x y=x.length→lcp x y=y.length→ZG x y=0)∧(lcp x y=x.length→lcp x y≠y.length→ZG x y = -1)∧(lcp x y≠x.length→lcp x y=y.length→ZG x y=1) ∧
  ∀a b,x[lcp x y]? = some a→y[lcp x y]? = some b→ZG x y=if a<b then -1 else 1
 | [],[]=>⟨fun _ _=>rfl,fun _ h=>absurd rfl h,fun h _=>absurd rfl h,fun a b h _=>by simp at h⟩
 | [],_::_=>⟨fun _ h=>by unfold lcp at h;simp at h,fun _ _=>rfl,fun h _=>absurd rfl h,fun a b h _=>by simp at h⟩
 | _::_,[]=>⟨fun h _=>by unfold lcp at h;simp at h,fun h _=>by unfold lcp at h;simp at h,fun _ _=>rfl,fun a b _ h=>by simp at h⟩
 | a::r,b::s=>by
  obtain⟨h1,h2,h3,h4⟩:=Zj7 r s
  unfold lcp ZG
  by_cases e:a=b
  ·rw[if_pos e,if_pos e]
   simp only[List.length_cons,List.getElem?_cons_succ]
   exact⟨fun p q=>h1 (by omega) (by omega),fun p q=>h2 (by omega) (by omega),fun p q=>h3 (by omega) (by omega),h4⟩
  ·rw[if_neg e,if_neg e]
   simp only[List.length_cons,List.getElem?_cons_zero]
   refine⟨fun p=>by omega,fun p=>by omega,fun _ p=>by omega,fun c d p q=>?_⟩
   cases p;cases q
   rfl
theorem Zbh:∀ (x y:List Nat),ZG y x =-ZG x y
 | [],[]=>rfl
 | [],_::_=>rfl
 | _::_,[]=>rfl
 | a::r,b::s=>by
  have ih:=Zbh r s
  unfold ZG
  by_cases e:a=b
  ·rw[if_pos e,if_pos e.symm,ih]
  ·rw[if_neg e,if_neg fun z=>e z.symm]
   by_cases l:a<b
   ·rw[if_pos l,if_neg (by omega)];rfl
   ·rw[if_neg l,if_pos (by omega)]
theorem Zqi(a b:Nat):decide ((⟨#[a]⟩:Str).cps.toList<(⟨#[b]⟩:Str).cps.toList)=decide (a<b):=by
 have e:([a]:List Nat)<[b]↔a<b:=by
  constructor
  ·intro h
   cases h with
   | rel h=>exact h
   | cons h=>cases h
  ·exact fun h=>List.Lex.rel h
 exact decide_eq_decide.mpr e
theorem Zel:∀x:List Nat,ZG x x=0
 | []=>rfl
 | a::r=>by unfold ZG;rw[if_pos rfl];exact Zel r
theorem Zek:∀ (x y:List Nat),ZG x y=0→x=y
 | [],[],_=>rfl
 | [],_::_,h=>by unfold ZG at h;omega
 | _::_,[],h=>by unfold ZG at h;omega
 | a::r,b::s,h=>by
  unfold ZG at h
  by_cases e:a=b
  ·rw[if_pos e]at h
   rw[e,Zek r s h]
  ·rw[if_neg e]at h
   split at h<;>omega
def Zhp:Sp:=fun vs H Q _=>∃x y:Str,vs=[.str x,.str y]∧x.length≤1000∧y.length≤1000∧Q (.int (ZG (cds x) (cds y))) H
def Ze8:Sp:=fun vs H Q _=>∃x y:Str,vs=[.str x,.str y,.int (lcp (cds x) (cds y):Nat)]∧x.length≤1000∧y.length≤1000∧Q (.int (ZG (cds x) (cds y))) H
theorem Znm(T:Zau K mg cRow cMerge):Df P w K mg base 1 "order_at" ["one", "other", "at"] Ze8:=by
 refine T.t_order_at.df ZhF (fun vs H Q E h=>?_) (fun cdv f A outer s H vs Q E hr h=>?_)
 ·obtain⟨x,y,rfl,_⟩:=h
  rfl
 obtain⟨x,y,rfl,hx,hy,q⟩:=h
 refine⟨_,#[Zf,#[Zag,(@PW.pt _ _ _ #[ZeH,#[Zo,Zbj,‹2›,#[Zk,ZaW,(by rfl),T.b.n_len,Qx,#[Za,‹0›,#[Ze]]],(Zt _)],(@Zd3 _ _ _ _ #[Zo,Zbj,‹2›,#[Zk,ZaW,(by rfl),T.b.n_len,Qx,#[Za,‹1›,#[Ze]]],(Zt _)])]),#[Zj,#[Zp,#[Zi]]],#[ZD]],#[Zf,#[Zag,#[Zo,Zbj,‹2›,#[Zk,ZaW,(by rfl),T.b.n_len,Qx,#[Za,‹0›,#[Ze]]],(Zt _)],#[Zj,#[Zp,(@ZgD _ _ _ _ _ _ ZeG #[Zi])]],#[ZD]],#[Zf,#[Zag,#[Zo,Zbj,‹2›,#[Zk,ZaW,(by rfl),T.b.n_len,Qx,#[Za,‹1›,#[Ze]]],(Zt _)],#[Zj,#[Zp,#[Zi]]],#[ZD]],#[Zj,#[Zp,#[Zby,#[Zo,Zgh,#[ZA,Zfl,‹0›,‹2›],#[ZA,Zfl,‹1›,‹2›],(Zt _)],(@ZgD _ _ _ _ _ _ ZeG #[Zi]),#[Zi]]]]]]],?_⟩
 obtain⟨o1,o2,o3,o4⟩:=Zj7 (cds x) (cds y)
 have ll:=ZfK (cds x) (cds y)
 have lx:=Zj8 x
 have ly:=Zj8 y
 have inj:∀ {m n:Nat},V.int (m:Int)=V.int (n:Int)→m=n:=fun {m n} e=>by injection e with e;omega
 refine⟨_,rfl,_,rfl,x,rfl,Zb5 hx,rfl,_,rfl,Za9 (fun d=>?_) (fun d=>?_)⟩
 ·have d1:=inj (of_decide_eq_true d)
  refine⟨_,rfl,_,rfl,y,rfl,Zb5 hy,rfl,_,rfl,Za9 (fun d2=>?_) (fun d2=>?_)⟩
  ·have d2':=inj (of_decide_eq_true d2)
   rw[o1 (by omega) (by omega)]at q
   exact q
  ·have d2':¬ lcp (cds x) (cds y)=y.length:=fun e=>d2 (by rw[e];exact decide_eq_true rfl)
   refine⟨_,rfl,_,rfl,x,rfl,Zb5 hx,rfl,_,rfl,Zef (by rw[d1]) ?_⟩
   rw[o2 (by omega) (by omega)]at q
   exact⟨_,rfl,q⟩
 ·have d1:¬ lcp (cds x) (cds y)=x.length:=fun e=>d (by rw[e];exact decide_eq_true rfl)
  refine ZbM ⟨_,rfl,_,rfl,x,rfl,Zb5 hx,rfl,_,rfl,ZcS (fun e=>d1 (inj e)) ?_⟩
  refine⟨_,rfl,_,rfl,y,rfl,Zb5 hy,rfl,_,rfl,Za9 (fun d2=>?_) (fun d2=>?_)⟩
  ·have d2':=inj (of_decide_eq_true d2)
   rw[o3 (by omega) (by omega)]at q
   exact q
  ·have d2':¬ lcp (cds x) (cds y)=y.length:=fun e=>d2 (by rw[e];exact decide_eq_true rfl)
   obtain⟨a,ha,ha'⟩:=Zeb (z:=x) (k:=(lcp (cds x) (cds y):Nat)) (by omega) (by omega)
   obtain⟨b,hb,hb'⟩:=Zeb (z:=y) (k:=(lcp (cds x) (cds y):Nat)) (by omega) (by omega)
   rw[Qaf]at ha hb
   refine⟨_,rfl,_,rfl,x,_,a,rfl,rfl,Zb5 hx,ha',_,rfl,_,rfl,y,_,b,rfl,rfl,Zb5 hy,hb',_,_,rfl,rfl,_,rfl,?_⟩
   rw[Zqi]
   rw[o4 a b ha hb]at q
   refine Za9 (fun e=>?_) (fun e=>?_)
   ·rw[if_pos (of_decide_eq_true e)]at q
    exact⟨_,rfl,q⟩
   ·rw[if_neg (fun z=>e (decide_eq_true z))]at q
    exact q
theorem Znx(T:Zau K mg cRow cMerge)(f_alike:Df P w K mg base 2 "alike" ["one", "other"] Ze4)(f_order_at:Df P w K mg base 1 "order_at" ["one", "other", "at"] Ze8):Df P w K mg base 3 "liken" ["one", "other"] Zhp:=by
 refine T.t_liken.df Zm2 (fun vs H Q E h=>?_) (fun cdv f A outer s H vs Q E hr h=>?_)
 ·obtain⟨x,y,rfl,_⟩:=h
  rfl
 obtain⟨x,y,rfl,hx,hy,q⟩:=h
 refine⟨_,#[Zj,#[Zp,#[Zz,f_order_at,hr,#[Za,‹0›,#[Za,‹1›,#[Za,#[Zz,f_alike,hr,#[Za,‹0›,#[Za,‹1›,#[Ze]]],(by rfl)],#[Ze]]]],(by rfl)]]],?_⟩
 exact⟨_,rfl,_,rfl,_,rfl,_,rfl,x,y,rfl,hx,hy,x,y,rfl,hx,hy,q⟩
theorem Zb7{p:Addr}{H H1:Hp}{l:Addr}(B:But p H H1)(n:p≠l)(h:H1 l=none):H l=none:=by
 cases w':H l with
 | none=>rfl
 | some u=>rw[B l u w' n.symm]at h;cases h
theorem Zo3{c A B:Prop}[Decidable c](hc:¬ c)(h:A):if (!decide c)=true then A else B:=by
 rw[if_pos (by rw[decide_eq_false hc];rfl)]
 exact h
def ZcV:Sp:=fun vs H Q _=>∃ (x y:Str) (far:Nat),vs=[.str x,.str y,.int far]∧x.length≤1000∧y.length≤1000∧far≤lcp (cds x) (cds y) ∧
 ∀t,H t=none→Q (.ref t) (upd H t (.tup [.int (ZG (cds x) (cds y)),.int (lcp (cds x) (cds y):Nat),.int ((lcp (cds x) (cds y):Nat)-(far:Int)+1)]))
theorem Zf6(T:Zau K mg cRow cMerge)(f_alike_from:Df P w K mg base 1 "alike_from" ["one", "other", "far"] Zb6)(f_order_at:Df P w K mg base 1 "order_at" ["one", "other", "at"] Ze8):Df P w K mg base 2 "liken_from" ["one", "other", "far"] ZcV:=by
 refine T.t_liken_from.df ZdI (fun vs H Q E h=>?_) (fun cdv f A outer s H vs Q E hr h=>?_)
 ·obtain⟨x,y,far,rfl,_⟩:=h
  rfl
 obtain⟨x,y,far,rfl,hx,hy,hf,q⟩:=h
 refine⟨_,#[Zf,#[Zu,3,ZdI.nd,(Or.inl rfl),#[Zz,f_alike_from,hr,#[Za,‹0›,#[Za,‹1›,#[Za,‹2›,#[Ze]]]],(by rfl)]],#[Zj,#[Zp,#[Za1,#[Za,#[Zz,f_order_at,hr,#[Za,‹0›,#[Za,‹1›,#[Za,‹3›,#[Ze]]]],(by rfl)],#[Za,‹3›,#[Za,#[ZI,ZaD,#[ZI,Zev,‹3›,‹2›],#[Zi]],#[Ze]]]]]]]],?_⟩
 refine⟨_,rfl,_,rfl,_,rfl,x,y,far,rfl,hx,hy,hf,?_⟩
 refine⟨_,rfl,_,rfl,_,rfl,x,y,rfl,hx,hy,?_⟩
 refine⟨_,rfl,_,rfl,_,rfl,_,_,rfl,rfl,_,_,rfl,rfl,(by show 3≤sizeLine;decide),fun t ht=>?_⟩
 exact q t ht
def Zh8(ss:List Str)(v:V):Prop :=
 (v=.non∧∀i x y,ss[i+1]? = some x→ss[i]? = some y→0≤ZG (cds x) (cds y)) ∨
 ∃k:Nat,v=.int ((k+1:Nat):Int)∧k+1<ss.length∧(∀x y,ss[k+1]? = some x→ss[k]? = some y→ZG (cds x) (cds y)<0)∧∀i,i<k→∀x y,ss[i+1]? = some x→ss[i]? = some y→0≤ZG (cds x) (cds y)
theorem ZnX{ss:List Str}{v v':V}(h:Zh8 ss v)(h':Zh8 ss v'):v=v':=by
 rcases h with⟨rfl,a⟩|⟨k,rfl,l,b,c⟩
 ·rcases h' with⟨rfl,_⟩|⟨k',rfl,l',b',_⟩
  ·rfl
  ·have:=a k' _ _ (Qa l') (Qa (by omega))
   have:=b' _ _ (Qa l') (Qa (by omega))
   omega
 ·rcases h' with⟨rfl,a⟩|⟨k',rfl,l',b',c'⟩
  ·have:=a k _ _ (Qa l) (Qa (by omega))
   have:=b _ _ (Qa l) (Qa (by omega))
   omega
  ·have e:k=k':=by
    rcases Nat.lt_trichotomy k k' with h|h|h
    ·have:=c' k h _ _ (Qa l) (Qa (by omega))
     have:=b _ _ (Qa l) (Qa (by omega))
     omega
    ·exact h
    ·have:=c k' h _ _ (Qa l') (Qa (by omega))
     have:=b' _ _ (Qa l') (Qa (by omega))
     omega
   rw[e]
def Zmx(K:PySem.W.Frag):Sp:=fun vs H Q _=>∃ (a:Addr) (ss:List Str),vs=[.ref a]∧SqL K H a (ss.map V.str)∧ss.length≤200∧(∀s∈ss,s.length≤1000)∧∀ (v:V) (H':Hp),Zh8 ss v→Zw H H'→Q v H'
theorem Znj(T:Zau K mg cRow cMerge)(f_liken:Df P w K mg base 3 "liken" ["one", "other"] Zhp):Df P w K mg base 4 "first_break" ["keys"] (Zmx K):=by
 refine T.t_first_break.df ZcW (fun vs H Q E h=>?_) (fun cdv f A outer s H vs Q E hr h=>?_)
 ·obtain⟨a,ss,rfl,_⟩:=h
  rfl
 obtain⟨a,ss,rfl,hS,hn,hlen,q⟩:=h
 refine⟨_,#[Zf,#[Zcf,PassesOwn.never,(@Zld _ _ _ _ _ _ _ rfl T.b.n_range #[Za,#[Zi],#[Za,#[Zk,(Zbn K),(by rfl),T.b.n_len,Qx,#[Za,‹0›,#[Ze]]],#[Ze]]] (by rfl) (by rfl)),#[ZN,1,ZcW.nd],#[Zj,#[Zag,#[Zo,ZeT,#[Zz,f_liken,hr,#[Za,#[ZA,(ixL K),‹0›,‹1›],#[Za,#[ZA,(ixL K),‹0›,#[ZI,Zev,‹1›,#[Zi]]],#[Ze]]],(by rfl)],#[Zi],(Zt _)],#[Zj,#[Zp,‹1›]],#[ZD]]]],#[Zj,#[Zp,#[Zay]]]],?_⟩
 have hl:(((ss.map V.str).length:Nat):Int)=(ss.length:Int):=by rw[Qb]
 refine⟨_,rfl,a,_,rfl,.inl hS,_,_,rfl,⟨by omega,by omega,by omega,by omega⟩,?_⟩
 refine Zcz (fun i σ H2=>(∃v:Option V,σ=[some (.ref a),v])∧Zw H H2∧∀j,j<i→∀x y,ss[j+1]? = some x→ss[j]? = some y→0≤ZG (cds x) (cds y)) ⟨⟨none,rfl⟩,Zw.refl H,fun j h=>by omega⟩ ?_ ?_
 ·rintro i σ H2 hi ⟨⟨v,rfl⟩,s2,h2⟩
  have hi1:i+1<ss.length:=by omega
  have e1:(1+(i:Int))=((i+1:Nat):Int):=by omega
  have e0:(1+(i:Int)-1)=((i:Nat):Int):=by omega
  refine⟨_,rfl,_,rfl,a,_,_,_,rfl,rfl,s2.seq hS,(by rw[e1];exact ZjV hi1),_,rfl,_,rfl,_,_,rfl,rfl,a,_,_,_,rfl,rfl,s2.seq hS,(by rw[e0];exact ZjV (by omega)),ss[i+1],ss[i],rfl,hlen _ (QV hi1),hlen _ (QV (by omega)),_,_,rfl,rfl,_,rfl,?_⟩
  refine Za9 (fun d=>?_) (fun d=>?_)
  ·have d':ZG (cds ss[i+1]) (cds ss[i])<0:=of_decide_eq_true d
   refine⟨_,rfl,q _ H2 (.inr ⟨i,by rw[e1],hi1,fun x y h1 h0=>?_,h2⟩) s2⟩
   rw[Qa hi1]at h1
   rw[Qa (by omega)]at h0
   cases h1;cases h0
   omega
  ·have d':¬ ZG (cds ss[i+1]) (cds ss[i])<0:=fun z=>d (decide_eq_true z)
   refine⟨⟨_,rfl⟩,s2,fun j hj x y h1 h0=>?_⟩
   by_cases ej:j=i
   ·subst ej
    rw[Qa hi1]at h1
    rw[Qa (by omega)]at h0
    cases h1;cases h0
    omega
   ·exact h2 j (by omega) x y h1 h0
 ·rintro σ H2 ⟨⟨v,rfl⟩,s2,h2⟩
  refine q _ H2 (.inl ⟨rfl,fun j x y h1 h0=>?_⟩) s2
  have:=(Qd.mp h1).1
  exact h2 j (by omega) x y h1 h0
def ZdZ(K:PySem.W.Frag)(tup:Bool):Sp:=fun vs H Q _=>∃ (a:Addr) (ns:List Int),vs=[.ref a]∧SqL K H a (ns.map V.int)∧ns.length≤100 ∧
 ∀ (t f r:Addr) (H':Hp),H t=none→H f=none→H r=none→f≠r→H' t=some (if tup=true then .tup [.ref f,.ref r] else .lst [.ref f,.ref r])→H' f=some (.lst ((ZdB ns).map V.int))→H' r=some (.lst ((Zf2 ns).map V.int))→Zw H H'→t≠f→t≠r→Q (.ref t) H'
theorem ZlZ{H:Hp}{f r t:Addr}{A B T:HO}(hf:H f=none)(hr:(upd H f A) r=none)(ht:(upd (upd H f A) r B) t=none) :
  H r=none∧H t=none∧f≠r∧t≠f∧t≠r∧(upd (upd (upd H f A) r B) t T) f=some A∧(upd (upd (upd H f A) r B) t T) r=some B∧Zw H (upd (upd (upd H f A) r B) t T):=by
 have n1:f≠r:=Zb (H:=upd H f A) (o:=A) Zc hr
 have e1:(upd (upd H f A) r B) f=some A:=by rw[Zd n1];exact Zc
 have n2:f≠t:=Zb e1 ht
 have n3:r≠t:=Zb (H:=upd (upd H f A) r B) (o:=B) Zc ht
 have s1:Zw H (upd H f A):=Zh hf _
 have s2:=s1.trans (Zh hr B)
 have s3:=s2.trans (Zh ht T)
 exact⟨s1.free hr,s2.free ht,n1,n2.symm,n3.symm,by rw[Zd n2];exact e1,by rw[Zd n3];exact Zc,s3⟩
theorem ZkJ(T:Zau K mg cRow cMerge):Df P w K mg base 1 "halves" ["numbers"] (ZdZ K true):=by
 refine T.t_halves.df Zgt (fun vs H Q E h=>?_) (fun cdv f A outer s H vs Q E hr h=>?_)
 ·obtain⟨a,ns,rfl,_⟩:=h
  rfl
 obtain⟨a,ns,rfl,hS,hn,q⟩:=h
 refine⟨_,#[Zf,#[Zu,1,Zgt.nd,(Or.inl rfl),#[ZI,Zd4,#[ZI,ZaD,#[Zk,(Zbn K),(by rfl),T.b.n_len,Qx,#[Za,‹0›,#[Ze]]],#[Zi]],#[Zi]]],#[Zj,#[Zp,#[Za1,#[Za,#[Zc4,(slL K),‹0›,(@Zdl _),(@ZbN _ _ _ ‹1›)],#[Za,#[Zc4,(slL K),‹0›,(@ZbN _ _ _ ‹1›),(@Zdl _)],#[Ze]]]]]]],?_⟩
 refine⟨_,rfl,a,_,rfl,.inl hS,_,_,rfl,rfl,_,_,rfl,rfl,⟨by decide,by decide⟩,?_⟩
 have hm:mid ns≤ns.length∨ns=[]:=by
  cases ns with
  | nil=>exact .inr rfl
  | cons x r=>left;unfold mid;rw[QE];omega
 have hml:mid ns≤ns.length:=by
  rcases hm with h|h
  ·exact h
  ·subst h;decide
 have em:=ZoO ns
 simp only[em]
 refine⟨_,rfl,_,rfl,_,rfl,a,_,rfl,hS,fun l hl=>?_⟩
 refine⟨_,rfl,_,rfl,_,rfl,a,_,rfl,(Zh hl _).seq hS,fun r hr0=>⟨(by show 2≤sizeLine;decide),fun t ht=>?_⟩⟩
 rw[Zqe ns _ hml]at hr0 ht ⊢
 rw[ZmO ns _ hml]at ht ⊢
 obtain⟨z1,z2,z3,z4,z5,z6,z7,z8⟩:=ZlZ (T:=.tup [.ref l,.ref r]) hl hr0 ht
 exact q t l r _ z2 hl z1 z3 Zc z6 z7 z8 z4 z5
def spMany:Sp:=fun vs H Q _=>∃ (p:Addr) (c:Int),vs=[.ref p]∧Zak H p c∧c<2 ^ 50∧∀ (v c':Int) (H':Hp),0≤v→v≤12→Zak H' p c'→c≤c'→c'≤c+3→But p H H'→Q (.int v) H'
theorem Zbz(f:Str)(v:V):∀fs:List (Str×V),(Zn f v fs).length≤fs.length+1
 | []=>Qf _
 | p::r=>by
  unfold Zn
  split
  ·exact Qao _
  ·exact QaB (Zbz f v r)
def Zcm(k f:Addr)(g:Int):List (Str×V):=Zn "gone" (.int g) (Zn "fars" (.ref f) (Zn "all_keys" (.ref k) []))
theorem nGF:¬ (("fars" : Str) = "gone"):=by ac_rfl
theorem nGK:¬ (("all_keys" : Str) = "gone"):=by ac_rfl
theorem nFK:¬ (("all_keys" : Str) = "fars"):=by ac_rfl
theorem ZeL(k f:Addr)(g:Int):(Zcm k f g).lookup ("all_keys" : Str)=some (.ref k):=by
 unfold Zcm
 rw[Zl,if_neg nGK,Zl,if_neg nFK,Zl,if_pos rfl]
theorem Zcn(k f:Addr)(g:Int):(Zcm k f g).lookup ("gone" : Str)=some (.int g):=by
 unfold Zcm
 rw[Zl,if_pos rfl]
theorem Zka(k f:Addr)(g:Int){m:Str}(h1:¬ m = "gone")(h2:¬ m = "fars")(h3:¬ m = "all_keys"):(Zcm k f g).lookup m=none:=by
 unfold Zcm
 rw[Zl,if_neg h1,Zl,if_neg h2,Zl,if_neg h3]
 rfl
structure Zkn (C:Addr) (H:Hp) (p k f:Addr) (ss:List Str) (g:Nat):Prop where
 ob:∃dx,H p=some (.ins C dx (Zcm k f g))
 ks:H k=some (.lst (ss.map V.str))
 fs:H f=some (.lst ((List.range ss.length).map fun j=>.int (Zci ss j)))
def ZlU(C:Addr):Sp:=fun vs H Q _=>∃ (p k f:Addr) (ss:List Str) (g:Nat),vs=[.ref p]∧Zkn C H p k f ss g∧Q (.int ((ss.length:Int)-(g:Int))) H
theorem Zol(T:Zau K mg cRow cMerge):Mf P w K mg base 1 cRow "to_go" ["self"] (ZlU cRow):=by
 refine T.t_Row_to_go.mf Zhs (fun vs H Q E h=>?_) (fun cdv f A outer s H vs Q E hr h=>?_)
 ·obtain⟨p,k,f,ss,g,rfl,_⟩:=h
  rfl
 obtain⟨p,k,f,ss,g,rfl,R,q⟩:=h
 refine⟨_,#[Zj,#[Zp,#[ZI,Zev,#[Zk,(Zbn K),(by rfl),T.b.n_len,Qx,#[Za,#[Zaa,‹0›],#[Ze]]],#[Zaa,‹0›]]]],?_⟩
 obtain⟨⟨dx,ho⟩,hk,hf⟩:=R
 refine⟨_,rfl,p,cRow,dx,_,_,rfl,ho,T.cl_Row,T.na_Row_all_keys,ZeL _ _ _,k,_,rfl,.inl (SqL.of hk),_,rfl,p,cRow,dx,_,_,rfl,ho,T.cl_Row,T.na_Row_gone,Zcn _ _ _,_,_,rfl,rfl,?_⟩
 rw[Qb]
 exact q
def Zec(ss:List Str)(g:Nat):V:=match ss[g]? with
 | some z=>.str z
 | none=>.non
def ZfL(C:Addr):Sp:=fun vs H Q _=>∃ (p k f:Addr) (ss:List Str) (g:Nat),vs=[.ref p]∧Zkn C H p k f ss g∧Q (Zec ss g) H
theorem Zou(T:Zau K mg cRow cMerge)(f_Row_to_go:Mf P w K mg base 1 cRow "to_go" ["self"] (ZlU cRow)):Mf P w K mg base 2 cRow "head" ["self"] (ZfL cRow):=by
 refine T.t_Row_head.mf Zh5 (fun vs H Q E h=>?_) (fun cdv f A outer s H vs Q E hr h=>?_)
 ·obtain⟨p,k,f,ss,g,rfl,_⟩:=h
  rfl
 obtain⟨p,k,f,ss,g,rfl,R,q⟩:=h
 refine⟨_,#[Zj,#[Zp,#[Zby,#[Zo,ZfW,#[ZcN,f_Row_to_go,T.cl_Row,hr,‹0›],#[Zi],(Zt _)],#[ZA,(ixL K),#[Zaa,‹0›],#[Zaa,‹0›]],#[Zay]]]],?_⟩
 obtain⟨⟨dx,ho⟩,hk,hf⟩:=id R
 refine⟨_,rfl,p,dx,_,rfl,ho,Zka _ _ _ (by ac_rfl) (by ac_rfl) (by ac_rfl),p,k,f,ss,g,rfl,R,_,_,rfl,rfl,_,rfl,?_⟩
 refine Za9 (fun d=>?_) (fun d=>?_)
 ·have d':(0:Int)<(ss.length:Int)-(g:Int):=of_decide_eq_true d
  have hg:g<ss.length:=by omega
  refine⟨_,rfl,p,cRow,dx,_,_,rfl,ho,T.cl_Row,T.na_Row_all_keys,ZeL _ _ _,_,rfl,p,cRow,dx,_,_,rfl,ho,T.cl_Row,T.na_Row_gone,Zcn _ _ _,k,_,_,_,rfl,rfl,SqL.of hk,Z3 (by rw[Qj,Qa hg]<;>rfl),?_⟩
  unfold Zec at q
  rw[Qa hg]at q
  exact q
 ·have d':¬ (0:Int)<(ss.length:Int)-(g:Int):=fun z=>d (decide_eq_true z)
  unfold Zec at q
  rw[QN (by omega)]at q
  exact q
def Zgv(C:Addr):Sp:=fun vs H Q _=>∃ (p dx a:Addr) (ss:List Str),vs=[.ref p,.ref a]∧H p=some (.ins C dx [])∧H a=some (.lst (ss.map V.str))∧ss.length≤100∧(∀s∈ss,s.length≤1000) ∧
 ∀ (k f:Addr) (H':Hp),H k=none→H f=none→k≠f→Zkn C H' p k f ss 0→(∀b o,H b=some o→b≠p→H' b=some o)→Q .non H'
theorem Zi4(T:Zau K mg cRow cMerge)(f_alikes:Df P w K mg base 3 "alikes" ["row"] (Zfc K)):Cf P w K mg base 4 cRow "Row" ["self", "keys"] (Zgv cRow):=by
 refine T.t_Row_init.cf Zh9 (fun vs H Q E h=>?_) (fun cdv f A outer s H vs Q E hr h=>?_)
 ·obtain⟨p,dx,a,ss,rfl,_⟩:=h
  rfl
 obtain⟨p,dx,a,ss,rfl,hp,ha,hn,hz,q⟩:=h
 refine⟨_,#[Zf,#[ZbG,‹0›,#[ZQ,(ZjE K),(by rfl),T.b.n_list,boot_list,#[Za,‹1›,#[Ze]]]],#[Zf,#[ZbG,‹0›,#[Zz,f_alikes,hr,#[Za,‹1›,#[Ze]],(by rfl)]],#[Zj,#[ZbG,‹0›,#[Zi]]]]],?_⟩
 refine⟨_,rfl,a,_,rfl,.inl (SqL.of ha),fun k hk=>?_⟩
 have npk:p≠k:=Zb hp hk
 have nap:a≠p:=fun e=>by rw[e,hp]at ha;cases ha
 have nak:a≠k:=Zb ha hk
 refine⟨_,rfl,p,cRow,dx,[],rfl,(by rw[Zd npk];exact hp),T.cl_Row,T.na_Row_all_keys,(by show 0<1000;decide),?_⟩
 have ha2:(upd (upd H k (.lst (ss.map V.str))) p (.ins cRow dx (Zn "all_keys" (.ref k) []))) a=some (.lst (ss.map V.str)):=by rw[Zd nap,Zd nak];exact ha
 have hp2:(upd (upd H k (.lst (ss.map V.str))) p (.ins cRow dx (Zn "all_keys" (.ref k) []))) p=some (.ins cRow dx (Zn "all_keys" (.ref k) [])):=Zc
 have hk2:(upd (upd H k (.lst (ss.map V.str))) p (.ins cRow dx (Zn "all_keys" (.ref k) []))) k=some (.lst (ss.map V.str)):=by rw[Zd npk.symm];exact Zc
 have s2:∀b o,H b=some o→b≠p→(upd (upd H k (.lst (ss.map V.str))) p (.ins cRow dx (Zn "all_keys" (.ref k) []))) b=some o:=fun b o h n=>by rw[Zd n,Zd (Zb h hk)];exact h
 refine⟨_,rfl,a,ss,rfl,SqL.of ha2,hn,hz,fun f H3 hf0 hf3 s3=>?_⟩
 have hHf:H f=none:=by
  cases w':H f with
  | none=>rfl
  | some u =>
   by_cases e:f=p
   ·rw[e,hp2]at hf0;cases hf0
   ·rw[s2 f u w' e]at hf0;cases hf0
 have nkf:k≠f:=Zb hk2 hf0
 have npf:p≠f:=Zb hp2 hf0
 refine⟨_,rfl,p,cRow,dx,_,rfl,s3 _ _ hp2,T.cl_Row,T.na_Row_fars,(by show 1<1000;decide),?_⟩
 refine⟨_,rfl,p,cRow,dx,_,rfl,Zc,T.cl_Row,T.na_Row_gone,?_,?_⟩
 ·have h1:=Zbz "all_keys" (V.ref k) []
  have h2:=Zbz "fars" (V.ref f) (Zn "all_keys" (V.ref k) [])
  have h3:([]:List (Str×V)).length=0:=rfl
  omega
 ·refine q k f _ hk hHf nkf ⟨⟨dx,Zc⟩,?_,?_⟩ fun b o h n=>?_
  ·rw[Zd npk.symm,Zd npk.symm];exact s3 _ _ hk2
  ·rw[Zd npf.symm,Zd npf.symm];exact hf3
  ·rw[Zd n,Zd n];exact s3 _ _ (s2 b o h n)
theorem ZiP{K:PySem.W.Frag}{a:Addr}{xs:List V}{k:Nat}{D:Addr}{σ:L2.St}{H1:Hp}{g:TG}{tc:TT}{te:TE}{Q:VK}(Pv:Nat→List V→L2.St→Hp→Prop)(h0:Pv 0 [] (σ++List.replicate k none) (upd H1 D (.lst [])))
  (hl:∀i ys σ H,Pv i ys σ H→SqL K H a xs)
  (hs:∀i x ys σ H,xs[i]? = some x→Pv i ys σ H→g x σ H fun σ4 H4=>tc σ4 H4 fun b H5=>if b=true then te σ4 H5 fun y H6=>H6 D=some (.lst ys)∧ys.length<sizeLine∧Pv (i+1) (ys++[y]) σ4 (upd H6 D (.lst (ys++[y]))) else Pv (i+1) ys σ4 H5)
  (hd:∀ys σ H,Pv xs.length ys σ H→Q (.ref D) H):Zc8 (Itl K a) D k σ H1 g tc te Q:=by
 refine⟨fun i m ys σ H=>m=xs.length-i∧i≤xs.length∧Pv i ys σ H,⟨xs.length,by simp,Qq _,h0⟩,?_⟩
 rintro i m ys σ H ⟨rfl,hi,p⟩
 have q1:=hl i ys σ H p
 by_cases hlt:i<xs.length
 ·refine .inr ⟨⟨xs,xs[i],q1,Qa hlt⟩,Pv (i+1),fun ys' σ' H' p'=>⟨xs.length-(i+1),by omega,rfl,hlt,p'⟩,fun x H' y=>?_⟩
  obtain⟨rfl,e⟩:=y
  exact hs i x ys σ _ (e xs q1) p
 ·have e:i=xs.length:=by omega
  exact .inl ⟨⟨xs,q1,by omega⟩,hd ys σ H (e ▸ p)⟩
theorem ZaX{K:PySem.W.Frag}{a:Addr}{xs:List V}{k:Nat}{D:Addr}{σ:L2.St}{H1:Hp}{g:TG}{te:TE}{Q:VK}(Pv:Nat→List V→L2.St→Hp→Prop)(h0:Pv 0 [] (σ++List.replicate k none) (upd H1 D (.lst [])))
  (hl:∀i ys σ H,Pv i ys σ H→SqL K H a xs)
  (hs:∀i x ys σ H,xs[i]? = some x→Pv i ys σ H→g x σ H fun σ4 H4=>te σ4 H4 fun y H6=>H6 D=some (.lst ys)∧ys.length<sizeLine∧Pv (i+1) (ys++[y]) σ4 (upd H6 D (.lst (ys++[y]))))
  (hd:∀ys σ H,Pv xs.length ys σ H→Q (.ref D) H):Zc8 (Itl K a) D k σ H1 g ZfQ te Q:=by
 refine⟨fun i m ys σ H=>m=xs.length-i∧i≤xs.length∧Pv i ys σ H,⟨xs.length,by simp,Qq _,h0⟩,?_⟩
 rintro i m ys σ H ⟨rfl,hi,p⟩
 have q1:=hl i ys σ H p
 by_cases hlt:i<xs.length
 ·refine .inr ⟨⟨xs,xs[i],q1,Qa hlt⟩,Pv (i+1),fun ys' σ' H' p'=>⟨xs.length-(i+1),by omega,rfl,hlt,p'⟩,fun x H' y=>?_⟩
  obtain⟨rfl,e⟩:=y
  simp only[ZfQ,↓reduceIte]
  exact hs i x ys σ _ (e xs q1) p
 ·have e:i=xs.length:=by omega
  exact .inl ⟨⟨xs,q1,by omega⟩,hd ys σ H (e ▸ p)⟩
theorem Zg3:∀x y:List Nat,x<y↔ZG x y<0
 | [],[]=>by unfold ZG;exact⟨fun h=>absurd h (by simp),fun h=>absurd h (by omega)⟩
 | [],_::_=>by unfold ZG;exact⟨fun _=>by omega,fun _=>List.nil_lt_cons _ _⟩
 | _::_,[]=>by unfold ZG;exact⟨fun h=>absurd h (List.not_lt_nil _),fun h=>absurd h (by omega)⟩
 | a::r,b::s=>by
  have ih:=Zg3 r s
  unfold ZG
  rw[List.cons_lt_cons_iff]
  by_cases e:a=b
  ·rw[if_pos e,← ih]
   exact⟨fun h=>h.elim (fun z=>by omega) (fun z=>z.2),fun h=>.inr ⟨e,h⟩⟩
  ·rw[if_neg e]
   by_cases l:a<b
   ·rw[if_pos l];exact⟨fun _=>by omega,fun _=>.inl l⟩
   ·rw[if_neg l];exact⟨fun h=>h.elim (fun z=>absurd z l) (fun z=>absurd z.1 e),fun h=>absurd h (by omega)⟩
theorem ZfN{K:PySem.W.Frag}{H:Hp}{a:Addr}{xs:List V}(h:H a=some (.lst xs)):L2.tyV K "list" (.ref a) H:=.inl ⟨rfl,_,SqL.of h⟩
theorem AtT.mono{H H':Hp}{ts:Zb1}(h:AtT H ts)(s:Zw H H'):AtT H' ts:=fun x hx=>s _ _ (h x hx)
theorem Zei{H:Hp}{D:Addr}{ys:List V}(h:H D=some (.lst ys))(o:HO):∀a xs,H a=some (.tup xs)→(upd H D o) a=some (.tup xs):=fun a xs e=>by
 have nb:a≠D:=by intro z;rw[z,h]at e;cases e
 rw[Zd nb];exact e
abbrev Hd:=Int→Option (List Nat)
def Btr(x:List Nat)(a:Int)(y:List Nat)(b:Int):Prop:=ZG x y<0∨(ZG x y=0∧a<b)
def Win(hd:Hd)(N:List Int):Option Int→Prop
 | none=>∀n∈N,hd n=none
 | some a=>a∈N∧∃x,hd a=some x∧∀b∈N,∀y,hd b=some y→b=a∨Btr x a y b
theorem Btr.asym{x y:List Nat}{a b:Int}(h:Btr x a y b)(g:Btr y b x a):False:=by
 have e:=Zbh x y
 rcases h with h|⟨h,h2⟩<;>rcases g with g|⟨g,g2⟩<;>omega
theorem Btr.total{x y:List Nat}{a b:Int}(h:a≠b):Btr x a y b∨Btr y b x a:=by
 have e:=Zbh x y
 unfold Btr
 omega
theorem Btr.trans{x y z:List Nat}{a b c:Int}(h:Btr x a y b)(g:Btr y b z c):Btr x a z c:=by
 have t1:=ZcH x y z
 have t2:=ZcH z x y
 have t3:=ZcH y z x
 have e1:=Zbh x y
 have e2:=Zbh y z
 have e3:=Zbh x z
 unfold Btr at *
 omega
theorem Win.one{hd:Hd}{N:List Int}{v w:Option Int}(h:Win hd N v)(g:Win hd N w):v=w:=by
 cases v with
 | none =>
  cases w with
  | none=>rfl
  | some b=>obtain⟨hb,y,hy,_⟩:=g;rw[h b hb]at hy;cases hy
 | some a =>
  obtain⟨ha,x,hx,h2⟩:=h
  cases w with
  | none=>rw[g a ha]at hx;cases hx
  | some b =>
   obtain⟨hb,y,hy,g2⟩:=g
   rcases h2 b hb y hy with e|e
   ·rw[e]
   ·rcases g2 a ha x hx with e'|e'
    ·rw[e']
    ·exact(e.asym e').elim
theorem Win.nil(hd:Hd):Win hd [] none:=fun n h=>by cases h
theorem Win.sing{hd:Hd}{n:Int}:Win hd [n] (if (hd n).isSome then some n else none):=by
 cases h:hd n with
 | none=>intro m hm;rw[Qi.mp hm];exact h
 | some x=>exact⟨by simp,x,h,fun b hb y hy=>.inl (Qi.mp hb)⟩
theorem Win.both{hd:Hd}{A B:List Int}{a b:Int}{x y:List Nat}(ha:Win hd A (some a))(hb:Win hd B (some b))(hx:hd a=some x)(hy:hd b=some y)(h:Btr x a y b):Win hd (A++B) (some a):=by
 obtain⟨a1,x',hx',a2⟩:=ha
 obtain⟨b1,y',hy',b2⟩:=hb
 rw[hx]at hx';cases hx'
 rw[hy]at hy';cases hy'
 refine⟨QD _ a1,x,hx,fun c hc z hz=>?_⟩
 rcases Qk.mp hc with hc|hc
 ·exact a2 c hc z hz
 ·rcases b2 c hc z hz with e|e
  ·subst e;rw[hy]at hz;cases hz;exact .inr h
  ·exact .inr (h.trans e)
theorem Win.both'{hd:Hd}{A B:List Int}{a b:Int}{x y:List Nat}(ha:Win hd A (some a))(hb:Win hd B (some b))(hx:hd a=some x)(hy:hd b=some y)(h:Btr y b x a):Win hd (A++B) (some b):=by
 have:=Win.both hb ha hy hx h
 obtain⟨h1,z,h2,h3⟩:=this
 exact⟨by rcases Qk.mp h1 with h|h<;>simp[h],z,h2,fun c hc=>h3 c (by rcases Qk.mp hc with h|h<;>simp[h])⟩
theorem Win.left{hd:Hd}{A B:List Int}{w:Option Int}(ha:Win hd A w)(hb:Win hd B none):Win hd (A++B) w:=by
 cases w with
 | none=>intro n hn;rcases Qk.mp hn with h|h;exact ha n h;exact hb n h
 | some a =>
  obtain⟨a1,x,hx,a2⟩:=ha
  refine⟨QD _ a1,x,hx,fun c hc z hz=>?_⟩
  rcases Qk.mp hc with hc|hc
  ·exact a2 c hc z hz
  ·rw[hb c hc]at hz;cases hz
theorem Win.right{hd:Hd}{A B:List Int}{w:Option Int}(ha:Win hd A none)(hb:Win hd B w):Win hd (A++B) w:=by
 cases w with
 | none=>intro n hn;rcases Qk.mp hn with h|h;exact ha n h;exact hb n h
 | some a =>
  obtain⟨a1,x,hx,a2⟩:=hb
  refine⟨Qz _ a1,x,hx,fun c hc z hz=>?_⟩
  rcases Qk.mp hc with hc|hc
  ·rw[ha c hc]at hz;cases hz
  ·exact a2 c hc z hz
theorem Win.ex(hd:Hd):∀N:List Int,N.Nodup→∃w,Win hd N w
 | [],_=>⟨none,Win.nil hd⟩
 | n::N,hn=>by
  obtain⟨n1,n2⟩:=QU.mp hn
  obtain⟨w,hw⟩:=Win.ex hd N n2
  have hs:Win hd [n] (if (hd n).isSome then some n else none):=Win.sing
  cases h:hd n with
  | none =>
   rw[h]at hs
   exact⟨w,Win.right (A:=[n]) hs hw⟩
  | some x =>
   rw[h]at hs
   cases w with
   | none=>exact⟨some n,Win.left (A:=[n]) hs hw⟩
   | some b =>
    obtain⟨b1,y,hy,b2⟩:=id hw
    have hne:n≠b:=fun e=>n1 (e ▸ b1)
    rcases Btr.total (x:=x) (y:=y) hne with e|e
    ·exact⟨some n,Win.both (A:=[n]) hs hw h hy e⟩
    ·exact⟨some b,Win.both' (A:=[n]) hs hw h hy e⟩
theorem Win.congr{hd hd':Hd}{N:List Int}(h:∀n∈N,hd' n=hd n){w:Option Int}(hw:Win hd N w):Win hd' N w:=by
 cases w with
 | none=>intro n hn;rw[h n hn];exact hw n hn
 | some a =>
  obtain⟨a1,x,hx,a2⟩:=hw
  exact⟨a1,x,by rw[h a a1];exact hx,fun b hb y hy=>a2 b hb y (by rw[← h b hb];exact hy)⟩
def lo(N:List Int):List Int:=N.take (mid N)
def up(N:List Int):List Int:=N.drop (mid N)
theorem ZbW(N:List Int):lo N++up N=N:=Qam _ _
theorem ZcY{N:List Int}(h:2≤N.length):(lo N).length<N.length∧1≤(lo N).length:=by
 unfold lo mid
 rw[Qy]
 omega
theorem ZdK{N:List Int}(h:2≤N.length):(up N).length<N.length∧1≤(up N).length:=by
 unfold up mid
 rw[QP]
 omega
def ZJ(N:List Int):Int×Int:=(N.headD 0,N.getLastD 0)
abbrev StL:=List ((Int×Int)×Option (Addr×Int×Int))
def stV:Option (Addr×Int×Int)→V
 | none=>.non
 | some t=>.ref t.1
def kvS(s:StL):List (List Key×V):=s.map fun e=>([.inl e.1.1,.inl e.1.2],stV e.2)
def AtS(H:Hp)(s:StL):Prop:=∀e∈s,∀t,e.2=some t→H t.1=some (.tup [.int t.2.1,.int t.2.2])
def ZO(s:StL)(k:Int×Int):Option (Option (Addr×Int×Int)):=(s.find? fun e=>decide (e.1=k)).map (·.2)
def ZcA(s:StL)(k:Int×Int)(v:Option (Addr×Int×Int)):StL:=if s.any (fun e=>decide (e.1=k)) then s.map (fun e=>if e.1=k then (e.1,v) else e) else s++[(k,v)]
theorem AtS.mono{H H':Hp}{s:StL}(h:AtS H s)(k:∀a xs,H a=some (.tup xs)→H' a=some (.tup xs)):AtS H' s:=fun e he t ht=>k _ _ (h e he t ht)
theorem Zjf{a b:Int×Int}(h:([.inl a.1,.inl a.2]:List Key)=[.inl b.1,.inl b.2]):a=b:=by
 obtain⟨a1,a2⟩:=a
 obtain⟨b1,b2⟩:=b
 injection h with h1 h2
 injection h2 with h2 _
 have e1:=Sum.inl.inj h1
 have e2:=Sum.inl.inj h2
 simp only at e1 e2
 rw[e1,e2]
theorem Zia(k:Int×Int):∀s:StL,Zbm (kvS s) [.inl k.1,.inl k.2]=(ZO s k).map stV
 | []=>rfl
 | e::s=>by
  have ih:=Zia k s
  by_cases h:e.1=k
  ·unfold kvS ZO
   rw[Qh,ZcX (by rw[h])]
   simp[List.find?_cons,h]
  ·unfold kvS at ih ⊢
   rw[Qh,Zdh (fun z=>h (Zjf z)),ih]
   unfold ZO
   simp[List.find?_cons,h]
theorem ZoE(k:Int×Int)(s:StL):((kvS s).any fun kv=>decide (kv.1=([.inl k.1,.inl k.2]:List Key)))=s.any fun e=>decide (e.1=k):=by
 unfold kvS
 rw[List.any_map]
 congr 1
 funext e
 simp only[Function.comp]
 by_cases h:e.1=k
 ·rw[decide_eq_true h,decide_eq_true (by rw[h])]
 ·rw[decide_eq_false h,decide_eq_false (fun z=>h (Zjf z))]
theorem Ze3(s:StL)(k:Int×Int)(v:Option (Addr×Int×Int)):ZcG (kvS s) [.inl k.1,.inl k.2] (stV v)=kvS (ZcA s k v):=by
 unfold ZcG ZcA
 rw[ZoE]
 split
 ·unfold kvS
  rw[QC,QC]
  congr 1
  funext e
  simp only[Function.comp]
  by_cases h:e.1=k
  ·rw[if_pos h,if_pos (by rw[h])]
  ·rw[if_neg h,if_neg (fun z=>h (Zjf z))]
 ·unfold kvS;rw[Qe];rfl
theorem ZmX(s:StL)(k:Int×Int)(v:Option (Addr×Int×Int)):(ZcA s k v).length≤s.length+1:=by
 unfold ZcA
 split
 ·rw[Qb];omega
 ·rw[Qg];exact Qf _
theorem ZaO(s:StL)(k j:Int×Int)(v:Option (Addr×Int×Int)):ZO (ZcA s k v) j=if j=k then some v else ZO s j:=by
 unfold ZcA
 split
 ·rename_i h
  induction s with
  | nil=>simp at h
  | cons e s ih =>
   unfold ZO at ih ⊢
   by_cases hek:e.1=k
   ·by_cases hj:j=k
    ·subst hj;simp[List.find?_cons,hek]
    ·have hj':¬ k=j:=fun z=>hj z.symm
     rw[Qh,if_pos hek,Qau (by simp[hek,hj']),Qau (by simp[hek,hj']),if_neg hj]
     by_cases ha:s.any (fun e=>decide (e.1=k))=true
     ·have:=ih ha;rw[if_neg hj]at this;exact this
     ·have:s.map (fun e=>if e.1=k then (e.1,v) else e)=s:=by
       rw[List.map_eq_iff]
       intro i
       cases hi:s[i]? with
       | none=>rfl
       | some x =>
        have hx:¬ x.1=k:=fun z=>ha (List.any_eq_true.mpr ⟨x,Qp hi,by simpa using z⟩)
        simp[hx]
      rw[this]
   ·have ha:s.any (fun e=>decide (e.1=k))=true:=by simpa [hek] using h
    rw[Qh,if_neg hek]
    by_cases hj:e.1=j
    ·have:¬ j=k:=fun z=>hek (hj.trans z)
     rw[List.find?_cons_of_pos (by simpa using hj),List.find?_cons_of_pos (by simpa using hj),if_neg this]
    ·rw[Qau (by simpa using hj),Qau (by simpa using hj)]
     exact ih ha
 ·rename_i h
  unfold ZO
  rw[List.find?_append]
  by_cases hj:j=k
  ·subst hj
   have:s.find? (fun e=>decide (e.1=j))=none:=by
    rw[List.find?_eq_none]
    intro x hx z
    exact h (List.any_eq_true.mpr ⟨x,hx,z⟩)
   rw[this];simp
  ·have hj':¬ k=j:=fun z=>hj z.symm
   rw[if_neg hj]
   simp[hj']
theorem AtS.put{H:Hp}{s:StL}{k:Int×Int}{v:Option (Addr×Int×Int)}(h:AtS H s)(hv:∀t,v=some t→H t.1=some (.tup [.int t.2.1,.int t.2.2])):AtS H (ZcA s k v):=by
 unfold ZcA
 split
 ·intro e he t ht
  obtain⟨x,hx,rfl⟩:=QB.mp he
  split at ht
  ·exact hv t ht
  ·exact h x hx t ht
 ·intro e he t ht
  rcases Qk.mp he with he|he
  ·exact h e he t ht
  ·rw[Qi.mp he]at ht;exact hv t ht
theorem Zgf{s:StL}{k:Int×Int}{v:Option (Addr×Int×Int)}(h:ZO s k=some v):(k,v)∈s:=by
 unfold ZO at h
 obtain⟨e,he,rfl⟩:=QaP.mp h
 have h1:=List.find?_some he
 have:e.1=k:=by simpa using h1
 rw[← this];exact List.mem_of_find?_eq_some he
def Zr2(hd:Hd)(s:StL)(N:List Int):Prop :=
 (∀a b x y,Win hd (lo N) (some a)→Win hd (up N) (some b)→hd a=some x→hd b=some y→∃t,ZO s (ZJ N)=some (some (t,if ZG x y<0∨(ZG x y=0∧a<b) then b else a,((lcp x y:Nat):Int)))) ∧
 ((Win hd (lo N) none∨Win hd (up N) none)→ZO s (ZJ N)=none∨ZO s (ZJ N)=some none)
def Zen(hd:Hd)(s:StL):Nat→List Int→Prop
 | 0,_=>True
 | n+1,N=>2≤N.length→Zen hd s n (lo N)∧Zen hd s n (up N)∧Zr2 hd s N
def Zd2:Nat→List Int→Int×Int→Prop
 | 0,_,_=>False
 | n+1,N,k=>2≤N.length∧(Zd2 n (lo N) k∨Zd2 n (up N) k∨k=ZJ N)
abbrev Zae(N:List Int):Prop:=N.Pairwise (·<·)
theorem Zdv{N:List Int}(h:Zae N):Zae (lo N):=h.sublist (List.take_sublist _ _)
theorem Zdu{N:List Int}(h:Zae N):Zae (up N):=h.sublist (List.drop_sublist _ _)
theorem Zdm{N:List Int}(h:Zae N):N.Nodup:=h.imp fun {a b} hab e=>by omega
theorem ZE{N:List Int}(h:Zae N){a b:Int}(ha:a∈lo N)(hb:b∈up N):a<b:=by
 have:Zae (lo N++up N):=by rw[ZbW];exact h
 exact(List.pairwise_append.mp this).2.2 a ha b hb
theorem ZbV{N:List Int}(h:N≠[]):N.headD 0∈N:=by
 cases N with
 | nil=>exact absurd rfl h
 | cons a r=>simp
theorem ZbQ{N:List Int}(h:N≠[]):N.getLastD 0∈N:=by
 rw[Qan,QaH h]
 exact List.getLast_mem h
theorem Z6{N:List Int}(h:1≤N.length):N≠[]:=fun z=>by rw[z]at h;simp at h
theorem ZeA{N:List Int}(h:2≤N.length):(ZJ N).2=(up N).getLastD 0:=by
 have hu:=Z6 (ZdK h).2
 show N.getLastD 0=_
 rw[Qan,Qan]
 conv=>lhs;rw[← ZbW N]
 rw[List.getLast?_append,QaH hu];rfl
theorem Zeu{N:List Int}(h:2≤N.length):(ZJ N).1=(lo N).headD 0:=by
 have hl:=Z6 (ZcY h).2
 show N.headD 0=_
 conv=>lhs;rw[← ZbW N]
 cases hc:lo N with
 | nil=>exact absurd hc hl
 | cons a r=>rfl
theorem Zdt:∀ (n:Nat) (N:List Int) (k:Int×Int),Zd2 n N k→k.1∈N∧k.2∈N
 | 0,_,_,h=>h.elim
 | n+1,N,k,⟨h2,h⟩=>by
  rcases h with h|h|rfl
  ·have:=Zdt n _ k h
   rw[← ZbW N]
   exact⟨QD _ this.1,QD _ this.2⟩
  ·have:=Zdt n _ k h
   rw[← ZbW N]
   exact⟨Qz _ this.1,Qz _ this.2⟩
  ·have hn:N≠[]:=Z6 (by omega)
   exact⟨ZbV hn,ZbQ hn⟩
theorem Zhe{N:List Int}(hr:Zae N)(h2:2≤N.length){n:Nat}{k:Int×Int}(h:Zd2 n (lo N) k):k≠ZJ N∧∀m,¬ Zd2 m (up N) k:=by
 have:=Zdt n _ k h
 refine⟨fun z=>?_,fun m hm=>?_⟩
 ·have h1:=ZeA h2
  rw[z,h1]at this
  have:=ZE hr this.2 (ZbQ (Z6 (ZdK h2).2))
  omega
 ·have:=ZE hr this.1 (Zdt m _ k hm).1
  omega
theorem Zg1{N:List Int}(hr:Zae N)(h2:2≤N.length){n:Nat}{k:Int×Int}(h:Zd2 n (up N) k):k≠ZJ N∧∀m,¬ Zd2 m (lo N) k:=by
 have:=Zdt n _ k h
 refine⟨fun z=>?_,fun m hm=>?_⟩
 ·have h1:=Zeu h2
  rw[z,h1]at this
  have:=ZE hr (ZbV (Z6 (ZcY h2).2)) this.1
  omega
 ·have:=ZE hr (Zdt m _ k hm).1 this.1
  omega
theorem Zen.congr{hd hd':Hd}{s s':StL}:∀ (n:Nat) (N:List Int),(∀m∈N,hd' m=hd m)→(∀k,Zd2 n N k→ZO s' k=ZO s k)→Zen hd s n N→Zen hd' s' n N
 | 0,_,_,_,_=>True.intro
 | n+1,N,hh,hk,h=>fun h2=>by
  obtain⟨a,b,c1,c2⟩:=h h2
  have hl:∀m∈lo N,hd' m=hd m:=fun m hm=>hh m (by rw[← ZbW N];exact QD _ hm)
  have hu:∀m∈up N,hd' m=hd m:=fun m hm=>hh m (by rw[← ZbW N];exact Qz _ hm)
  have hl':∀m∈lo N,hd m=hd' m:=fun m hm=>(hl m hm).symm
  have hu':∀m∈up N,hd m=hd' m:=fun m hm=>(hu m hm).symm
  refine⟨Zen.congr n _ hl (fun k hkk=>hk k ⟨h2,.inl hkk⟩) a,Zen.congr n _ hu (fun k hkk=>hk k ⟨h2,.inr (.inl hkk)⟩) b,fun a b x y ha hb hx hy=>?_,fun hw=>?_⟩
  ·rw[hk _ ⟨h2,.inr (.inr rfl)⟩]
   exact c1 a b x y (Win.congr hl' ha) (Win.congr hu' hb) (by rw[← hl a ha.1];exact hx) (by rw[← hu b hb.1];exact hy)
  ·rw[hk _ ⟨h2,.inr (.inr rfl)⟩]
   refine c2 ?_
   rcases hw with hw|hw
   ·exact .inl (Win.congr hl' hw)
   ·exact .inr (Win.congr hu' hw)
inductive ZdR (hd:Hd):Nat→List Int→Int→Int→Prop
 | few {n:Nat} {N:List Int}:N.length<2→ZdR hd n N 0 0
 | none {n:Nat} {N:List Int} {k l k' l':Int}:2≤N.length→ZdR hd n (lo N) k l→ZdR hd n (up N) k' l'→(Win hd (lo N) none∨Win hd (up N) none)→ZdR hd (n+1) N (k+k') (l+l')
 | both {n:Nat} {N:List Int} {k l k' l':Int} {a b:Int} {x y:List Nat}:2≤N.length→ZdR hd n (lo N) k l→ZdR hd n (up N) k' l'→Win hd (lo N) (some a)→Win hd (up N) (some b)→hd a=some x→hd b=some y→ZdR hd (n+1) N (k+k'+1) (l+l'+(lcp x y:Nat)+1)
def kk(e:Str×Int):List Key:=[.inr e.1,.inl e.2]
def oV:Option Str→V
 | none=>.non
 | some s=>.str s
def ZdT:Option Int→V
 | none=>.non
 | some a=>.int a
def kvH(E:List (Int×Option Str)):List (Key×V):=E.map fun e=>(.inl e.1,oV e.2)
def lk(E:List (Int×Option Str))(n:Int):Option Str:=(E.find? fun e=>decide (e.1=n)).bind (·.2)
def hdE(E:List (Int×Option Str)):Hd:=fun n=>(lk E n).map cds
def prs(E:List (Int×Option Str))(N:List Int):List (Str×Int):=N.filterMap fun n=>(lk E n).map fun s=>(s,n)
def Zsa:Key→PyData
 | .inl i=>.int i
 | .inr s=>.str s
def tD(k:List Key):PyData:=.tuple (k.map Zsa)
structure Hds (H:Hp) (D:Addr) (E:List (Int×Option Str)):Prop where
 at':H D=some (.dK (kvH E))
 nd:(E.map (·.1)).Nodup
 ok:∀e∈E,∀s,e.2=some s→s.length≤1000∧AZ s
def spLeast(K:PySem.W.Frag):Sp:=fun vs H Q _=>∃ (D l:Addr) (E:List (Int×Option Str)) (N:List Int),vs=[.ref D,.ref l]∧Hds H D E∧SqL K H l (N.map V.int)∧N.length≤60∧(∀n∈N,n∈E.map (·.1)) ∧
 ∀ (v:Option Int) (H':Hp),Win (hdE E) N v→Zw H H'→Q (ZdT v) H'
theorem ZpP(N:List Int):ZdB N=lo N:=rfl
theorem Zpu(N:List Int):Zf2 N=up N:=rfl
def spFP(K:PySem.W.Frag)(n:Nat):Sp:=fun vs H Q _=>∃ (D l:Addr) (E:List (Int×Option Str)) (N:List Int),vs=[.ref D,.ref l]∧Hds H D E∧SqL K H l (N.map V.int)∧N.length≤60∧0<n∧N.length≤2 ^ (n-1)∧(∀m∈N,m∈E.map (·.1)) ∧
 ∀ (t:Addr) (k q:Int) (H':Hp),ZdR (hdE E) n N k q→H t=none→H' t=some (.tup [.int k,.int q])→Zw H H'→Q (.ref t) H'
abbrev ZaQ:=Int×Addr×List Str×Nat
def kvR(L:List ZaQ):List (Key×V):=L.map fun e=>(.inl e.1,.ref e.2.1)
def kvG(L:List ZaQ):List (Key×V):=L.map fun e=>(.inl e.1,.int (e.2.2.2:Int))
def Zsm(ra ga:Addr)(nb li lo:Int):List (Key×V):=[(.inr "rows",.ref ra),(.inr "gone",.ref ga),(.inr "number",.int nb),(.inr "likenings",.int li),(.inr "looks",.int lo)]
structure Own (H:Hp) (o ra ga:Addr) (L:List ZaQ) (nb li lo:Int):Prop where
 at':H o=some (.dK (Zsm ra ga nb li lo))
 rows:H ra=some (.dK (kvR L))
 gone:H ga=some (.dK (kvG L))
 nd:(L.map (·.1)).Nodup
 few:L.length≤60
 lst:∀e∈L,H e.2.1=some (.lst (e.2.2.1.map V.str))∧e.2.2.1.length≤100∧e.2.2.2≤e.2.2.1.length∧∀s∈e.2.2.1,s.length≤1000∧AZ s
theorem Zqc{ns:List Int}(h:ns.Nodup):(ns.map (Sum.inl:Int→Key)).Nodup:=QaR _ (fun a b hab z=>hab (Sum.inl.inj z)) h
theorem ZbI.k'{H:Hp}{a:Addr}{kvs:List (Key×V)}{k:Key}{r:Option V}(e:H a=some (.dK kvs))(h:Zbm kvs k=r):ZbI H a (kV k) r:=by rw[← h];exact ZbI.k e
structure Zr4 (L:List ZaQ) (E:List (Int×Option Str)):Prop where
 per:(E.map (·.1)).Perm (L.map (·.1))
 up:(E.map (·.1)).Pairwise (·<·)
 hd:∀e∈L,(e.1,e.2.2.1[e.2.2.2]?)∈E
def spHeads:Sp:=fun vs H Q _=>∃ (o ra ga:Addr) (L:List ZaQ) (nb li lo:Int),vs=[.ref o]∧Own H o ra ga L nb li lo ∧
 ∀ (D:Addr) (E:List (Int×Option Str)) (H':Hp),H D=none→Hds H' D E→Zr4 L E→Zw H H'→Q (.ref D) H'
def hdL(L:List ZaQ):Hd:=fun n=>((L.find? fun e=>decide (e.1=n)).bind fun e=>e.2.2.1[e.2.2.2]?).map cds
theorem ZiT:∀ {L:List ZaQ},(L.map (·.1)).Nodup→∀ {e:ZaQ},e∈L→hdL L e.1=(e.2.2.1[e.2.2.2]?).map cds
 | [],_,_,h=>by cases h
 | x::r,nd,e,h=>by
  rw[Qh,QU]at nd
  unfold hdL
  rw[QaJ]
  rcases QO.mp h with rfl|h
  ·rw[decide_eq_true rfl];rfl
  ·rw[decide_eq_false (fun z:x.1=e.1=>nd.1 (by rw[z];exact Qn (f:=fun x:ZaQ=>x.1) h))]
   exact ZiT nd.2 h
theorem Win.perm{hd:Hd}{N M:List Int}{v:Option Int}(h:Win hd N v)(p:N.Perm M):Win hd M v:=by
 cases v with
 | none=>exact fun n hn=>h n (p.mem_iff.mpr hn)
 | some a=>obtain⟨ha,x,hx,hb⟩:=h;exact⟨p.mem_iff.mp ha,x,hx,fun b hbm=>hb b (p.mem_iff.mpr hbm)⟩
def ZoV(L:List ZaQ)(H:Hp)(x:V):Prop:=(x=.non∧Win (hdL L) (L.map (·.1)) none)∨∃ (t:Addr) (e:ZaQ) (z:Str),x=.ref t∧e∈L∧e.2.2.1[e.2.2.2]? = some z∧H t=some (.tup [.int e.1,.int (e.2.2.2:Int),.str z])∧Win (hdL L) (L.map (·.1)) (some e.1)
def spLCom:Sp:=fun vs H Q _=>∃ (o ra ga:Addr) (L:List ZaQ) (nb li lo:Int),vs=[.ref o]∧Own H o ra ga L nb li lo∧∀ (x:V) (H':Hp),ZoV L H' x→Zw H H'→Q x H'
def spLPlay:Sp:=fun vs H Q _=>∃ (o ra ga:Addr) (L:List ZaQ) (nb li lo:Int),vs=[.ref o]∧Own H o ra ga L nb li lo∧(L.map (·.1)).Pairwise (·<·)∧(∀e∈L,e.2.1≠o) ∧
 ∀ (k q':Int) (H':Hp),ZdR (hdL L) 8 (L.map (·.1)) k q'→Own H' o ra ga L nb (li+k) (lo+q')→But o H H'→Q .non H'
def Zo4(L:List ZaQ):List Int:=L.map fun e=>(e.2.2.1.length:Int)-(e.2.2.2:Int)
def spLLeft:Sp:=fun vs H Q _=>∃ (o ra ga:Addr) (L:List ZaQ) (nb li lo:Int),vs=[.ref o]∧Own H o ra ga L nb li lo∧∀H':Hp,Zw H H'→Q (.int (Zo4 L).sum) H'
structure Zcb (H:Hp) (r:Addr) (rs:List (Addr×List Str)):Prop where
 at':H r=some (.lst (rs.map fun x=>V.ref x.1))
 few:rs.length≤60
 lst:∀x∈rs,H x.1=some (.lst (x.2.map V.str))∧x.2.length≤100∧∀s∈x.2,s.length≤1000∧AZ s
theorem Zcb.same{H H':Hp}{r:Addr}{rs:List (Addr×List Str)}(h:Zcb H r rs)(s:Zw H H'):Zcb H' r rs:=⟨s _ _ h.at',h.few,fun x hx=>let ⟨a,b⟩:=h.lst x hx;⟨s _ _ a,b⟩⟩
def Zr0(L:List ZaQ)(rs:List (Addr×List Str)):Prop:=L.map (·.1)=Z2 0 rs.length∧L.map (fun e=>e.2.2)=rs.map fun x=>(x.2,0)
theorem Zib(n:Nat):(Z2 0 n).Pairwise (·<·):=by
 unfold Z2
 exact QaR _ (fun a b h=>by omega) (List.pairwise_lt_range)
def spLWorld:Sp:=fun vs H Q _=>∃ (r:Addr) (rs:List (Addr×List Str)),vs=[.ref r]∧Zcb H r rs ∧
 ∀ (o ra ga:Addr) (L:List ZaQ) (k q':Int) (H':Hp),H o=none→H ra=none→H ga=none→ga≠ra→(∀e∈L,H e.2.1=none∧e.2.1≠o)→Zr0 L rs→Own H' o ra ga L (rs.length:Int) k q'→ZdR (hdL L) 8 (L.map (·.1)) k q'→Zw H H'→Q (.ref o) H'
def spLRow:Sp:=fun vs H Q _=>∃ (p l:Addr) (c most:Int) (ss:List Str),vs=[.ref p,.ref l,.int most]∧Zak H p c∧c<2 ^ 40∧0≤most∧most≤60∧H l=some (.lst (ss.map V.str))∧1≤ss.length∧ss.length≤4∧(∀s∈ss,s.length≤24∧AZ s) ∧
 ∀ (r:Addr) (ts:List Str) (c':Int) (H':Hp),H r=none→H' r=some (.lst (ts.map V.str))→(ts.length:Int)≤most→sortedS ts=true→(∀s∈ts,s.length≤28∧AZ s)→Zak H' p c'→c≤c'→c'≤c+600→But p H H'→Q (.ref r) H'
def spLRows:Sp:=fun vs H Q _=>∃ (p:Addr) (c:Int),vs=[.ref p]∧Zak H p c∧c<2 ^ 30 ∧
 ∀ (r:Addr) (rs:List (Addr×List Str)) (c':Int) (H':Hp),H r=none→Zcb H' r rs→(∀x∈rs,H x.1=none∧x.1≠r∧x.1≠p∧sortedS x.2=true∧x.2.length≤60)→rs.length≤12→Zak H' p c'→c≤c'→c'≤c+10000→But p H H'→Q (.ref r) H'
def ZfH(K:PySem.W.Frag):Sp:=fun vs H Q _=>∃ (n:Int) (a:Addr) (ss:List Str),vs=[.int n,.ref a]∧SqL K H a (ss.map V.str)∧ss.length≤200∧(∀s∈ss,s.length≤1000)∧Zh8 ss .non∧∀H',Zw H H'→Q .non H'
theorem Zk3(T:Zau K mg cRow cMerge)(f_first_break:Df P w K mg base 4 "first_break" ["keys"] (Zmx K)):Df P w K mg base 5 "refuse_break" ["number", "keys"] (ZfH K):=by
 refine T.t_refuse_break.df ZcR (fun vs H Q E h=>?_) (fun cdv f A outer s H vs Q E hr h=>?_)
 ·obtain⟨n,a,ss,rfl,_⟩:=h
  rfl
 obtain⟨n,a,ss,rfl,hS,h200,h1000,hnon,q⟩:=h
 refine⟨_,#[Zf,#[Zu,2,ZcR.nd,(Or.inl rfl),#[Zz,f_first_break,hr,#[Za,‹1›,#[Ze]],(by rfl)]],#[Zj,#[Zag,#[Zo,Zht,‹2›,#[Zay],(Zt _)],#[Zj,(@Zob _ _)],#[ZD]]]],?_⟩
 refine⟨_,rfl,a,ss,rfl,hS,h200,h1000,fun v H1 hb s1=>?_⟩
 have e:=ZnX hb hnon
 subst e
 exact⟨_,rfl,rfl,_,rfl,ZbM (q H1 s1)⟩
structure ZB where
 n:Int
 p:Addr
 k:Addr
 f:Addr
 ss:List Str
 g:Nat
def toL(e:ZB):ZaQ:=(e.n,e.p,e.ss,e.g)
def hdM(L:List ZB):Hd:=hdL (L.map toL)
def ZC(L:List ZB):List Int:=L.map (·.n)
theorem Zd6(L:List ZB):(L.map toL).map (·.1)=ZC L:=by rw[QC];rfl
def kvM(L:List ZB):List (Key×V):=L.map fun e=>(.inl e.n,.ref e.p)
theorem ZdX{L:List ZB}(nd:(ZC L).Nodup){e:ZB}(he:e∈L):hdM L e.n=(e.ss[e.g]?).map cds :=
 ZiT (L:=L.map toL) (by rw[Zd6];exact nd) (Qn (f:=toL) he)
theorem ZlN(L:List ZB):(kvM L).map (·.1)=(ZC L).map (Sum.inl:Int→Key):=by unfold kvM ZC;rw[QC,QC];rfl
theorem Zfw{L:List ZB}(nd:(ZC L).Nodup){e:ZB}(he:e∈L):Zbm (kvM L) (.inl e.n)=some (.ref e.p):=ZhL (by rw[ZlN];exact Zqc nd) (Qn (f:=fun e:ZB=>((.inl e.n:Key),V.ref e.p)) he)
theorem Zc1{L:List ZB}{n:Int}(h:n∈ZC L):∃e∈L,e.n=n:=QB.mp h
def mgF(rd:Addr)(nb li lo:Int)(sd:Addr)(best:V):List (Str×V):=[("rows",.ref rd),("next_number",.int nb),("likened",.int li),("looked",.int lo),("stays",.ref sd),("best",best)]
theorem Zrk:¬ (("rows" : Str) = "next_number"):=by ac_rfl
theorem Zqb:¬ (("rows" : Str) = "likened"):=by ac_rfl
theorem Zql:¬ (("rows" : Str) = "looked"):=by ac_rfl
theorem Zqh:¬ (("rows" : Str) = "stays"):=by ac_rfl
theorem Zpl:¬ (("rows" : Str) = "best"):=by ac_rfl
theorem ZqK:¬ (("next_number" : Str) = "likened"):=by ac_rfl
theorem Zrx:¬ (("next_number" : Str) = "looked"):=by ac_rfl
theorem ZrV:¬ (("next_number" : Str) = "stays"):=by ac_rfl
theorem ZqY:¬ (("next_number" : Str) = "best"):=by ac_rfl
theorem Zqn:¬ (("likened" : Str) = "looked"):=by ac_rfl
theorem Zqw:¬ (("likened" : Str) = "stays"):=by ac_rfl
theorem ZpJ:¬ (("likened" : Str) = "best"):=by ac_rfl
theorem Zp3:¬ (("looked" : Str) = "stays"):=by ac_rfl
theorem ZpN:¬ (("looked" : Str) = "best"):=by ac_rfl
theorem Zp8:¬ (("stays" : Str) = "best"):=by ac_rfl
theorem Zc5(f:Str)(v x:V)(r:List (Str×V)):Zn f v ((f,x)::r)=(f,v)::r:=by unfold Zn;rw[if_pos rfl]
theorem Zs{f g:Str}(h:¬ g=f)(v x:V)(r:List (Str×V)):Zn f v ((g,x)::r)=(g,x)::Zn f v r:=by
 show (if g=f then (g,v)::r else (g,x)::Zn f v r)=_
 rw[if_neg h]
theorem Zbk(f:Str)(v:V):Zn f v []=[(f,v)]:=rfl
theorem Zbr(rd:Addr)(nb li lo:Int)(sd:Addr)(best:V):mgF rd nb li lo sd best=Zn "best" best (Zn "stays" (.ref sd) (Zn "looked" (.int lo) (Zn "likened" (.int li) (Zn "next_number" (.int nb) (Zn "rows" (.ref rd) []))))):=by
 rw[Zbk,Zs Zrk,Zbk,Zs Zqb,Zs ZqK,Zbk,Zs Zql,Zs Zrx,Zs Zqn,Zbk,Zs Zqh,Zs ZrV,Zs Zqw,Zs Zp3,Zbk,Zs Zpl,Zs ZqY,Zs ZpJ,Zs ZpN,Zs Zp8,Zbk]
 rfl
section
variable (rd:Addr) (nb li lo:Int) (sd:Addr) (best:V)
theorem ZbE:(mgF rd nb li lo sd best).lookup ("rows" : Str)=some (.ref rd):=by
 rw[Zbr,Zl,if_neg Zpl,Zl,if_neg Zqh,Zl,if_neg Zql,Zl,if_neg Zqb,Zl,if_neg Zrk,Zl,if_pos rfl]
theorem ZeV:(mgF rd nb li lo sd best).lookup ("likened" : Str)=some (.int li):=by
 rw[Zbr,Zl,if_neg ZpJ,Zl,if_neg Zqw,Zl,if_neg Zqn,Zl,if_pos rfl]
theorem Zjb:(mgF rd nb li lo sd best).lookup ("looked" : Str)=some (.int lo):=by
 rw[Zbr,Zl,if_neg ZpN,Zl,if_neg Zp3,Zl,if_pos rfl]
theorem Zcv:(mgF rd nb li lo sd best).lookup ("stays" : Str)=some (.ref sd):=by
 rw[Zbr,Zl,if_neg Zp8,Zl,if_pos rfl]
theorem Zc2:(mgF rd nb li lo sd best).lookup ("best" : Str)=some best:=by
 rw[Zbr,Zl,if_pos rfl]
theorem ZcJ{m:Str}(h1:¬ m = "rows")(h2:¬ m = "next_number")(h3:¬ m = "likened")(h4:¬ m = "looked")(h5:¬ m = "stays")(h6:¬ m = "best"):(mgF rd nb li lo sd best).lookup m=none:=by
 rw[Zbr,Zl,if_neg h6,Zl,if_neg h5,Zl,if_neg h4,Zl,if_neg h3,Zl,if_neg h2,Zl,if_neg h1]
 rfl
theorem ZcT(v:Int):Zn "likened" (.int v) (mgF rd nb li lo sd best)=mgF rd nb v lo sd best:=by unfold mgF;rw[Zs Zqb,Zs ZqK,Zc5]
theorem Zfg(v:Int):Zn "looked" (.int v) (mgF rd nb li lo sd best)=mgF rd nb li v sd best:=by unfold mgF;rw[Zs Zql,Zs Zrx,Zs Zqn,Zc5]
theorem Zge(x:Addr):Zn "stays" (.ref x) (mgF rd nb li lo sd best)=mgF rd nb li lo x best:=by unfold mgF;rw[Zs Zqh,Zs ZrV,Zs Zqw,Zs Zp3,Zc5]
theorem ZbO(x:V):Zn "best" x (mgF rd nb li lo sd best)=mgF rd nb li lo sd x:=by unfold mgF;rw[Zs Zpl,Zs ZqY,Zs ZpJ,Zs ZpN,Zs Zp8,Zc5]
theorem Zb3:(mgF rd nb li lo sd best).length<1000:=by show 6<1000;decide
end
structure Zeh (C:Addr) (H:Hp) (e:ZB):Prop where
 at':Zkn C H e.p e.k e.f e.ss e.g
 le:e.g≤e.ss.length
 len:e.ss.length≤100
 srt:sortedS e.ss=true
 str:∀s∈e.ss,s.length≤1000∧AZ s
structure ZW (cR cM:Addr) (H:Hp) (m rd sd:Addr) (L:List ZB) (s:StL) (nb li lo:Int) (best:V):Prop where
 ob:∃dx,H m=some (.ins cM dx (mgF rd nb li lo sd best))
 rows:H rd=some (.dK (kvM L))
 stays:H sd=some (.dT (kvS s))
 ats:AtS H s
 each:∀e∈L,Zeh cR H e
 up:Zae (ZC L)
 pd:(L.map (·.p)).Nodup
 few:L.length≤60
 sfew:s.length≤100
def Fp(m rd sd:Addr)(L:List ZB)(b:Addr):Prop:=b=m∨b=rd∨b=sd∨∃e∈L,b=e.p∨b=e.k∨b=e.f
theorem Zeh.keep{C:Addr}{H H':Hp}{e:ZB}(h:Zeh C H e)(hp:H' e.p=H e.p)(hk:H' e.k=H e.k)(hf:H' e.f=H e.f):Zeh C H' e :=
 ⟨⟨by rw[hp];exact h.at'.ob,by rw[hk];exact h.at'.ks,by rw[hf];exact h.at'.fs⟩,h.le,h.len,h.srt,h.str⟩
section
variable {cR cM:Addr} {H H':Hp} {m rd sd:Addr} {L:List ZB} {s:StL} {nb li lo:Int} {best:V}
theorem ZW.nd(h:ZW cR cM H m rd sd L s nb li lo best):(ZC L).Nodup:=Zdm h.up
theorem ZW.keep(h:ZW cR cM H m rd sd L s nb li lo best)(k:∀b o,H b=some o→Fp m rd sd L b∨(∃xs,o=.tup xs)→H' b=some o):ZW cR cM H' m rd sd L s nb li lo best:=by
 refine⟨?_,k _ _ h.rows (.inl (.inr (.inl rfl))),k _ _ h.stays (.inl (.inr (.inr (.inl rfl)))),fun e he t ht=>k _ _ (h.ats e he t ht) (.inr ⟨_,rfl⟩),fun e he=>?_,h.up,h.pd,h.few,h.sfew⟩
 ·obtain⟨dx,hd⟩:=h.ob
  exact⟨dx,k _ _ hd (.inl (.inl rfl))⟩
 ·have r:=h.each e he
  obtain⟨dx,hd⟩:=r.at'.ob
  exact⟨⟨⟨dx,k _ _ hd (.inl (.inr (.inr (.inr ⟨e,he,.inl rfl⟩))))⟩,k _ _ r.at'.ks (.inl (.inr (.inr (.inr ⟨e,he,.inr (.inl rfl)⟩)))),k _ _ r.at'.fs (.inl (.inr (.inr (.inr ⟨e,he,.inr (.inr rfl)⟩))))⟩,r.le,r.len,r.srt,r.str⟩
theorem ZW.same(h:ZW cR cM H m rd sd L s nb li lo best)(k:Zw H H'):ZW cR cM H' m rd sd L s nb li lo best:=h.keep fun b o hb _=>k b o hb
theorem ZW.ne_p(h:ZW cR cM H m rd sd L s nb li lo best){e:ZB}(he:e∈L):m≠e.p∧m≠e.k∧m≠e.f:=by
 obtain⟨dx,hd⟩:=h.ob
 have r:=h.each e he
 obtain⟨dy,hy⟩:=r.at'.ob
 refine⟨fun z=>?_,fun z=>?_,fun z=>?_⟩
 ·rw[z,hy]at hd
  injection hd with hd
  injection hd with _ _ hd
  have a:=ZeL e.k e.f (e.g:Int)
  rw[hd,ZcJ _ _ _ _ _ _ (by ac_rfl) (by ac_rfl) (by ac_rfl) (by ac_rfl) (by ac_rfl) (by ac_rfl)]at a
  cases a
 ·rw[z,r.at'.ks]at hd;cases hd
 ·rw[z,r.at'.fs]at hd;cases hd
theorem ZW.ne_m(h:ZW cR cM H m rd sd L s nb li lo best):m≠rd∧m≠sd∧rd≠sd:=by
 obtain⟨dx,hd⟩:=h.ob
 refine⟨fun z=>?_,fun z=>?_,fun z=>?_⟩
 ·rw[z,h.rows]at hd;cases hd
 ·rw[z,h.stays]at hd;cases hd
 ·have:=h.rows;rw[z,h.stays]at this;cases this
theorem ZW.ne_sd(h:ZW cR cM H m rd sd L s nb li lo best){e:ZB}(he:e∈L):sd≠e.p∧sd≠e.k∧sd≠e.f∧rd≠e.p∧rd≠e.k∧rd≠e.f:=by
 have r:=h.each e he
 obtain⟨dy,hy⟩:=r.at'.ob
 have a:=h.stays
 have b:=h.rows
 refine⟨fun z=>?_,fun z=>?_,fun z=>?_,fun z=>?_,fun z=>?_,fun z=>?_⟩
 ·rw[z,hy]at a;cases a
 ·rw[z,r.at'.ks]at a;cases a
 ·rw[z,r.at'.fs]at a;cases a
 ·rw[z,hy]at b;cases b
 ·rw[z,r.at'.ks]at b;cases b
 ·rw[z,r.at'.fs]at b;cases b
theorem ZW.obj(h:ZW cR cM H m rd sd L s nb li lo best){nb' li' lo':Int}{best':V}{dx:Addr}:ZW cR cM (upd H m (.ins cM dx (mgF rd nb' li' lo' sd best'))) m rd sd L s nb' li' lo' best':=by
 obtain⟨n1,n2,n3⟩:=h.ne_m
 obtain⟨dy,hd⟩:=h.ob
 refine⟨⟨dx,Zc⟩,by rw[Zd n1.symm];exact h.rows,by rw[Zd n2.symm];exact h.stays,fun e he t ht=>?_,fun e he=>?_,h.up,h.pd,h.few,h.sfew⟩
 ·have:=h.ats e he t ht
  rw[Zd (fun z=>by rw[z,hd]at this;cases this)];exact this
 ·obtain⟨a,b,c⟩:=h.ne_p he
  exact(h.each e he).keep (Zd a.symm) (Zd b.symm) (Zd c.symm)
theorem ZW.put(h:ZW cR cM H m rd sd L s nb li lo best){k:Int×Int}{v:Option (Addr×Int×Int)}(hv:∀t,v=some t→H t.1=some (.tup [.int t.2.1,.int t.2.2]))(hs:(ZcA s k v).length≤100):ZW cR cM (upd H sd (.dT (kvS (ZcA s k v)))) m rd sd L (ZcA s k v) nb li lo best:=by
 obtain⟨n1,n2,n3⟩:=h.ne_m
 obtain⟨dy,hd⟩:=h.ob
 have tup:∀a xs,H a=some (.tup xs)→(upd H sd (.dT (kvS (ZcA s k v)))) a=some (.tup xs):=fun a xs ha=>by rw[Zd (fun z=>by rw[z,h.stays]at ha;cases ha)];exact ha
 refine⟨⟨dy,by rw[Zd n2];exact hd⟩,by rw[Zd n3];exact h.rows,Zc,(h.ats.put hv).mono tup,fun e he=>?_,h.up,h.pd,h.few,hs⟩
 obtain⟨a,b,c,_⟩:=h.ne_sd he
 exact(h.each e he).keep (Zd a.symm) (Zd b.symm) (Zd c.symm)
end
def Zi9(cR cM:Addr):Sp:=fun vs H Q _=>∃ (m rd sd:Addr) (L:List ZB) (s:StL) (nb li lo:Int) (best:V) (a b:ZB) (x y:Str) (far:Nat),vs=[.ref m,.int a.n,.int b.n,.int (far:Int)]∧ZW cR cM H m rd sd L s nb li lo best∧a∈L∧b∈L∧a.ss[a.g]? = some x∧b.ss[b.g]? = some y∧far≤lcp (cds x) (cds y) ∧
 ∀ (t:Addr) (wi lz:Int) (H':Hp),(Btr (cds x) a.n (cds y) b.n∧wi=a.n∧lz=b.n∨¬ Btr (cds x) a.n (cds y) b.n∧wi=b.n∧lz=a.n)→H t=none→H' t=some (.tup [.int wi,.int lz,.int ((lcp (cds x) (cds y):Nat):Int)]) →
  ZW cR cM H' m rd sd L s nb (li+1) (lo+((lcp (cds x) (cds y):Nat)-(far:Int)+1)) best→(∀b o,H b=some o→b≠m→H' b=some o)→Q (.ref t) H'
theorem Zd0{ss:List Str}{g:Nat}{x:Str}(h:ss[g]? = some x):Zec ss g=.str x:=by unfold Zec;rw[h]
theorem ZbA(k f:Addr)(g:Int):(Zcm k f g).lookup ("head" : Str)=none:=Zka _ _ _ (by ac_rfl) (by ac_rfl) (by ac_rfl)
theorem Zn3(T:Zau K mg cRow cMerge)(f_Row_head:Mf P w K mg base 2 cRow "head" ["self"] (ZfL cRow))(f_liken_from:Df P w K mg base 2 "liken_from" ["one", "other", "far"] ZcV):Mf P w K mg base 3 cMerge "meet" ["self", "one", "other", "far"] (Zi9 cRow cMerge):=by
 refine T.t_Merge_meet.mf Zbv (fun vs H Q E h=>?_) (fun cdv f A outer s H vs Q E hr h=>?_)
 ·obtain⟨m,rd,sd,L,s,nb,li,lo,best,a,b,x,y,far,rfl,_⟩:=h
  rfl
 obtain⟨m,rd,sd,L,s,nb,li,lo,best,a,b,x,y,far,rfl,M,ha,hb,hx,hy,hf,q⟩:=h
 refine⟨_,#[Zf,#[Zbs,#[Zz,f_liken_from,hr,#[Za,#[ZcN,f_Row_head,T.cl_Row,hr,#[ZA,(ixG hr),#[Zaa,‹0›],‹1›]],#[Za,#[ZcN,f_Row_head,T.cl_Row,hr,#[ZA,(ixG hr),#[Zaa,‹0›],‹2›]],#[Za,‹3›,#[Ze]]]],(by rfl)],#[gT,K,3,#[Zy,#[ZN,4,Zbv.nd],#[Zy,#[ZN,5,Zbv.nd],#[Zy,#[ZN,6,Zbv.nd],(@ZaY _)]]]]],#[Zf,(@Zdp _ _ _ _ _ _ _ _ _ _ ‹0› #[Zi] Zhl),#[Zf,(@Zdp _ _ _ _ _ _ _ _ _ _ ‹0› ‹6› Zhl),#[Zf,#[Zag,(@PW.pt _ _ _ (@Zj4 _ _ _ _ _ _ _ #[Zo,ZeT,‹4›,#[Zi],(Zt _)] (@Zhg _ _ _ _ (@PW.pt _ _ _ #[ZeH,#[Zo,Zbj,‹4›,#[Zi],(Zt _)],(@Zd3 _ _ _ _ #[Zo,ZeT,‹1›,‹2›,(Zt _)])])))),#[Zj,#[Zp,#[Za1,#[Za,‹1›,#[Za,‹2›,#[Za,‹5›,#[Ze]]]]]]],#[ZD]],#[Zj,#[Zp,#[Za1,#[Za,‹2›,#[Za,‹1›,#[Za,‹5›,#[Ze]]]]]]]]]]],?_⟩
 obtain⟨dx,hm⟩:=M.ob
 have Ra:=M.each a ha
 have Rb:=M.each b hb
 obtain⟨da,hpa⟩:=Ra.at'.ob
 obtain⟨db,hpb⟩:=Rb.at'.ob
 have lx:=(Ra.str x (Qp hx)).1
 have ly:=(Rb.str y (Qp hy)).1
 refine⟨_,rfl,m,cMerge,dx,_,_,rfl,hm,T.cl_Merge,T.na_Merge_rows,ZbE ..,_,rfl,rd,_,rfl,ZbI.k' (k:=.inl a.n) M.rows (Zfw M.nd ha),a.p,da,_,rfl,hpa,ZbA ..,a.p,a.k,a.f,a.ss,a.g,rfl,Ra.at',?_⟩
 refine⟨_,rfl,m,cMerge,dx,_,_,rfl,hm,T.cl_Merge,T.na_Merge_rows,ZbE ..,_,rfl,rd,_,rfl,ZbI.k' (k:=.inl b.n) M.rows (Zfw M.nd hb),b.p,db,_,rfl,hpb,ZbA ..,b.p,b.k,b.f,b.ss,b.g,rfl,Rb.at',?_⟩
 rw[Zd0 hx,Zd0 hy]
 refine⟨_,rfl,x,y,far,rfl,lx,ly,hf,fun t ht=>?_⟩
 have s1:=Zh ht (.tup [.int (ZG (cds x) (cds y)),.int (lcp (cds x) (cds y):Nat),.int ((lcp (cds x) (cds y):Nat)-(far:Int)+1)])
 have ht1:(upd H t (.tup [.int (ZG (cds x) (cds y)),.int (lcp (cds x) (cds y):Nat),.int ((lcp (cds x) (cds y):Nat)-(far:Int)+1)])) t=some (.tup [.int (ZG (cds x) (cds y)),.int (lcp (cds x) (cds y):Nat),.int ((lcp (cds x) (cds y):Nat)-(far:Int)+1)]):=Zc
 generalize upd H t (.tup [.int (ZG (cds x) (cds y)),.int (lcp (cds x) (cds y):Nat),.int ((lcp (cds x) (cds y):Nat)-(far:Int)+1)])=H1 at s1 ht1 ⊢
 have M1:=M.same s1
 refine⟨t,_,rfl,SqT.of ht1,rfl,_,_,rfl,_,_,rfl,_,_,rfl,rfl,?_⟩
 have hm1:=s1 _ _ hm
 refine⟨_,rfl,m,cMerge,dx,_,_,rfl,hm1,T.cl_Merge,T.na_Merge_likened,ZeV ..,_,_,rfl,rfl,dx,_,hm1,Zb3 ..,?_⟩
 rw[ZcT]
 have M2:=M1.obj (nb':=nb) (li':=li+1) (lo':=lo) (best':=best) (dx:=dx)
 have k2:∀b o,H b=some o→b≠m→(upd H1 m (.ins cMerge dx (mgF rd nb (li+1) lo sd best))) b=some o:=fun b o hb n=>by rw[Zd n];exact s1 b o hb
 have hm2:(upd H1 m (.ins cMerge dx (mgF rd nb (li+1) lo sd best))) m=some (.ins cMerge dx (mgF rd nb (li+1) lo sd best)):=Zc
 generalize upd H1 m (.ins cMerge dx (mgF rd nb (li+1) lo sd best))=H2 at M2 k2 hm2 ⊢
 refine⟨_,rfl,m,cMerge,dx,_,_,rfl,hm2,T.cl_Merge,T.na_Merge_looked,Zjb ..,_,rfl,_,_,rfl,rfl,dx,_,hm2,Zb3 ..,?_⟩
 rw[Zfg]
 have M3:=M2.obj (nb':=nb) (li':=li+1) (lo':=lo+((lcp (cds x) (cds y):Nat)-(far:Int)+1)) (best':=best) (dx:=dx)
 have k3:∀b o,H b=some o→b≠m→(upd H2 m (.ins cMerge dx (mgF rd nb (li+1) (lo+((lcp (cds x) (cds y):Nat)-(far:Int)+1)) sd best))) b=some o:=fun b o hb n=>by rw[Zd n];exact k2 b o hb n
 generalize upd H2 m (.ins cMerge dx (mgF rd nb (li+1) (lo+((lcp (cds x) (cds y):Nat)-(far:Int)+1)) sd best))=H3 at M3 k3 ⊢
 have fin:∀wi lz:Int,(Btr (cds x) a.n (cds y) b.n∧wi=a.n∧lz=b.n∨¬ Btr (cds x) a.n (cds y) b.n∧wi=b.n∧lz=a.n)→∀t2,H3 t2=none→Q (.ref t2) (upd H3 t2 (.tup [.int wi,.int lz,.int ((lcp (cds x) (cds y):Nat):Int)])):=fun wi lz hw t2 ht2=>by
  have hfree:H t2=none:=by
   cases e:H t2 with
   | none=>rfl
   | some o =>
    by_cases z:t2=m
    ·obtain⟨dz,hz⟩:=M3.ob;rw[z,hz]at ht2;cases ht2
    ·rw[k3 t2 o e z]at ht2;cases ht2
  exact q t2 wi lz _ hw hfree Zc (M3.same (Zh ht2 _)) (fun b o hb n=>Zh ht2 _ _ _ (k3 b o hb n))
 have sz3:3≤sizeLine:=by decide
 refine⟨_,rfl,_,_,rfl,rfl,_,rfl,Za9 (fun d=>?_) (fun d=>?_)⟩
 ·have d':ZG (cds x) (cds y)<0:=of_decide_eq_true d
  exact Zdj ⟨_,rfl,_,rfl,_,rfl,sz3,fun t2 ht2=>fin _ _ (.inl ⟨.inl d',rfl,rfl⟩) t2 ht2⟩
 have d1:¬ ZG (cds x) (cds y)<0:=fun z=>d (decide_eq_true z)
 refine⟨_,rfl,rfl,_,rfl,Za9 (fun e=>?_) (fun e=>?_)⟩
 ·have e':ZG (cds x) (cds y)=0:=by have:=of_decide_eq_true e;injection this
  refine⟨_,rfl,_,rfl,_,_,rfl,rfl,_,rfl,Za9 (fun g=>?_) (fun g=>?_)⟩
  ·have g':a.n<b.n:=of_decide_eq_true g
   exact⟨_,rfl,_,rfl,_,rfl,sz3,fun t2 ht2=>fin _ _ (.inl ⟨.inr ⟨e',g'⟩,rfl,rfl⟩) t2 ht2⟩
  ·have g':¬ a.n<b.n:=fun z=>g (decide_eq_true z)
   exact⟨_,rfl,_,rfl,_,rfl,sz3,fun t2 ht2=>fin _ _ (.inr ⟨fun z=>by rcases z with z|z;exact d1 z;exact g' z.2,rfl,rfl⟩) t2 ht2⟩
 ·have e':ZG (cds x) (cds y)≠0:=fun z=>e (decide_eq_true (by rw[z]))
  exact ZbM ⟨_,rfl,_,rfl,_,rfl,sz3,fun t2 ht2=>fin _ _ (.inr ⟨fun z=>by rcases z with z|z;exact d1 z;exact e' z.1,rfl,rfl⟩) t2 ht2⟩
theorem ZW.cast{cR cM:Addr}{H:Hp}{m rd sd:Addr}{L:List ZB}{s:StL}{nb li lo li' lo':Int}{best:V}(h:ZW cR cM H m rd sd L s nb li lo best)(e1:li=li')(e2:lo=lo'):ZW cR cM H m rd sd L s nb li' lo' best:=by subst e1;subst e2;exact h
theorem ZhD{N:List Int}(h:N≠[]):atI (N.map V.int) (-1)=some (.int (N.getLastD 0)):=by
 have e:N=N.dropLast++[N.getLast h]:=(List.dropLast_concat_getLast h).symm
 have:=ZlR (N.dropLast.map V.int) (V.int (N.getLast h))
 rw[Qan,QaH h]
 conv=>lhs;rw[e,Qe]
 exact this
theorem ZiI{N:List Int}(h:N≠[]):atI (N.map V.int) 0=some (.int (N.headD 0)):=by
 cases N with
 | nil=>exact absurd rfl h
 | cons a r=>exact Z3 (j:=0) rfl
theorem ZdP(rd:Addr)(nb li lo:Int)(sd:Addr)(best:V):(mgF rd nb li lo sd best).lookup ("play" : Str)=none:=ZcJ _ _ _ _ _ _ (by ac_rfl) (by ac_rfl) (by ac_rfl) (by ac_rfl) (by ac_rfl) (by ac_rfl)
theorem ZfB(rd:Addr)(nb li lo:Int)(sd:Addr)(best:V):(mgF rd nb li lo sd best).lookup ("meet" : Str)=none:=ZcJ _ _ _ _ _ _ (by ac_rfl) (by ac_rfl) (by ac_rfl) (by ac_rfl) (by ac_rfl) (by ac_rfl)
def Zms(K:PySem.W.Frag)(cR cM:Addr)(n:Nat):Sp:=fun vs H Q _=>∃ (m rd sd:Addr) (L:List ZB) (s:StL) (nb li lo:Int) (best:V) (l:Addr) (N:List Int),vs=[.ref m,.ref l]∧ZW cR cM H m rd sd L s nb li lo best∧H l=some (.lst (N.map V.int))∧1≤N.length∧N.length≤60∧0<n∧N.length≤2 ^ (n-1)∧(∀x∈N,x∈ZC L)∧Zae N∧(∀k,Zd2 n N k→ZO s k=none)∧s.length+N.length≤100 ∧
 ∀ (w:Option Int) (s':StL) (k q:Int) (H':Hp),Win (hdM L) N w→Zen (hdM L) s' n N→ZdR (hdM L) n N k q→(∀j,¬ Zd2 n N j→ZO s' j=ZO s j)→s'.length+1≤s.length+N.length→ZW cR cM H' m rd sd L s' nb (li+k) (lo+q) best→(∀b o,H b=some o→b≠m→b≠sd→H' b=some o)→Q (ZdT w) H'
theorem ZjU(T:Zau K mg cRow cMerge)(f_Row_head:Mf P w K mg base 2 cRow "head" ["self"] (ZfL cRow))(f_halves:Df P w K mg base 1 "halves" ["numbers"] (ZdZ K true))(f_Merge_meet:Mf P w K mg base 3 cMerge "meet" ["self", "one", "other", "far"] (Zi9 cRow cMerge)) :
  ∀n:Nat,Mf P w K mg base (n+4) cMerge "play" ["self", "numbers"] (Zms K cRow cMerge n)
 | 0=>by
  refine T.t_Merge_play.mf Z9 (fun vs H Q E h=>?_) (fun cdv f A outer s H vs Q E hr h=>?_)
  ·obtain⟨m,rd,sd,L,s,nb,li,lo,best,l,N,rfl,_⟩:=h
   rfl
  obtain⟨m,rd,sd,L,s,nb,li,lo,best,l,N,rfl,_,_,_,_,z,_⟩:=h
  exact absurd z (by omega)
 | n+1=>by
  have f_Merge_play:=ZjU T f_Row_head f_halves f_Merge_meet n
  refine T.t_Merge_play.mf Z9 (fun vs H Q E h=>?_) (fun cdv f A outer s H vs Q E hr h=>?_)
  ·obtain⟨m,rd,sd,L,s,nb,li,lo,best,l,N,rfl,_⟩:=h
   rfl
  obtain⟨m,rd,sd,L,s,nb,li,lo',best,l,N,rfl,M,hl,h1,h60,_,hp2,hmem,hup,hfree,hsz,q⟩:=h
  rw[Qav]at hp2
  refine⟨_,#[Zf,#[Zag,#[Zo,Zbj,#[Zk,(Zbn K),(by rfl),T.b.n_len,Qx,#[Za,‹1›,#[Ze]]],#[Zi],(Zt _)],#[Zj,#[Zp,#[Zby,#[Zo,ZcD,#[ZcN,f_Row_head,T.cl_Row,hr,#[ZA,(ixG hr),#[Zaa,‹0›],#[ZA,(ixL K),‹1›,#[Zi]]]],#[Zay],(Zt _)],#[Zay],#[ZA,(ixL K),‹1›,#[Zi]]]]],#[ZD]],#[Zf,#[Zbs,#[Zz,f_halves,hr,#[Za,‹1›,#[Ze]],(by rfl)],#[gT,K,2,#[Zy,#[ZN,2,Z9.nd],#[Zy,#[ZN,3,Z9.nd],(@ZaY _)]]]],#[Zf,#[Zu,4,Z9.nd,(Or.inl rfl),#[ZeS,f_Merge_play,T.cl_Merge,hr,‹0›,#[Za,‹2›,#[Ze]]]],#[Zf,#[Zu,5,Z9.nd,(Or.inl rfl),#[ZeS,f_Merge_play,T.cl_Merge,hr,‹0›,#[Za,‹3›,#[Ze]]]],#[Zf,#[Zag,#[Zo,ZcD,‹4›,#[Zay],(Zt _)],#[Zj,#[Zp,‹5›]],#[ZD]],#[Zf,#[Zag,#[Zo,ZcD,‹5›,#[Zay],(Zt _)],#[Zj,#[Zp,‹4›]],#[ZD]],#[Zf,#[Zbs,#[ZeS,f_Merge_meet,T.cl_Merge,hr,‹0›,#[Za,‹4›,#[Za,‹5›,#[Za,#[Zi],#[Ze]]]]],#[gT,K,3,#[Zy,#[ZN,6,Z9.nd],#[Zy,#[ZN,7,Z9.nd],#[Zy,#[ZN,8,Z9.nd],(@ZaY _)]]]]],#[Zf,#[Zbs,#[Za1,#[Za,‹7›,#[Za,‹8›,#[Ze]]]],#[ZdU,#[Zaa,‹0›],#[Za1,#[Za,#[ZA,(ixL K),‹1›,#[Zi]],#[Za,#[ZA,(ixL K),‹1›,(@ZgD _ _ _ _ _ _ ZeG #[Zi])],#[Ze]]]],(Zl2 hr)]],#[Zj,#[Zp,‹6›]]]]]]]]]],?_⟩
  obtain⟨dx,hm⟩:=M.ob
  have hN:N≠[]:=Z6 h1
  have nml:l≠m:=fun z=>by rw[z,hm]at hl;cases hl
  have nsl:l≠sd:=fun z=>by rw[z,M.stays]at hl;cases hl
  have hll:(((N.map V.int).length:Nat):Int)=(N.length:Int):=by rw[Qb]
  refine⟨_,rfl,l,_,rfl,.inl (SqL.of hl),rfl,_,rfl,Za9 (fun d=>?_) (fun d=>?_)⟩
  ·have hone:N.length=1:=by have:=of_decide_eq_true d;injection this with this;rw[hll]at this;omega
   obtain⟨n0,rfl⟩:∃n0,N=[n0]:=QaS.mp hone
   obtain⟨e,he,rfl⟩:=Zc1 (hmem n0 (by simp))
   have R:=M.each e he
   obtain⟨dp,hp⟩:=R.at'.ob
   have hat:atI (([e.n]:List Int).map V.int) 0=some (.int e.n):=Z3 (j:=0) rfl
   refine⟨_,rfl,m,cMerge,dx,_,_,rfl,hm,T.cl_Merge,T.na_Merge_rows,ZbE ..,_,rfl,l,_,_,_,rfl,rfl,SqL.of hl,hat,rd,_,rfl,ZbI.k' (k:=.inl e.n) M.rows (Zfw M.nd he),e.p,dp,_,rfl,hp,ZbA ..,e.p,e.k,e.f,e.ss,e.g,rfl,R.at',rfl,_,rfl,?_⟩
   have hst:Zen (hdM L) s (n+1) [e.n]:=fun h2=>by simp at h2
   have hpl:ZdR (hdM L) (n+1) [e.n] 0 0:=.few (by show 1<2;decide)
   have hwin:=Win.sing (hd:=hdM L) (n:=e.n)
   have hd:=ZdX M.nd he
   have M':=M.cast (li':=li+0) (lo':=lo'+0) (by omega) (by omega)
   cases hx:e.ss[e.g]? with
   | none =>
    rw[show Zec e.ss e.g=.non by unfold Zec;rw[hx]]
    rw[hd,hx]at hwin
    exact Zef rfl (q none s 0 0 H hwin hst hpl (fun _ _=>rfl) (Qf _) M' (fun b o h _ _=>h))
   | some x =>
    rw[Zd0 hx]
    rw[hd,hx]at hwin
    exact ZcS (fun z=>nomatch z) ⟨_,rfl,l,_,_,_,rfl,rfl,SqL.of hl,hat,q (some e.n) s 0 0 H hwin hst hpl (fun _ _=>rfl) (Qf _) M' (fun b o h _ _=>h)⟩
  have hge:2≤N.length:=by
   have:¬ ((N.length:Int)=1):=fun z=>d (decide_eq_true (by rw[hll,z]))
   omega
  have hn1:1≤n:=by
   cases n with
   | zero=>simp at hp2;omega
   | succ m=>omega
  have hpow:2 ^ n=2*2 ^ (n-1):=by
   obtain⟨m,rfl⟩:∃m,n=m+1:=⟨n-1,by omega⟩
   rw[Nat.pow_succ,Qav];omega
  have hlo:(lo N).length≤2 ^ (n-1)∧(lo N).length≤60:=by unfold lo mid;rw[Qy];omega
  have hupl:(up N).length≤2 ^ (n-1)∧(up N).length≤60:=by unfold up mid;rw[QP];omega
  have hsum:(lo N).length+(up N).length=N.length:=by rw[← Qg,ZbW]
  have hmlo:∀x∈lo N,x∈ZC L:=fun x hx=>hmem x (Qaz hx)
  have hmup:∀x∈up N,x∈ZC L:=fun x hx=>hmem x (QaA hx)
  refine⟨_,rfl,l,N,rfl,SqL.of hl,by omega,fun t f r H2 ht hf hr' nfr ht2 hf2 hr2 s2 ntf ntr=>?_⟩
  rw[if_pos rfl]at ht2
  rw[ZpP]at hf2
  rw[Zpu]at hr2
  refine⟨t,_,rfl,SqT.of ht2,rfl,_,_,rfl,_,_,rfl,rfl,?_⟩
  have M2:=M.same s2
  have hm2:=s2 _ _ hm
  have nfm:r≠m:=(Zb hm hr').symm
  have nfs:r≠sd:=(Zb M.stays hr').symm
  refine⟨_,rfl,m,dx,_,rfl,hm2,ZdP ..,_,rfl,m,rd,sd,L,s,nb,li,lo',best,f,lo N,rfl,M2,hf2,(ZcY hge).2,hlo.2,hn1,hlo.1,hmlo,Zdv hup,fun k hk=>hfree k ⟨hge,.inl hk⟩,by omega,fun w1 s1 k1 q1 H3 W1 S1 P1 o1 l1 M3 b3=>?_⟩
  have hr3:=b3 _ _ hr2 nfm nfs
  obtain⟨dx3,hm3⟩:=M3.ob
  refine⟨_,rfl,m,dx3,_,rfl,hm3,ZdP ..,_,rfl,m,rd,sd,L,s1,nb,_,_,best,r,up N,rfl,M3,hr3,(ZdK hge).2,hupl.2,hn1,hupl.1,hmup,Zdu hup,fun k hk=>?_,by omega,fun w2 s2' k2 q2 H4 W2 S2 P2 o2 l2 M4 b4=>?_⟩
  ·rw[o1 k ((Zg1 hup hge hk).2 n)]
   exact hfree k ⟨hge,.inr (.inl hk)⟩
  have key_n:¬ Zd2 n (lo N) (ZJ N)∧¬ Zd2 n (up N) (ZJ N):=⟨fun z=>(Zhe hup hge z).1 rfl,fun z=>(Zg1 hup hge z).1 rfl⟩
  have S1':Zen (hdM L) s2' n (lo N):=S1.congr n _ (fun _ _=>rfl) (fun k hk=>o2 k ((Zhe hup hge hk).2 n))
  have hk2:ZO s2' (ZJ N)=none:=by rw[o2 _ key_n.2,o1 _ key_n.1];exact hfree _ ⟨hge,.inr (.inr rfl)⟩
  have oth:∀j,¬ Zd2 (n+1) N j→ZO s2' j=ZO s j:=fun j hj=>by
   rw[o2 j (fun z=>hj ⟨hge,.inr (.inl z)⟩),o1 j (fun z=>hj ⟨hge,.inl z⟩)]
  have b04:∀b o,H b=some o→b≠m→b≠sd→H4 b=some o:=fun b o hb n1 n2=>b4 b o (b3 b o (s2 b o hb) n1 n2) n1 n2
  have none':∀wn,Win (hdM L) N wn→(Win (hdM L) (lo N) none∨Win (hdM L) (up N) none)→Q (ZdT wn) H4:=fun wn hw hno=>by
   refine q wn s2' (k1+k2) (q1+q2) H4 hw (fun _=>⟨S1',S2,fun a b x y wa wb _ _=>?_,fun _=>.inl hk2⟩) (.none hge P1 P2 hno) oth (by omega) (M4.cast (by omega) (by omega)) b04
   rcases hno with z|z
   ·exact nomatch z.one wa
   ·exact nomatch z.one wb
  cases w1 with
  | none=>exact⟨_,rfl,rfl,_,rfl,Zef rfl ⟨_,rfl,none' w2 (by have:=Win.right W1 W2;rwa [ZbW]at this) (.inl W1)⟩⟩
  | some a =>
  refine⟨_,rfl,rfl,_,rfl,ZcS (fun z=>nomatch z) ?_⟩
  cases w2 with
  | none=>exact⟨_,rfl,rfl,_,rfl,Zef rfl ⟨_,rfl,none' (some a) (by have:=Win.left W1 W2;rwa [ZbW]at this) (.inr W2)⟩⟩
  | some b =>
  refine⟨_,rfl,rfl,_,rfl,ZcS (fun z=>nomatch z) ?_⟩
  obtain⟨ea,hea,ea'⟩:=Zc1 (hmlo a W1.1)
  obtain⟨eb,heb,eb'⟩:=Zc1 (hmup b W2.1)
  subst ea'
  subst eb'
  have hda:=ZdX M.nd hea
  have hdb:=ZdX M.nd heb
  cases hx:ea.ss[ea.g]? with
  | none=>obtain⟨_,z,hz,_⟩:=W1;rw[hda,hx]at hz;cases hz
  | some x =>
  cases hy:eb.ss[eb.g]? with
  | none=>obtain⟨_,z,hz,_⟩:=W2;rw[hdb,hy]at hz;cases hz
  | some y =>
  rw[hx]at hda
  rw[hy]at hdb
  obtain⟨dx4,hm4⟩:=M4.ob
  refine⟨_,rfl,m,dx4,_,rfl,hm4,ZfB ..,_,rfl,_,rfl,m,rd,sd,L,s2',nb,_,_,best,ea,eb,x,y,0,rfl,M4,hea,heb,hx,hy,Qq _,fun t5 wi lz H5 hw ht5 ht5' M5 b5=>?_⟩
  refine⟨t5,_,rfl,SqT.of ht5',rfl,_,_,rfl,_,_,rfl,_,_,rfl,rfl,?_⟩
  have sz2:2≤sizeLine:=by decide
  refine⟨_,rfl,_,rfl,sz2,fun t6 ht6=>?_⟩
  have s6:=Zh ht6 (.tup [.int lz,.int ((lcp (cds x) (cds y):Nat):Int)])
  have ht66:(upd H5 t6 (.tup [.int lz,.int ((lcp (cds x) (cds y):Nat):Int)])) t6=some (.tup [.int lz,.int ((lcp (cds x) (cds y):Nat):Int)]):=Zc
  have M6:=M5.same s6
  generalize upd H5 t6 (.tup [.int lz,.int ((lcp (cds x) (cds y):Nat):Int)])=H6 at s6 ht66 M6 ⊢
  obtain⟨dx6,hm6⟩:=M6.ob
  have hl6:H6 l=some (.lst (N.map V.int)):=s6 _ _ (b5 _ _ (b04 _ _ hl nml nsl) nml)
  refine⟨_,rfl,m,cMerge,dx6,_,_,rfl,hm6,T.cl_Merge,T.na_Merge_stays,Zcv ..,_,rfl,l,_,_,_,rfl,rfl,SqL.of hl6,ZiI hN,_,rfl,_,rfl,l,_,_,_,rfl,rfl,SqL.of hl6,ZhD hN,sz2,fun t7 ht7=>?_⟩
  have s7:=Zh ht7 (.tup [.int (N.headD 0),.int (N.getLastD 0)])
  have ht77:(upd H6 t7 (.tup [.int (N.headD 0),.int (N.getLastD 0)])) t7=some (.tup ([.inl (ZJ N).1,.inl (ZJ N).2].map kV)):=Zc
  have M7:=M6.same s7
  generalize upd H6 t7 (.tup [.int (N.headD 0),.int (N.getLastD 0)])=H7 at s7 ht77 M7 ⊢
  have hsl:(kvS s2').length<sizeLine:=by unfold kvS;rw[Qb];exact ZH (by omega)
  refine⟨sd,_,rfl,ZeM.t (k:=[.inl (ZJ N).1,.inl (ZJ N).2]) M7.stays ht77 hsl,?_⟩
  rw[show V.ref t6=stV (some (t6,lz,((lcp (cds x) (cds y):Nat):Int))) from rfl,Ze3]
  have hpl:=ZmX s2' (ZJ N) (some (t6,lz,((lcp (cds x) (cds y):Nat):Int)))
  have l1':=(ZcY hge).2
  have M8:=M7.put (k:=ZJ N) (v:=some (t6,lz,((lcp (cds x) (cds y):Nat):Int))) (fun t ht=>by injection ht with ht;rw[← ht];exact s7 _ _ ht66) (by omega)
  have hne:ea.n≠eb.n:=fun z=>by have:=ZE hup W1.1 W2.1;omega
  have b08:∀b o,H b=some o→b≠m→b≠sd→(upd H7 sd (.dT (kvS (ZcA s2' (ZJ N) (some (t6,lz,((lcp (cds x) (cds y):Nat):Int))))))) b=some o:=fun b o hb n1 n2=>by
   rw[Zd n2];exact s7 _ _ (s6 _ _ (b5 _ _ (b04 _ _ hb n1 n2) n1))
  have hwin:Win (hdM L) N (some wi):=by
   rcases hw with⟨w0,rfl,_⟩|⟨w0,rfl,_⟩
   ·have:=Win.both W1 W2 hda hdb w0;rwa [ZbW]at this
   ·have:=Win.both' W1 W2 hda hdb ((Btr.total hne).resolve_left w0);rwa [ZbW]at this
  have hlz:lz=if ZG (cds x) (cds y)<0∨(ZG (cds x) (cds y)=0∧ea.n<eb.n) then eb.n else ea.n:=by
   rcases hw with⟨w0,_,rfl⟩|⟨w0,_,rfl⟩
   ·exact(if_pos (show ZG (cds x) (cds y)<0∨(ZG (cds x) (cds y)=0∧ea.n<eb.n) from w0)).symm
   ·exact(if_neg (show ¬ (ZG (cds x) (cds y)<0∨(ZG (cds x) (cds y)=0∧ea.n<eb.n)) from w0)).symm
  refine⟨_,rfl,q (some wi) _ (k1+k2+1) (q1+q2+(lcp (cds x) (cds y):Nat)+1) _ hwin (fun _=>⟨?_,?_,?_,fun hno=>?_⟩) (.both hge P1 P2 W1 W2 hda hdb) (fun j hj=>?_) (by omega) (M8.cast (by omega) (by omega)) b08⟩
  ·exact S1'.congr n _ (fun _ _=>rfl) (fun k hk=>by rw[ZaO,if_neg (Zhe hup hge hk).1])
  ·exact S2.congr n _ (fun _ _=>rfl) (fun k hk=>by rw[ZaO,if_neg (Zg1 hup hge hk).1])
  ·intro a' b' x' y' wa wb hxa hyb
   have e1:=Qm (wa.one W1)
   have e2:=Qm (wb.one W2)
   subst e1
   subst e2
   have e3:=Qm (hxa.symm.trans hda)
   have e4:=Qm (hyb.symm.trans hdb)
   subst e3
   subst e4
   exact⟨t6,by rw[ZaO,if_pos rfl,hlz]⟩
  ·rcases hno with z|z
   ·exact nomatch z.one W1
   ·exact nomatch z.one W2
  ·rw[ZaO,if_neg (fun z=>hj ⟨hge,.inr (.inr z)⟩)]
   exact oth j hj
theorem Zeh.mono{C:Addr}{H H':Hp}{e:ZB}(h:Zeh C H e)(k:∀b o,H b=some o→b=e.p∨b=e.k∨b=e.f→H' b=some o):Zeh C H' e:=by
 obtain⟨dx,hd⟩:=h.at'.ob
 exact⟨⟨⟨dx,k _ _ hd (.inl rfl)⟩,k _ _ h.at'.ks (.inr (.inl rfl)),k _ _ h.at'.fs (.inr (.inr rfl))⟩,h.le,h.len,h.srt,h.str⟩
theorem ZmU(L:List ZB):(kvM L).map (fun kv=>kV kv.1)=(ZC L).map V.int:=by unfold kvM ZC;rw[QC,QC];rfl
theorem ZmI{n:Nat}{N:List Int}{k:Int×Int}(_:Zd2 n N k):ZO [] k=none:=rfl
def ZgS(cR cM:Addr):Sp:=fun vs H Q _=>∃ (m rd sd:Addr) (L:List ZB) (s:StL) (nb li lo:Int) (best:V),vs=[.ref m]∧ZW cR cM H m rd sd L s nb li lo best ∧
 ∀ (sd':Addr) (s':StL) (w:Option Int) (k q:Int) (H':Hp),H sd'=none→Win (hdM L) (ZC L) w→Zen (hdM L) s' 8 (ZC L)→ZdR (hdM L) 8 (ZC L) k q→ZW cR cM H' m rd sd' L s' nb (li+k) (lo+q) (ZdT w)→(∀b o,H b=some o→b≠m→H' b=some o)→Q .non H'
theorem Zij(T:Zau K mg cRow cMerge)(f_Merge_play:Mf P w K mg base 12 cMerge "play" ["self", "numbers"] (Zms K cRow cMerge 8)):Mf P w K mg base 13 cMerge "play_all" ["self"] (ZgS cRow cMerge):=by
 refine T.t_Merge_play_all.mf Zd1 (fun vs H Q E h=>?_) (fun cdv f A outer s H vs Q E hr h=>?_)
 ·obtain⟨m,rd,sd,L,s,nb,li,lo,best,rfl,_⟩:=h
  rfl
 obtain⟨m,rd,sd,L,s,nb,li,lo',best,rfl,M,q⟩:=h
 refine⟨_,#[Zf,#[ZbG,‹0›,(@Zkd _ _)],#[Zj,#[ZbG,‹0›,#[Zby,#[Zo,ZfW,#[Zk,Zsr,(by rfl),T.b.n_len,Qx,#[Za,#[Zaa,‹0›],#[Ze]]],#[Zi],(Zt _)],#[ZeS,f_Merge_play,T.cl_Merge,hr,‹0›,#[Za,#[ZQ,ZqW,(by rfl),T.b.n_list,boot_list,#[Za,#[Zaa,‹0›],#[Ze]]],#[Ze]]],#[Zay]]]]],?_⟩
 refine fun sd' hsd=>?_
 obtain⟨dx,hm⟩:=M.ob
 have s1:=Zh hsd (.dT [])
 have hs1:(upd H sd' (.dT [])) sd'=some (.dT (kvS [])):=Zc
 have M1:=M.same s1
 have hm1:=s1 _ _ hm
 have nms:m≠sd':=Zb hm hsd
 have nrs:rd≠sd':=Zb M.rows hsd
 generalize upd H sd' (.dT [])=H1 at s1 hs1 M1 hm1 ⊢
 refine⟨_,rfl,m,cMerge,dx,_,rfl,hm1,T.cl_Merge,T.na_Merge_stays,Zb3 ..,?_⟩
 rw[Zge]
 obtain⟨n1,n2,n3⟩:=M.ne_m
 have M2:ZW cRow cMerge (upd H1 m (.ins cMerge dx (mgF rd nb li lo' sd' best))) m rd sd' L [] nb li lo' best:=by
  refine⟨⟨dx,Zc⟩,by rw[Zd n1.symm];exact M1.rows,by rw[Zd nms.symm];exact hs1,(fun e he=>by cases he),fun e he=>?_,M.up,M.pd,M.few,by decide⟩
  obtain⟨a,b,c⟩:=M1.ne_p he
  exact(M1.each e he).keep (Zd a.symm) (Zd b.symm) (Zd c.symm)
 have k2:∀b o,H b=some o→b≠m→(upd H1 m (.ins cMerge dx (mgF rd nb li lo' sd' best))) b=some o:=fun b o hb n=>by rw[Zd n];exact s1 b o hb
 generalize upd H1 m (.ins cMerge dx (mgF rd nb li lo' sd' best))=H2 at M2 k2 ⊢
 obtain⟨dx2,hm2⟩:=M2.ob
 have hlen:(((kvM L).length:Nat):Int)=(L.length:Int):=by unfold kvM;rw[Qb]
 have hnl:(ZC L).length=L.length:=by unfold ZC;rw[Qb]
 have hfew:=M.few
 refine⟨_,rfl,m,cMerge,dx2,_,_,rfl,hm2,T.cl_Merge,T.na_Merge_rows,ZbE ..,rd,_,rfl,M2.rows,_,_,rfl,rfl,_,rfl,Za9 (fun d=>?_) (fun d=>?_)⟩
 ·have hpos:0<L.length:=by have:(0:Int)<(((kvM L).length:Nat):Int):=of_decide_eq_true d;omega
  refine⟨_,rfl,m,dx2,_,rfl,hm2,ZdP ..,_,rfl,m,cMerge,dx2,_,_,rfl,hm2,T.cl_Merge,T.na_Merge_rows,ZbE ..,rd,_,rfl,M2.rows,fun l hl=>?_⟩
  rw[ZmU]
  have s3:=Zh hl (.lst ((ZC L).map V.int))
  have hl3:(upd H2 l (.lst ((ZC L).map V.int))) l=some (.lst ((ZC L).map V.int)):=Zc
  have M3:=M2.same s3
  generalize upd H2 l (.lst ((ZC L).map V.int))=H3 at s3 hl3 M3 ⊢
  refine⟨m,rd,sd',L,[],nb,li,lo',best,l,ZC L,rfl,M3,hl3,by omega,by omega,by decide,QM (by omega:(ZC L).length≤60) (by decide),fun x hx=>hx,M.up,fun k hk=>ZmI hk,by show 0+_≤_;omega,fun w1 s' k q' H4 W S Pl _ _ M4 b4=>?_⟩
  obtain⟨dx4,hm4⟩:=M4.ob
  refine⟨_,rfl,m,cMerge,dx4,_,rfl,hm4,T.cl_Merge,T.na_Merge_best,Zb3 ..,?_⟩
  rw[ZbO]
  exact q sd' s' w1 k q' _ hsd W S Pl M4.obj (fun b o hb n=>by rw[Zd n];exact b4 b o (s3 b o (k2 b o hb n)) n (Zb hb hsd))
 ·have hnil:L=[]:=by
   cases L with
   | nil=>rfl
   | cons e r=>exact absurd (decide_eq_true (show (0:Int)<(((kvM (e::r)).length:Nat):Int) by rw[hlen];simp only[List.length_cons];omega)) d
  subst hnil
  refine⟨_,rfl,m,cMerge,dx2,_,rfl,hm2,T.cl_Merge,T.na_Merge_best,Zb3 ..,?_⟩
  rw[ZbO]
  exact q sd' [] none 0 0 _ hsd (Win.nil _) (fun h2=>absurd h2 (by decide)) (.few (by decide)) (M2.obj.cast (by omega) (by omega)) (fun b o hb n=>by rw[Zd n];exact k2 b o hb n)
def Zqv(L:List ZB)(rs:List (Addr×List Str)):Prop:=ZC L=Z2 0 rs.length∧L.map (fun e=>(e.ss,e.g))=rs.map fun x=>(x.2,0)
def ZeO(cR cM:Addr):Sp:=fun vs H Q _=>∃ (m dx r:Addr) (rs:List (Addr×List Str)),vs=[.ref m,.ref r]∧H m=some (.ins cM dx [])∧Zcb H r rs∧(∀x∈rs,sortedS x.2=true) ∧
 ∀ (rd sd:Addr) (L:List ZB) (s:StL) (w:Option Int) (k q:Int) (H':Hp),ZW cR cM H' m rd sd L s (rs.length:Int) k q (ZdT w)→Zqv L rs→Win (hdM L) (ZC L) w→Zen (hdM L) s 8 (ZC L)→ZdR (hdM L) 8 (ZC L) k q→(∀b,Fp m rd sd L b→b=m∨H b=none)→(∀b o,H b=some o→b≠m→H' b=some o)→Q .non H'
theorem ZfV(rd:Addr)(nb li lo:Int)(sd:Addr)(best:V):(mgF rd nb li lo sd best).lookup ("play_all" : Str)=none:=ZcJ _ _ _ _ _ _ (by ac_rfl) (by ac_rfl) (by ac_rfl) (by ac_rfl) (by ac_rfl) (by ac_rfl)
theorem ZoN{ss:List Str}(h:sortedS ss=true):Zh8 ss .non:=by
 refine .inl ⟨rfl,fun i x y hx hy=>?_⟩
 have:=Zgs h i y x hy hx
 have:=Zbh (cds y) (cds x)
 omega
theorem Zf1(T:Zau K mg cRow cMerge)(f_refuse_break:Df P w K mg base 5 "refuse_break" ["number", "keys"] (ZfH K))(f_Row_init:Cf P w K mg base 4 cRow "Row" ["self", "keys"] (Zgv cRow))(f_Merge_play_all:Mf P w K mg base 13 cMerge "play_all" ["self"] (ZgS cRow cMerge)):Cf P w K mg base 14 cMerge "Merge" ["self", "rows"] (ZeO cRow cMerge):=by
 refine T.t_Merge_init.cf Zca (fun vs H Q E h=>?_) (fun cdv f A outer s H vs Q E hr h=>?_)
 ·obtain⟨m,dx,r,rs,rfl,_⟩:=h
  rfl
 obtain⟨m,dx,r,rs,rfl,hm,hrs,hsrt,q⟩:=h
 refine⟨_,#[Zf,#[ZbG,‹0›,(@Znu _ _)],#[Zf,#[Zcf,PassesOwn.never,#[iE,K,T.b.n_enumerate,#[Za,‹1›,#[Ze]]],#[gT,K,2,#[Zy,#[ZN,2,Zca.nd],#[Zy,#[ZN,3,Zca.nd],(@ZaY _)]]],#[Zf,#[Zam,#[Zz,f_refuse_break,hr,#[Za,‹2›,#[Za,‹3›,#[Ze]]],(by rfl)]],#[Zj,#[Zbs,#[ZoQ,f_Row_init,hr,#[Za,‹3›,#[Ze]]],#[ZdU,#[Zaa,‹0›],‹2›,(Zl2 hr)]]]]],#[Zf,#[ZbG,‹0›,#[Zk,(Zbn K),(by rfl),T.b.n_len,Qx,#[Za,‹1›,#[Ze]]]],#[Zf,#[ZbG,‹0›,#[Zi]],#[Zf,#[ZbG,‹0›,#[Zi]],#[Zf,#[ZbG,‹0›,(@Zkd _ _)],#[Zf,#[ZbG,‹0›,#[Zay]],#[Zj,#[Zam,#[ZcN,f_Merge_play_all,T.cl_Merge,hr,‹0›]]]]]]]]]],?_⟩
 refine fun rd hrd=>?_
 have nmr:m≠rd:=Zb hm hrd
 have s1:=Zh hrd (.dK [])
 have hr1:(upd H rd (.dK [])) rd=some (.dK (kvM [])):=Zc
 have hm1:=s1 _ _ hm
 generalize upd H rd (.dK [])=H1 at s1 hr1 hm1 ⊢
 refine⟨_,rfl,m,cMerge,dx,_,rfl,hm1,T.cl_Merge,T.na_Merge_rows,(by show 0<1000;decide),?_⟩
 have nrm:r≠m:=fun z=>by have:=hrs.at';rw[z,hm]at this;cases this
 have k2:∀b o,H b=some o→b≠m→(upd H1 m (.ins cMerge dx (Zn "rows" (.ref rd) []))) b=some o:=fun b o hb n=>by rw[Zd n];exact s1 b o hb
 have hm2:(upd H1 m (.ins cMerge dx (Zn "rows" (.ref rd) []))) m=some (.ins cMerge dx (Zn "rows" (.ref rd) [])):=Zc
 have hr2:(upd H1 m (.ins cMerge dx (Zn "rows" (.ref rd) []))) rd=some (.dK (kvM [])):=by rw[Zd nmr.symm];exact hr1
 generalize upd H1 m (.ins cMerge dx (Zn "rows" (.ref rd) []))=H2 at k2 hm2 hr2 ⊢
 have hfew:=hrs.few
 have lkr:(Zn "rows" (.ref rd) []).lookup ("rows" : Str)=some (V.ref rd):=by rw[Zl,if_pos rfl]
 refine⟨_,rfl,r,_,rfl,SqL.of (k2 _ _ hrs.at' nrm),?_⟩
 refine Zid (K:=K) (a:=r) (xs:=rs.map fun x=>V.ref x.1) (fun i σ H5=>∃ (L:List ZB) (v2 v3:Option V),σ=[some (.ref m),some (.ref r),v2,v3]∧H5 m=some (.ins cMerge dx (Zn "rows" (.ref rd) []))∧H5 rd=some (.dK (kvM L))∧(∀e∈L,Zeh cRow H5 e)∧Zqv L (rs.take i)∧(L.map (·.p)).Nodup∧(∀e∈L,H e.p=none∧H e.k=none∧H e.f=none)∧(∀b o,H b=some o→b≠m→H5 b=some o)) ⟨[],_,_,rfl,hm2,hr2,(fun e h=>by cases h),⟨rfl,rfl⟩,Qay,(fun e h=>by cases h),k2⟩ (fun i σ H5 hq=>by obtain⟨_,_,_,_,_,_,_,_,_,_,k5⟩:=hq;exact SqL.of (k5 _ _ hrs.at' nrm)) ?_ ?_
 ·rintro i y σ H5 p hy ⟨L,v2,v3,rfl,hm5,hr5,each,⟨n1,n2⟩,pd,hfr,k5⟩ hp
  rw[Qj]at hy
  cases hz:rs[i]? with
  | none=>rw[hz]at hy;cases hy
  | some x =>
  rw[hz]at hy
  cases hy
  have hil:i<rs.length:=(Qd.mp hz).1
  have hxm:=Qp hz
  obtain⟨lx,l100,laz⟩:=hrs.lst x hxm
  have nxm:x.1≠m:=fun z=>by rw[z,hm]at lx;cases lx
  have hLl:L.length=i:=by have:=congrArg List.length n1;unfold ZC at this;rw[Qb,ZaT,Qy]at this;omega
  have hlt:∀e∈L,e.n≠(i:Int):=fun e he z=>by
   have h1:e.n∈Z2 0 (rs.take i).length:=by rw[← n1];exact Qn (f:=fun e:ZB=>e.n) he
   unfold Z2 at h1
   obtain⟨j,hj,ej⟩:=QB.mp h1
   have:=Qab.mp hj
   rw[Qy]at this
   omega
  have sp:=Zh hp (.tup [.int (i:Int),.ref x.1])
  have hp6:(upd H5 p (.tup [.int (i:Int),.ref x.1])) p=some (.tup [.int (i:Int),.ref x.1]):=Zc
  generalize upd H5 p (.tup [.int (i:Int),.ref x.1])=H6 at sp hp6 ⊢
  refine⟨p,_,rfl,SqT.of hp6,rfl,_,_,rfl,_,_,rfl,rfl,?_⟩
  have lx6:H6 x.1=some (.lst (x.2.map V.str)):=sp _ _ (k5 _ _ lx nxm)
  refine⟨_,rfl,_,rfl,(i:Int),x.1,x.2,rfl,SqL.of lx6,by omega,fun s hs=>(laz s hs).1,ZoN (hsrt x hxm),fun H7 s7=>?_⟩
  have s57:=sp.trans s7
  refine⟨_,rfl,fun u dy hu hdy ndu=>?_⟩
  have hu5:H5 u=none:=s57.free hu
  have lx8:(upd (upd H7 dy (.own u)) u (.ins cRow dy [])) x.1=some (.lst (x.2.map V.str)):=by
   have:=s7 _ _ lx6
   rw[Zd (Zb this hu),Zd (Zb this hdy)];exact this
  have s8:∀b o,H5 b=some o→(upd (upd H7 dy (.own u)) u (.ins cRow dy [])) b=some o:=fun b o hb=>by
   have:=s57 _ _ hb
   rw[Zd (Zb this hu),Zd (Zb this hdy)];exact this
  have hu8:(upd (upd H7 dy (.own u)) u (.ins cRow dy [])) u=some (.ins cRow dy []):=Zc
  generalize upd (upd H7 dy (.own u)) u (.ins cRow dy [])=H8 at lx8 s8 hu8 ⊢
  refine⟨u,dy,x.1,x.2,rfl,hu8,lx8,l100,fun s hs=>(laz s hs).1,fun k f H9 hk hf nkf R k9=>⟨rfl,?_⟩⟩
  have s9:∀b o,H5 b=some o→H9 b=some o:=fun b o hb=>k9 b o (s8 b o hb) (Zb hb hu5)
  have free5:∀b,H8 b=none→H5 b=none:=fun b hb=>by
   cases e:H5 b with
   | none=>rfl
   | some o=>rw[s8 b o e]at hb;cases hb
  have free0:∀b,b≠m→H5 b=none→H b=none:=fun b nb hb=>by
   cases e:H b with
   | none=>rfl
   | some o=>rw[k5 b o e nb]at hb;cases hb
  have num:u≠m:=fun z=>by rw[z,hm5]at hu5;cases hu5
  have nkm:k≠m:=fun z=>by have:=free5 k hk;rw[z,hm5]at this;cases this
  have nfm:f≠m:=fun z=>by have:=free5 f hf;rw[z,hm5]at this;cases this
  have nrd:rd≠u∧rd≠k∧rd≠f:=⟨Zb hr5 hu5,Zb hr5 (free5 k hk),Zb hr5 (free5 f hf)⟩
  have hsz:(kvM L).length<sizeLine:=by unfold kvM;rw[Qb];exact ZH (by omega)
  have hn1:Zbm (kvM L) (.inl (i:Int))=none:=by
   cases hv:Zbm (kvM L) (.inl (i:Int)) with
   | none=>rfl
   | some v=>obtain⟨e,he,z⟩:=QB.mp (ZlC hv);injection z with z _;exact absurd (Sum.inl.inj z) (hlt e he)
  refine⟨_,rfl,m,cMerge,dx,_,_,rfl,s9 _ _ hm5,T.cl_Merge,T.na_Merge_rows,lkr,_,rfl,rd,_,rfl,ZeM.k (k:=.inl (i:Int)) (s9 _ _ hr5) hsz,?_⟩
  rw[Zmg _ hn1,show kvM L++[((.inl (i:Int):Key),V.ref u)]=kvM (L++[⟨(i:Int),u,k,f,x.2,0⟩]) by unfold kvM;rw[Qe];rfl]
  refine⟨L++[⟨(i:Int),u,k,f,x.2,0⟩],_,_,rfl,by rw[Zd nmr];exact s9 _ _ hm5,Zc,fun e he=>?_,⟨?_,?_⟩,?_,fun e he=>?_,fun b o hb n=>?_⟩
  ·rcases Qk.mp he with he|he
   ·have re:=each e he
    obtain⟨de,hde⟩:=re.at'.ob
    refine re.mono fun b o hb hor=>?_
    have nb:b≠rd:=fun z=>by
     rw[z,hr5]at hb
     injection hb with hb
     subst hb
     rcases hor with z2|z2|z2
     ·rw[← z2,z,hr5]at hde;cases hde
     ·have:=re.at'.ks;rw[← z2,z,hr5]at this;cases this
     ·have:=re.at'.fs;rw[← z2,z,hr5]at this;cases this
    rw[Zd nb];exact s9 b o hb
   ·rw[Qi.mp he]
    refine Zeh.keep (H:=H9) ⟨R,Qq _,l100,hsrt x hxm,laz⟩ (Zd nrd.1.symm) (Zd nrd.2.1.symm) (Zd nrd.2.2.symm)
  ·unfold ZC at n1 ⊢
   rw[Qe,n1,Qy,Qy,Nat.min_eq_left (by omega),Nat.min_eq_left (by omega)]
   unfold Z2
   rw[List.range_succ,Qe]
   simp
  ·rw[Qe,n2,QF,hz,Qe];rfl
  ·rw[Qe]
   refine QT.mpr ⟨pd,by simp,fun a ha b hb=>?_⟩
   obtain⟨e,he,rfl⟩:=QB.mp ha
   have:b=u:=by simpa using hb
   rw[this]
   obtain⟨de,hde⟩:=(each e he).at'.ob
   exact Zb hde hu5
  ·rcases Qk.mp he with he|he
   ·exact hfr e he
   ·rw[Qi.mp he]
    exact⟨free0 u num hu5,free0 k nkm (free5 k hk),free0 f nfm (free5 f hf)⟩
  ·rw[Zd (Zb hb hrd)];exact s9 b o (k5 b o hb n)
 ·rintro σ H5 ⟨L,v2,v3,rfl,hm5,hr5,each,hnew,pd,hfr,k5⟩
  rw[Qb,Qw (Qf _)]at hnew
  have p1:=Zbz "rows" (V.ref rd) []
  have p2:=Zbz "next_number" (V.int (rs.length:Int)) (Zn "rows" (.ref rd) [])
  have p3:=Zbz "likened" (V.int 0) (Zn "next_number" (.int (rs.length:Int)) (Zn "rows" (.ref rd) []))
  have p4:=Zbz "looked" (V.int 0) (Zn "likened" (.int 0) (Zn "next_number" (.int (rs.length:Int)) (Zn "rows" (.ref rd) [])))
  have p0:([]:List (Str×V)).length=0:=rfl
  refine⟨_,rfl,r,_,rfl,.inl (SqL.of (k5 _ _ hrs.at' nrm)),_,rfl,m,cMerge,dx,_,rfl,hm5,T.cl_Merge,T.na_Merge_next_number,by omega,?_⟩
  rw[Qb]
  refine⟨_,rfl,m,cMerge,dx,_,rfl,Zc,T.cl_Merge,T.na_Merge_likened,by omega,?_⟩
  refine⟨_,rfl,m,cMerge,dx,_,rfl,Zc,T.cl_Merge,T.na_Merge_looked,by omega,?_⟩
  have k8:∀b,b≠m→(upd (upd (upd H5 m (.ins cMerge dx (Zn "next_number" (.int (rs.length:Int)) (Zn "rows" (.ref rd) [])))) m (.ins cMerge dx (Zn "likened" (.int 0) (Zn "next_number" (.int (rs.length:Int)) (Zn "rows" (.ref rd) []))))) m (.ins cMerge dx (Zn "looked" (.int 0) (Zn "likened" (.int 0) (Zn "next_number" (.int (rs.length:Int)) (Zn "rows" (.ref rd) [])))))) b=H5 b:=fun b n=>by rw[Zd n,Zd n,Zd n]
  have hm8:(upd (upd (upd H5 m (.ins cMerge dx (Zn "next_number" (.int (rs.length:Int)) (Zn "rows" (.ref rd) [])))) m (.ins cMerge dx (Zn "likened" (.int 0) (Zn "next_number" (.int (rs.length:Int)) (Zn "rows" (.ref rd) []))))) m (.ins cMerge dx (Zn "looked" (.int 0) (Zn "likened" (.int 0) (Zn "next_number" (.int (rs.length:Int)) (Zn "rows" (.ref rd) [])))))) m=some (.ins cMerge dx (Zn "looked" (.int 0) (Zn "likened" (.int 0) (Zn "next_number" (.int (rs.length:Int)) (Zn "rows" (.ref rd) []))))):=Zc
  generalize (upd (upd (upd H5 m (.ins cMerge dx (Zn "next_number" (.int (rs.length:Int)) (Zn "rows" (.ref rd) [])))) m (.ins cMerge dx (Zn "likened" (.int 0) (Zn "next_number" (.int (rs.length:Int)) (Zn "rows" (.ref rd) []))))) m (.ins cMerge dx (Zn "looked" (.int 0) (Zn "likened" (.int 0) (Zn "next_number" (.int (rs.length:Int)) (Zn "rows" (.ref rd) []))))))=H8 at k8 hm8 ⊢
  refine fun sd hsd=>?_
  have nms:m≠sd:=Zb hm8 hsd
  have p5:=Zbz "stays" (V.ref sd) (Zn "looked" (.int 0) (Zn "likened" (.int 0) (Zn "next_number" (.int (rs.length:Int)) (Zn "rows" (.ref rd) []))))
  refine⟨_,rfl,m,cMerge,dx,_,rfl,by rw[Zd nms];exact hm8,T.cl_Merge,T.na_Merge_stays,by omega,?_⟩
  refine⟨_,rfl,m,cMerge,dx,_,rfl,Zc,T.cl_Merge,T.na_Merge_best,by omega,?_⟩
  have hsd5:H5 sd=none:=by rw[← k8 sd nms.symm];exact hsd
  have hm9:(upd (upd (upd H8 sd (.dT [])) m (.ins cMerge dx (Zn "stays" (.ref sd) (Zn "looked" (.int 0) (Zn "likened" (.int 0) (Zn "next_number" (.int (rs.length:Int)) (Zn "rows" (.ref rd) []))))))) m (.ins cMerge dx (Zn "best" .non (Zn "stays" (.ref sd) (Zn "looked" (.int 0) (Zn "likened" (.int 0) (Zn "next_number" (.int (rs.length:Int)) (Zn "rows" (.ref rd) [])))))))) m=some (.ins cMerge dx (mgF rd (rs.length:Int) 0 0 sd .non)):=by rw[Zbr];exact Zc
  have hs9:(upd (upd (upd H8 sd (.dT [])) m (.ins cMerge dx (Zn "stays" (.ref sd) (Zn "looked" (.int 0) (Zn "likened" (.int 0) (Zn "next_number" (.int (rs.length:Int)) (Zn "rows" (.ref rd) []))))))) m (.ins cMerge dx (Zn "best" .non (Zn "stays" (.ref sd) (Zn "looked" (.int 0) (Zn "likened" (.int 0) (Zn "next_number" (.int (rs.length:Int)) (Zn "rows" (.ref rd) [])))))))) sd=some (.dT (kvS [])):=by rw[Zd nms.symm,Zd nms.symm];exact Zc
  have k9:∀b o,H5 b=some o→b≠m→(upd (upd (upd H8 sd (.dT [])) m (.ins cMerge dx (Zn "stays" (.ref sd) (Zn "looked" (.int 0) (Zn "likened" (.int 0) (Zn "next_number" (.int (rs.length:Int)) (Zn "rows" (.ref rd) []))))))) m (.ins cMerge dx (Zn "best" .non (Zn "stays" (.ref sd) (Zn "looked" (.int 0) (Zn "likened" (.int 0) (Zn "next_number" (.int (rs.length:Int)) (Zn "rows" (.ref rd) [])))))))) b=some o:=fun b o hb n=>by rw[Zd n,Zd n,Zd (Zb hb hsd5),k8 b n];exact hb
  generalize (upd (upd (upd H8 sd (.dT [])) m (.ins cMerge dx (Zn "stays" (.ref sd) (Zn "looked" (.int 0) (Zn "likened" (.int 0) (Zn "next_number" (.int (rs.length:Int)) (Zn "rows" (.ref rd) []))))))) m (.ins cMerge dx (Zn "best" .non (Zn "stays" (.ref sd) (Zn "looked" (.int 0) (Zn "likened" (.int 0) (Zn "next_number" (.int (rs.length:Int)) (Zn "rows" (.ref rd) []))))))))=H9 at hm9 hs9 k9 ⊢
  have hLl:L.length=rs.length:=by have:=congrArg List.length hnew.1;unfold ZC at this;rw[Qb,ZaT]at this;exact this
  have M9:ZW cRow cMerge H9 m rd sd L [] (rs.length:Int) 0 0 .non:=by
   refine⟨⟨dx,hm9⟩,k9 _ _ hr5 nmr.symm,hs9,(fun e he=>by cases he),fun e he=>?_,by rw[hnew.1];exact Zib _,pd,by omega,by decide⟩
   have re:=each e he
   obtain⟨de,hde⟩:=re.at'.ob
   refine re.mono fun b o hb hor=>k9 b o hb fun z=>?_
   have hf:=hfr e he
   have hm':=hm
   rw[← z]at hm'
   rcases hor with z2|z2|z2
   ·rw[z2,hf.1]at hm';cases hm'
   ·rw[z2,hf.2.1]at hm';cases hm'
   ·rw[z2,hf.2.2]at hm';cases hm'
  refine⟨_,rfl,m,dx,_,rfl,hm9,ZfV ..,m,rd,sd,L,[],_,0,0,.non,rfl,M9,fun sd' s' w1 k q' H10 hsd' W S Pl M10 b10=>?_⟩
  have free0:∀b,b≠m→H9 b=none→H b=none:=fun b nb hb=>by
   cases e:H b with
   | none=>rfl
   | some o=>rw[k9 b o (k5 b o e nb) nb]at hb;cases hb
  refine q rd sd' L s' w1 k q' H10 (M10.cast (by omega) (by omega)) hnew W S Pl (fun b hb=>?_) (fun b o hb n=>b10 b o (k9 b o (k5 b o hb n) n) n)
  rcases hb with rfl|rfl|rfl|⟨e,he,hb⟩
  ·exact .inl rfl
  ·exact .inr hrd
  ·exact .inr (free0 _ (fun z=>by rw[z,hm9]at hsd';cases hsd') hsd')
  ·have hf:=hfr e he
   rcases hb with rfl|rfl|rfl
   ·exact .inr hf.1
   ·exact .inr hf.2.1
   ·exact .inr hf.2.2
def spLik(cR cM:Addr):Sp:=fun vs H Q _=>∃ (m rd sd:Addr) (L:List ZB) (s:StL) (nb li lo:Int) (best:V),vs=[.ref m]∧ZW cR cM H m rd sd L s nb li lo best∧Q (.int li) H
def spLks(cR cM:Addr):Sp:=fun vs H Q _=>∃ (m rd sd:Addr) (L:List ZB) (s:StL) (nb li lo:Int) (best:V),vs=[.ref m]∧ZW cR cM H m rd sd L s nb li lo best∧Q (.int lo) H
def ZhJ(cR cM:Addr):Sp:=fun vs H Q _=>∃ (m rd sd:Addr) (L:List ZB) (s:StL) (nb li lo:Int) (w:Option Int),vs=[.ref m]∧ZW cR cM H m rd sd L s nb li lo (ZdT w)∧Win (hdM L) (ZC L) w∧∀ (x:V) (H':Hp),ZoV (L.map toL) H' x→Zw H H'→Q x H'
theorem Zlr(T:Zau K mg cRow cMerge)(f_Row_head:Mf P w K mg base 2 cRow "head" ["self"] (ZfL cRow)):Mf P w K mg base 3 cMerge "coming" ["self"] (ZhJ cRow cMerge):=by
 refine T.t_Merge_coming.mf ZcQ (fun vs H Q E h=>?_) (fun cdv f A outer s H vs Q E hr h=>?_)
 ·obtain⟨m,rd,sd,L,s,nb,li,lo,w,rfl,_⟩:=h
  rfl
 obtain⟨m,rd,sd,L,s,nb,li,lo,w,rfl,M,W,q⟩:=h
 refine⟨_,#[Zf,#[Zag,#[Zo,ZcD,#[Zaa,‹0›],#[Zay],(Zt _)],#[Zj,#[Zp,#[Zay]]],#[ZD]],#[Zf,#[Zu,1,ZcQ.nd,(Or.inl rfl),#[ZA,(ixG hr),#[Zaa,‹0›],#[Zaa,‹0›]]],#[Zj,#[Zp,#[Za1,#[Za,#[Zaa,‹0›],#[Za,#[Zaa,‹1›],#[Za,#[ZcN,f_Row_head,T.cl_Row,hr,‹1›],#[Ze]]]]]]]]],?_⟩
 obtain⟨dx,hm⟩:=M.ob
 refine⟨_,rfl,m,cMerge,dx,_,_,rfl,hm,T.cl_Merge,T.na_Merge_best,Zc2 ..,rfl,_,rfl,?_⟩
 have W':Win (hdL (L.map toL)) ((L.map toL).map (·.1)) w:=by rw[Zd6];exact W
 cases w with
 | none=>exact Zef rfl (q _ H (.inl ⟨rfl,W'⟩) (Zw.refl H))
 | some a =>
  obtain⟨e,he,rfl⟩:=Zc1 W.1
  have R:=M.each e he
  obtain⟨dp,hp⟩:=R.at'.ob
  have hd:=ZdX M.nd he
  cases hx:e.ss[e.g]? with
  | none=>obtain⟨_,z,hz,_⟩:=W;rw[hd,hx]at hz;cases hz
  | some x =>
  refine ZcS (fun z=>nomatch z) ?_
  refine⟨_,rfl,m,cMerge,dx,_,_,rfl,hm,T.cl_Merge,T.na_Merge_rows,ZbE ..,_,rfl,m,cMerge,dx,_,_,rfl,hm,T.cl_Merge,T.na_Merge_best,Zc2 ..,rd,_,rfl,ZbI.k' (k:=.inl e.n) M.rows (Zfw M.nd he),?_⟩
  refine⟨_,rfl,m,cMerge,dx,_,_,rfl,hm,T.cl_Merge,T.na_Merge_best,Zc2 ..,_,rfl,e.p,cRow,dp,_,_,rfl,hp,T.cl_Row,T.na_Row_gone,Zcn ..,_,rfl,e.p,dp,_,rfl,hp,ZbA ..,e.p,e.k,e.f,e.ss,e.g,rfl,R.at',(by show 3≤sizeLine;decide),fun t ht=>?_⟩
  rw[Zd0 hx]
  exact q _ _ (.inr ⟨t,toL e,x,rfl,Qn he,hx,Zc,W'⟩) (Zh ht _)
def spLeftM(cR cM:Addr):Sp:=fun vs H Q _=>∃ (m rd sd:Addr) (L:List ZB) (s:StL) (nb li lo:Int) (best:V),vs=[.ref m]∧ZW cR cM H m rd sd L s nb li lo best∧∀H':Hp,Zw H H'→Q (.int (Zo4 (L.map toL)).sum) H'
def ZsD(L:List ZaQ):List (Int×Option Str):=L.map fun e=>(e.1,e.2.2.1[e.2.2.2]?)
def Zq4(H:Hp)(l:Addr)(E:List (Int×Option Str)):Prop:=∃ts:List (Addr×Int×Option Str),ts.map (·.2)=E∧H l=some (.lst (ts.map fun t=>V.ref t.1))∧∀t∈ts,H t.1=some (.tup [.int t.2.1,oV t.2.2])
theorem ZmF(ss:List Str)(g:Nat):Zec ss g=oV ss[g]?:=by unfold Zec oV;cases ss[g]?<;>rfl
def spHeadsM(cR cM:Addr):Sp:=fun vs H Q _=>∃ (m rd sd:Addr) (L:List ZB) (s:StL) (nb li lo:Int) (best:V),vs=[.ref m]∧ZW cR cM H m rd sd L s nb li lo best∧∀ (l:Addr) (H':Hp),H l=none→Zq4 H' l (ZsD (L.map toL))→Zw H H'→Q (.ref l) H'
def Agr(Lo:List ZaQ)(L:List ZB):Prop:=Lo.map (fun e=>(e.1,e.2.2))=L.map (fun e=>(e.n,(e.ss,e.g)))
theorem Zjy:∀ (A B:List ZaQ),A.map (fun e=>(e.1,e.2.2))=B.map (fun e=>(e.1,e.2.2))→hdL A=hdL B
 | [],[],_=>rfl
 | [],_::_,h=>by cases h
 | _::_,[],h=>by cases h
 | a::A,b::B,h=>by
  rw[Qh,Qh]at h
  injection h with h1 h2
  injection h1 with h3 h4
  have ih:=Zjy A B h2
  funext n
  have ihn:=congrFun ih n
  unfold hdL at ihn ⊢
  rw[QaJ,QaJ,h3]
  split
  ·simp only[Option.bind_some];rw[h4]
  ·exact ihn
theorem Zea{α β:Type}:∀ {P:List (α×β)},(P.map (·.1)).Nodup→∀ {p q:α×β},p∈P→q∈P→p.1=q.1→p=q
 | [],_,_,_,h,_,_=>by cases h
 | x::r,nd,p,q,hp,hq,e=>by
  rw[Qh,QU]at nd
  rcases QO.mp hp with h1|h1
  ·rcases QO.mp hq with h2|h2
   ·rw[h1,h2]
   ·exact absurd (show x.1∈r.map (·.1) by rw[← h1,e];exact Qn (f:=fun x:α×β=>x.1) h2) nd.1
  ·rcases QO.mp hq with h2|h2
   ·exact absurd (show x.1∈r.map (·.1) by rw[← h2,← e];exact Qn (f:=fun x:α×β=>x.1) h1) nd.1
   ·exact Zea nd.2 h1 h2 e
def ZqM(x:V):Prop:=x=.non∨(∃b,x=.bl b)∨(∃i,x=.int i)∨∃s,x=.str s
structure F2 (R:V→V→Prop) (xs ys:List V):Prop where
 len:xs.length=ys.length
 at':∀ (i:Nat) (x y:V),xs[i]? = some x→ys[i]? = some y→R x y
theorem F2.nil{R:V→V→Prop}:F2 R [] []:=⟨rfl,fun i x y h=>by simp at h⟩
theorem F2.cons{R:V→V→Prop}{x y:V}{xs ys:List V}(h:R x y)(t:F2 R xs ys):F2 R (x::xs) (y::ys):=by
 refine⟨by rw[QE,QE,t.len],fun i a b ha hb=>?_⟩
 cases i with
 | zero=>simp at ha hb;rw[← ha,← hb];exact h
 | succ i=>exact t.at' i a b (by simpa using ha) (by simpa using hb)
theorem Znw{H:Hp}{n:Nat}{x:V}(h:ZqM x):IsD H (n+1) x x:=.inl ⟨rfl,h⟩
theorem Zoj{H:Hp}{n:Nat}(i:Int):IsD H (n+1) (.int i) (.int i):=Znw (.inr (.inr (.inl ⟨i,rfl⟩)))
theorem Zog{H:Hp}{n:Nat}{p q:Addr}{xs ys:List V}(hp:H p=some (.lst xs))(hq:H q=some (.lst ys))(h:xs.length≤1000)(f:F2 (IsD H n) xs ys):IsD H (n+1) (.ref p) (.ref q):=.inr ⟨p,q,xs,ys,rfl,rfl,.inl ⟨hp,hq⟩,f.len,h,f.at'⟩
theorem Zhk(rd:Addr)(nb li lo:Int)(sd:Addr)(best:V):(mgF rd nb li lo sd best).lookup ("coming" : Str)=none:=ZcJ _ _ _ _ _ _ (by ac_rfl) (by ac_rfl) (by ac_rfl) (by ac_rfl) (by ac_rfl) (by ac_rfl)
def spStands(cR cM:Addr):Sp:=fun vs H Q _=>∃ (m rd sd:Addr) (L:List ZB) (s:StL) (nb li lo:Int) (w:Option Int) (o ra ga:Addr) (Lo:List ZaQ) (nb':Int),vs=[.ref m,.ref o]∧ZW cR cM H m rd sd L s nb li lo (ZdT w)∧Win (hdM L) (ZC L) w∧Own H o ra ga Lo nb' li lo∧Agr Lo L∧∀H',Zw H H'→Q (.bl true) H'
def rowsD(rs:List (Addr×List Str)):PyData:=.list (rs.map fun x=>.list (x.2.map PyData.str))
def Zab(M:List Int)(n:Int):List Int:=if n∈lo M then lo M else up M
def Zap(M:List Int)(n:Int):List Int:=if n∈lo M then up M else lo M
def ZR:Nat→List Int→Int→List (List Int)
 | 0,_,_=>[]
 | k+1,M,n=>if 2≤M.length then ZR k (Zab M n) n++[M] else []
inductive Sub (N:List Int):List Int→Prop
 | top:Sub N N
 | lo {M:List Int}:Sub N M→2≤M.length→Sub N (lo M)
 | up {M:List Int}:Sub N M→2≤M.length→Sub N (up M)
theorem Sub.trans{A B C:List Int}(h:Sub A B)(k:Sub B C):Sub A C:=by
 induction k with
 | top=>exact h
 | lo _ h2 ih=>exact ih.lo h2
 | up _ h2 ih=>exact ih.up h2
theorem Sub.rise{N M:List Int}(h:Sub N M)(r:Zae N):Zae M:=by
 induction h with
 | top=>exact r
 | lo _ _ ih=>exact Zdv ih
 | up _ _ ih=>exact Zdu ih
theorem Sub.mem{N M:List Int}(h:Sub N M){x:Int}(hx:x∈M):x∈N:=by
 induction h with
 | top=>exact hx
 | lo _ _ ih=>exact ih (Qaz hx)
 | up _ _ ih=>exact ih (QaA hx)
theorem ZhK{M:List Int}(h:2≤M.length)(n:Int):Sub M (Zab M n):=by
 unfold Zab
 split
 ·exact Sub.top.lo h
 ·exact Sub.top.up h
theorem Zdk{M:List Int}{n:Int}(h:n∈M):n∈Zab M n:=by
 unfold Zab
 split
 ·assumption
 ·rename_i hn
  rw[← ZbW M]at h
  exact(Qk.mp h).resolve_left hn
theorem Zfm{M:List Int}(r:Zae M){n:Int}(hn:n∈Zab M n):n ∉ Zap M n:=by
 intro h
 unfold Zap Zab at *
 split at h
 ·rename_i hl
  have:=ZE r hl h
  omega
 ·rename_i hl;exact hl h
theorem ZeF(M:List Int)(n:Int):(Zab M n++Zap M n).Perm M:=by
 unfold Zab Zap
 split
 ·rw[ZbW]
 ·exact List.perm_append_comm.trans (by rw[ZbW])
def Kys(M:List Int)(k:Int×Int):Prop:=∃M',Sub M M'∧2≤M'.length∧k=ZJ M'
theorem Zho{M:List Int}{k:Int×Int}(h:Kys M k):k.1∈M∧k.2∈M:=by
 obtain⟨M',s,h2,rfl⟩:=h
 have hn:M'≠[]:=Z6 (by omega)
 exact⟨s.mem (ZbV hn),s.mem (ZbQ hn)⟩
theorem Zm5{M:List Int}(r:Zae M)(h2:2≤M.length){k:Int×Int}(h:Kys (lo M) k):k≠ZJ M∧¬ Kys (up M) k:=by
 have:=Zho h
 refine⟨fun z=>?_,fun m=>?_⟩
 ·have h1:=ZeA h2
  rw[z,h1]at this
  have:=ZE r this.2 (ZbQ (Z6 (ZdK h2).2))
  omega
 ·have:=ZE r this.1 (Zho m).1
  omega
theorem ZlY{M:List Int}(r:Zae M)(h2:2≤M.length){k:Int×Int}(h:Kys (up M) k):k≠ZJ M∧¬ Kys (lo M) k:=by
 have:=Zho h
 refine⟨fun z=>?_,fun m=>?_⟩
 ·have h1:=Zeu h2
  rw[z,h1]at this
  have:=ZE r (ZbV (Z6 (ZcY h2).2)) this.1
  omega
 ·have:=ZE r (Zho m).1 this.1
  omega
theorem Zit{M:List Int}(r:Zae M)(h2:2≤M.length){n:Int}{k:Int×Int}(h:Kys (Zab M n) k):k≠ZJ M∧¬ Kys (Zap M n) k:=by
 unfold Zab at h
 unfold Zap
 split
 ·rename_i hl;rw[if_pos hl]at h;exact Zm5 r h2 h
 ·rename_i hl;rw[if_neg hl]at h;exact ZlY r h2 h
theorem ZiB{M:List Int}(r:Zae M)(h2:2≤M.length){n:Int}{k:Int×Int}(h:Kys (Zap M n) k):k≠ZJ M∧¬ Kys (Zab M n) k:=by
 unfold Zap at h
 unfold Zab
 split
 ·rename_i hl;rw[if_pos hl]at h;exact ZlY r h2 h
 ·rename_i hl;rw[if_neg hl]at h;exact Zm5 r h2 h
theorem Zem{M M':List Int}(h:Sub M M'):M'=M∨(2≤M.length∧(Sub (lo M) M'∨Sub (up M) M')):=by
 induction h with
 | top=>exact .inl rfl
 | lo h h2 ih =>
  rcases ih with rfl|⟨g,ih⟩
  ·exact .inr ⟨h2,.inl .top⟩
  ·exact .inr ⟨g,ih.imp (fun z=>z.lo h2) (fun z=>z.lo h2)⟩
 | up h h2 ih =>
  rcases ih with rfl|⟨g,ih⟩
  ·exact .inr ⟨h2,.inr .top⟩
  ·exact .inr ⟨g,ih.imp (fun z=>z.up h2) (fun z=>z.up h2)⟩
theorem Zl3{M M':List Int}(n:Int)(h:Sub M M'):M'=M∨(2≤M.length∧(Sub (Zab M n) M'∨Sub (Zap M n) M')):=by
 rcases Zem h with h|⟨g,h⟩
 ·exact .inl h
 ·refine .inr ⟨g,?_⟩
  unfold Zab Zap
  split
  ·exact h
  ·exact h.symm
def ZdH(hd:Hd)(s:StL)(A B:List Int)(k:Int×Int):Prop :=
 (∀a b x y,Win hd A (some a)→Win hd B (some b)→hd a=some x→hd b=some y→∃t lz,ZO s k=some (some (t,lz,((lcp x y:Nat):Int)))∧((Btr x a y b∧lz=b)∨(Btr y b x a∧lz=a))) ∧
 ((Win hd A none∨Win hd B none)→ZO s k=none∨ZO s k=some none)
theorem ZdH.swap{hd:Hd}{s:StL}{A B:List Int}{k:Int×Int}(h:ZdH hd s A B k):ZdH hd s B A k:=by
 refine⟨fun a b x y wa wb hx hy=>?_,fun hw=>h.2 hw.symm⟩
 obtain⟨t,lz,e,o⟩:=h.1 b a y x wb wa hy hx
 exact⟨t,lz,by rw[ZbY x y];exact e,o.symm⟩
def Z4(hd:Hd)(s:StL)(N:List Int):Prop:=∀M,Sub N M→2≤M.length→ZdH hd s (lo M) (up M) (ZJ M)
theorem Z4.sub{hd:Hd}{s:StL}{N M:List Int}(h:Z4 hd s N)(k:Sub N M):Z4 hd s M:=fun M' h' h2=>h M' (k.trans h') h2
theorem Z4.at_side{hd:Hd}{s:StL}{M:List Int}(h:Z4 hd s M)(h2:2≤M.length)(n:Int):ZdH hd s (Zab M n) (Zap M n) (ZJ M):=by
 have:=h M .top h2
 unfold Zab Zap
 split
 ·exact this
 ·exact this.swap
theorem Zfv:∀ (n:Nat) (hd:Hd) (s:StL) (N:List Int),Zae N→N.length≤2 ^ (n-1)→0<n→Zen hd s n N→Z4 hd s N
 | 0,_,_,_,_,_,h,_=>absurd h (by omega)
 | n+1,hd,s,N,r,hl,_,h=>fun M hM h2=>by
  rw[Qav]at hl
  rcases Zem hM with rfl|⟨g,hM⟩
  ·obtain⟨_,_,c1,c2⟩:=h h2
   refine⟨fun a b x y wa wb hx hy=>?_,c2⟩
   obtain⟨t,e⟩:=c1 a b x y wa wb hx hy
   have hab:=ZE r wa.1 wb.1
   by_cases hb:ZG x y<0∨(ZG x y=0∧a<b)
   ·rw[if_pos hb]at e;exact⟨t,b,e,.inl ⟨hb,rfl⟩⟩
   ·rw[if_neg hb]at e;exact⟨t,a,e,.inr ⟨(Btr.total (show a≠b by omega)).resolve_left hb,rfl⟩⟩
  ·obtain⟨h1,h3,_⟩:=h g
   have hn:1≤n:=by
    cases n with
    | zero=>simp at hl;omega
    | succ m=>omega
   have hp:2 ^ n=2*2 ^ (n-1):=by
    obtain⟨m,rfl⟩:∃m,n=m+1:=⟨n-1,by omega⟩
    rw[Nat.pow_succ,Qav];omega
   rcases hM with hM|hM
   ·exact Zfv n hd s (lo N) (Zdv r) (by unfold lo mid;rw[Qy];omega) hn h1 M hM h2
   ·exact Zfv n hd s (up N) (Zdu r) (by unfold up mid;rw[QP];omega) hn h3 M hM h2
theorem ZdH.congr{hd hd':Hd}{s s':StL}{A B:List Int}{k:Int×Int}(h:ZdH hd s A B k)(ha:∀m∈A,hd' m=hd m)(hb:∀m∈B,hd' m=hd m)(hk:ZO s' k=ZO s k):ZdH hd' s' A B k:=by
 refine⟨fun a b x y wa wb hx hy=>?_,fun hw=>?_⟩
 ·rw[hk]
  exact h.1 a b x y (wa.congr fun m hm=>(ha m hm).symm) (wb.congr fun m hm=>(hb m hm).symm) (by rw[← ha a wa.1];exact hx) (by rw[← hb b wb.1];exact hy)
 ·rw[hk]
  exact h.2 (hw.imp (fun w=>w.congr fun m hm=>(ha m hm).symm) (fun w=>w.congr fun m hm=>(hb m hm).symm))
theorem Z4.congr{hd hd':Hd}{s s':StL}{M:List Int}(h:Z4 hd s M)(hh:∀m∈M,hd' m=hd m)(hk:∀k,Kys M k→ZO s' k=ZO s k):Z4 hd' s' M:=fun M' hM h2 =>
 (h M' hM h2).congr (fun m hm=>hh m (hM.mem (Qaz hm))) (fun m hm=>hh m (hM.mem (QaA hm))) (hk _ ⟨M',hM,h2,rfl⟩)
theorem Zlm{hd:Hd}{s:StL}{M:List Int}{n:Int}(h1:Z4 hd s (Zab M n))(h3:Z4 hd s (Zap M n))(h:ZdH hd s (Zab M n) (Zap M n) (ZJ M)):Z4 hd s M:=fun M' hM h2=>by
 rcases Zl3 n hM with rfl|⟨g,hM|hM⟩
 ·unfold Zab Zap at h
  split at h
  ·exact h
  ·exact h.swap
 ·exact h1 M' hM h2
 ·exact h3 M' hM h2
def low(n:Int)(C:List (List Int)):Nat→List Int
 | 0=>[n]
 | i+1=>C.getD i []
theorem Zfb:∀ (k:Nat) (M:List Int) (n:Int),n∈M→M.length≤2 ^ k→(∀i X,(ZR k M n)[i]? = some X→Sub M X∧2≤X.length∧n∈X∧Zab X n=low n (ZR k M n) i)∧low n (ZR k M n) (ZR k M n).length=M∧(ZR k M n).length≤k
 | 0,M,n,hn,hl=>by
  refine⟨fun i X h=>by unfold ZR at h;simp at h,?_,Qf _⟩
  have h1:M.length=1:=by
   have:=Q6 hn
   simp at hl;omega
  obtain⟨x,rfl⟩:=QaS.mp h1
  have:n=x:=by simpa using hn
  rw[this];rfl
 | k+1,M,n,hn,hl=>by
  unfold ZR
  by_cases h2:2≤M.length
  ·rw[if_pos h2]
   have hs:(Zab M n).length≤2 ^ k:=by
    rw[Nat.pow_succ]at hl
    unfold Zab
    split
    ·unfold lo mid;rw[Qy];omega
    ·unfold up mid;rw[QP];omega
   obtain⟨a,b,c⟩:=Zfb k (Zab M n) n (Zdk hn) hs
   refine⟨fun i X h=>?_,?_,by rw[Qg,Ql];omega⟩
   ·have lw:∀j,j≤(ZR k (Zab M n) n).length→low n (ZR k (Zab M n) n++[M]) j=low n (ZR k (Zab M n) n) j:=fun j hj=>by
     cases j with
     | zero=>rfl
     | succ j =>
      show (ZR k (Zab M n) n++[M]).getD j []=(ZR k (Zab M n) n).getD j []
      rw[Qo,Qo,QW (by omega)]
    by_cases hi:i<(ZR k (Zab M n) n).length
    ·rw[QW hi]at h
     obtain⟨g1,g2,g3,g4⟩:=a i X h
     exact⟨(ZhK h2 n).trans g1,g2,g3,by rw[lw i (by omega)];exact g4⟩
    ·have hi':i=(ZR k (Zab M n) n).length:=by
      have:=(Qd.mp h).1
      rw[Qg,Ql]at this
      omega
     subst hi'
     rw[QY (Qf _),Nat.sub_self]at h
     cases h
     exact⟨.top,h2,hn,by rw[lw _ (Qf _),b]⟩
   ·rw[Qg,Ql]
    show (ZR k (Zab M n) n++[M]).getD _ []=M
    rw[Qo,QY (Qf _),Nat.sub_self];rfl
  ·rw[if_neg h2]
   refine⟨fun i X h=>by simp at h,?_,Qq _⟩
   have h1:M.length=1:=by have:=Q6 hn;omega
   obtain⟨x,rfl⟩:=QaS.mp h1
   have:n=x:=by simpa using hn
   rw[this];rfl
structure Tk (hd hd':Hd) (N:List Int) (n:Int) (z:List Nat):Prop where
 win:Win hd N (some n)
 key:hd n=some z
 oth:∀b,b≠n→hd' b=hd b
 nxt:∀x,hd' n=some x→ZG z x≤0
 up:Zae N
theorem Tk.ge{hd hd':Hd}{N:List Int}{n:Int}{z:List Nat}(h:Tk hd hd' N n z){b:Int}(hb:b∈N){y:List Nat}(hy:hd' b=some y):ZG z y≤0:=by
 by_cases e:b=n
 ·exact h.nxt y (by rw[← e];exact hy)
 ·obtain⟨_,x,hx,hw⟩:=h.win
  rw[h.key]at hx
  cases hx
  rw[h.oth b e]at hy
  rcases hw b hb y hy with z|z
  ·exact absurd z e
  ·rcases z with z|z<;>omega
inductive Ag (hd:Hd) (z:List Nat):List (List Int×List Int)→Int→Int→Prop
 | nil:Ag hd z [] 0 0
 | no {C:List (List Int×List Int)} {A B:List Int} {k q:Int}:Ag hd z C k q→(Win hd A none∨Win hd B none)→Ag hd z (C++[(A,B)]) k q
 | eq {C:List (List Int×List Int)} {A B:List Int} {k q:Int} {a b:Int} {x y:List Nat}:Ag hd z C k q→Win hd A (some a)→Win hd B (some b)→hd a=some x→hd b=some y→lcp x z=lcp y z→Ag hd z (C++[(A,B)]) (k+1) (q+((lcp x y:Nat)-(lcp x z:Nat)+1))
 | ne {C:List (List Int×List Int)} {A B:List Int} {k q:Int} {a b:Int} {x y:List Nat}:Ag hd z C k q→Win hd A (some a)→Win hd B (some b)→hd a=some x→hd b=some y→lcp x z≠lcp y z→Ag hd z (C++[(A,B)]) (k+1) q
theorem ZjR:∀ (x z y:List Nat),lcp z y<lcp x z→ZG x y=ZG z y
 | [],z,y,h=>by rw[lcp_nil']at h;omega
 | _::_,[],y,h=>by rw[Zdr]at h;omega
 | a::x,b::z,[],h=>by unfold ZG;rfl
 | a::x,b::z,c::y,h=>by
  unfold lcp at h
  by_cases e:a=b
  ·subst e
   rw[if_pos rfl]at h
   by_cases e2:a=c
   ·subst e2
    rw[if_pos rfl]at h
    unfold ZG
    rw[if_pos rfl,if_pos rfl]
    exact ZjR x z y (by omega)
   ·unfold ZG
    rw[if_neg e2,if_neg e2]
  ·rw[if_neg e]at h;omega
theorem ZnH{x z y:List Nat}(h:lcp z y<lcp x z):lcp x y=lcp z y:=by
 have:=ZeC x y z
 rw[ZbY y z]at this
 omega
theorem Zqj{x z y:List Nat}(h:lcp x z=lcp y z):lcp x z≤lcp x y:=by
 have:=ZeC x y z
 omega
theorem ZhT{x z y:List Nat}{a b:Int}(h:lcp y z<lcp x z)(hz:ZG z y≤0):Btr x a y b∧lcp x y=lcp y z:=by
 rw[ZbY y z]at h ⊢
 refine⟨.inl ?_,ZnH h⟩
 rw[ZjR x z y h]
 rcases Int.lt_or_eq_of_le hz with g|g
 ·exact g
 ·have e:=Zek _ _ g
  subst e
  rw[Ziz]at h
  have:=(ZfK x z).2
  omega
abbrev Com:=Option (Int×Int)
def ZhO(hd:Hd)(z:List Nat)(M:List Int)(c:Com):Prop:=Win hd M (c.map (·.1))∧∀p,c=some p→∃x,hd p.1=some x∧p.2=((lcp x z:Nat):Int)
theorem Zmw{hd hd':Hd}{N M:List Int}{n:Int}{z:List Nat}{s:StL}(T:Tk hd hd' N n z)(hM:Sub N M)(h2:2≤M.length)(hn:n∈M)(ok:Z4 hd s N) :
  (Win hd' (Zap M n) none∧(ZO s (ZJ M)=none∨ZO s (ZJ M)=some none))∨∃t b y,Win hd' (Zap M n) (some b)∧hd' b=some y∧b∈N∧ZO s (ZJ M)=some (some (t,b,((lcp y z:Nat):Int))):=by
 have r:=hM.rise T.up
 have nd:=Zdm r
 have hno:=Zfm r (Zdk hn)
 have nS:=(ok.sub hM).at_side h2 n
 have hoN:∀b∈Zap M n,b∈M:=fun b hb=>(ZeF M n).mem_iff.mp (Qz _ hb)
 have hsN:∀b∈Zab M n,b∈M:=fun b hb=>(ZeF M n).mem_iff.mp (QD _ hb)
 have wS:Win hd (Zab M n) (some n):=by
  obtain⟨_,x,hx,hw⟩:=T.win
  exact⟨Zdk hn,x,hx,fun b hb y hy=>hw b (hM.mem (hsN b hb)) y hy⟩
 have cO:∀m∈Zap M n,hd' m=hd m:=fun m hm=>T.oth m fun e=>hno (e ▸ hm)
 have ndO:(Zap M n).Nodup:=by unfold Zap;split;exact Zdm (Zdu r);exact Zdm (Zdv r)
 obtain⟨w,hw⟩:=Win.ex hd (Zap M n) ndO
 cases w with
 | none=>exact .inl ⟨hw.congr cO,nS.2 (.inr hw)⟩
 | some b =>
  obtain⟨y,hy⟩:∃y,hd b=some y:=by obtain⟨_,y,hy,_⟩:=hw;exact⟨y,hy⟩
  obtain⟨t,lz,e,o⟩:=nS.1 n b z y wS hw T.key hy
  have hbM:=hoN b hw.1
  have hbn:b≠n:=fun z=>hno (z ▸ hw.1)
  have hB:Btr z n y b:=by
   obtain⟨_,x,hx,hww⟩:=T.win
   rw[T.key]at hx;cases hx
   exact(hww b (hM.mem hbM) y hy).resolve_left hbn
  have el:lz=b:=by
   rcases o with⟨_,e⟩|⟨e,_⟩
   ·exact e
   ·exact(hB.asym e).elim
  subst el
  exact .inr ⟨t,lz,y,hw.congr cO,by rw[cO lz hw.1];exact hy,hM.mem hbM,by rw[ZbY y z];exact e⟩
theorem ZjZ(ns:List Int):(ZdB ns).length=(ns.length+1) / 2:=by unfold ZdB mid;rw[Qy];omega
theorem ZjT(ns:List Int):(Zf2 ns).length=ns.length / 2:=by unfold Zf2 mid;rw[QP];omega
def Zf9:Nat→List Int→Int→List (List Int)
 | 0,_,_=>[]
 | f+1,ns,n=>if ns.length≤1 then [] else if n∈ZdB ns then Zf2 ns::Zf9 f (ZdB ns) n else ZdB ns::Zf9 f (Zf2 ns) n
def ZbL(ns:List Int)(n:Int):List Int:=if n∈ZdB ns then ZdB ns else Zf2 ns
def ZcK(ns:List Int)(n:Int):List Int:=if n∈ZdB ns then Zf2 ns else ZdB ns
theorem Zej{ns:List Int}{n:Int}(h:1<ns.length):(ZbL ns n).length<ns.length:=by
 unfold ZbL
 split
 ·rw[ZjZ];omega
 ·rw[ZjT];omega
theorem ZmW{ns:List Int}{n:Int}(h:1<ns.length):0<(ZbL ns n).length:=by
 unfold ZbL
 split
 ·rw[ZjZ];omega
 ·rw[ZjT];omega
theorem ZeK{f:Nat}{ns:List Int}{n:Int}(h:1<ns.length):Zf9 (f+1) ns n=ZcK ns n::Zf9 f (ZbL ns n) n:=by
 conv=>lhs;unfold Zf9
 rw[if_neg (by omega)]
 unfold ZcK ZbL
 split<;>rfl
theorem ZbX{f:Nat}{ns:List Int}{n:Int}(h:ns.length≤1):Zf9 f ns n=[]:=by
 cases f with
 | zero=>rfl
 | succ f=>unfold Zf9;rw[if_pos h]
theorem ZgI:∀ (f g:Nat) (ns:List Int) (n:Int),ns.length≤f+1→ns.length≤g+1→Zf9 f ns n=Zf9 g ns n
 | 0,g,ns,n,h,_=>by rw[ZbX (by omega),ZbX (by omega)]
 | f+1,0,ns,n,_,h=>by rw[ZbX (by omega),ZbX (by omega)]
 | f+1,g+1,ns,n,h1,h2=>by
  by_cases h:1<ns.length
  ·have:=Zej (n:=n) h
   rw[ZeK h,ZeK h,ZgI f g _ n (by omega) (by omega)]
  ·rw[ZbX (by omega),ZbX (by omega)]
def way(ns:List Int)(n:Int):List (List Int):=Zf9 ns.length ns n
theorem ZiJ{ns:List Int}{n:Int}(h:1<ns.length):way ns n=ZcK ns n::way (ZbL ns n) n:=by
 unfold way
 cases e:ns.length with
 | zero=>omega
 | succ f =>
  have:=Zej (n:=n) h
  rw[ZeK h,ZgI f (ZbL ns n).length _ n (by omega) (by omega)]
theorem Zg6{ns:List Int}{n:Int}(h:ns.length≤1):way ns n=[]:=ZbX h
theorem Zjt(n:Int):∀ns:List Int,inV (.int n) (ns.map V.int)=decide (n∈ns)
 | []=>rfl
 | m::r=>by
  have ih:=Zjt n r
  unfold inV at ih ⊢
  rw[Qh,QaG,ih]
  by_cases h:m=n
  ·subst h;simp[eqV]
  ·have:(m == n)=false:=by simpa using h
   simp[eqV,this,List.mem_cons,Ne.symm h]
theorem Zgm:∀ns:List Int,(ns.map V.int).all Zed=true
 | []=>rfl
 | _::r=>by rw[Qh,List.all_cons,Zgm r];rfl
def Rd(H:Hp):List Addr→List (List Int)→Prop
 | [],[]=>True
 | l::ls,d::ds=>H l=some (.lst (d.map V.int))∧Rd H ls ds
 | _,_=>False
theorem Rd.len{H:Hp}:∀ {ls:List Addr} {ds:List (List Int)},Rd H ls ds→ls.length=ds.length
 | [],[],_=>rfl
 | [],_::_,h=>h.elim
 | _::_,[],h=>h.elim
 | _::ls,_::ds,h=>by rw[QE,QE,Rd.len h.2]
theorem Rd.mono{H H':Hp}:∀ {ls:List Addr} {ds:List (List Int)},(∀l∈ls,∀o,H l=some o→H' l=some o)→Rd H ls ds→Rd H' ls ds
 | [],[],_,_=>trivial
 | [],_::_,_,h=>h.elim
 | _::_,[],_,h=>h.elim
 | l::ls,_::ds,k,h=>⟨k l (by simp) _ h.1,Rd.mono (fun x hx=>k x (Qs _ hx)) h.2⟩
theorem Rd.app{H:Hp}:∀ {ls:List Addr} {ds:List (List Int)} {ms:List Addr} {es:List (List Int)},Rd H ls ds→Rd H ms es→Rd H (ls++ms) (ds++es)
 | [],[],_,_,_,h=>h
 | [],_::_,_,_,h,_=>h.elim
 | _::_,[],_,_,h,_=>h.elim
 | _::ls,_::ds,_,_,h,g=>⟨h.1,Rd.app h.2 g⟩
theorem Rd.rev{H:Hp}:∀ {ls:List Addr} {ds:List (List Int)},Rd H ls ds→Rd H ls.reverse ds.reverse
 | [],[],h=>h
 | [],_::_,h=>h.elim
 | _::_,[],h=>h.elim
 | l::ls,d::ds,h=>by
  rw[Qaw,Qaw]
  exact Rd.app (Rd.rev h.2) ⟨h.1,trivial⟩
theorem Rd.at{H:Hp}:∀ {ls:List Addr} {ds:List (List Int)} {i:Nat} {l:Addr},Rd H ls ds→ls[i]? = some l→∃d,ds[i]? = some d∧H l=some (.lst (d.map V.int))
 | [],_,i,l,_,h=>by simp at h
 | _::_,[],_,_,h,_=>h.elim
 | l::ls,d::ds,0,x,h,e=>⟨d,rfl,by simp at e;subst e;exact h.1⟩
 | l::ls,d::ds,i+1,x,h,e=>by simpa using Rd.at (i:=i) h.2 (by simpa using e)
def Zne:Sp:=fun vs H Q _=>∃ (a:Addr) (ns:List Int) (n:Int),vs=[.ref a,.int n]∧H a=some (.lst (ns.map V.int))∧1≤ns.length∧ns.length≤100 ∧
 ∀ (r:Addr) (ls:List Addr) (H':Hp),H r=none→H' r=some (.lst (ls.map V.ref))→r ∉ ls→(∀l∈ls,H l=none)→Rd H' ls (way ns n).reverse→Zw H H'→Q (.ref r) H'
def Dn(H:Hp)(a o:Addr)(ns:List Int)(n:Int)(b:Addr)(cur:List Int)(ls:List Addr)(H2:Hp):Prop :=
 ∃done:List (List Int),H2 b=some (.lst (cur.map V.int))∧b≠o∧1≤cur.length∧cur.length≤100∧way ns n=done++way cur n∧Rd H2 ls done∧H2 o=some (.lst (ls.map V.ref))∧Zw H H2∧(∀l∈ls,H l=none)∧o ∉ ls∧ls.length+cur.length≤100
theorem Dn.step{H:Hp}{a o:Addr}{ns:List Int}{n:Int}{b:Addr}{cur:List Int}{ls:List Addr}{H2 H3:Hp}(D:Dn H a o ns n b cur ls H2)(hO:H o=none)(h1:1<cur.length)(s:Zw H2 H3){x y:Addr}(hx:H3 x=some (.lst ((ZbL cur n).map V.int)))(hy:H3 y=some (.lst ((ZcK cur n).map V.int)))(nx:H2 x=none)(ny:H2 y=none) :
  Dn H a o ns n x (ZbL cur n) (ls++[y]) (upd H3 o (.lst (ls.map V.ref++[.ref y]))):=by
 obtain⟨done,d1,d2,d3,d4,d5,d6,d7,d8,d9,d10,d11⟩:=D
 have xo:x≠o:=(Zb d7 nx).symm
 have yo:y≠o:=(Zb d7 ny).symm
 have sl:=Zej (n:=n) h1
 have k:∀l,l≠o→∀u,H3 l=some u→(upd H3 o (.lst (ls.map V.ref++[.ref y]))) l=some u:=fun l hl u hu=>by rw[Zd hl];exact hu
 refine⟨done++[ZcK cur n],k x xo _ hx,xo,ZmW h1,by omega,by rw[d5,ZiJ h1,Qax];rfl,?_,?_,fun c u hu=>?_,?_,?_,?_⟩
 ·refine Rd.app (Rd.mono (fun l hl u hu=>k l (fun e=>d10 (e ▸ hl)) u (s _ _ hu)) d6) ⟨k y yo _ hy,trivial⟩
 ·rw[Zc,Qe];rfl
 ·rw[Zd (Zb hu hO)];exact s _ _ (d8 _ _ hu)
 ·intro l hl
  rcases Qk.mp hl with hl|hl
  ·exact d9 l hl
  ·rw[Qi.mp hl];exact d8.free ny
 ·intro hm
  rcases Qk.mp hm with hl|hl
  ·exact d10 hl
  ·exact yo (Qi.mp hl).symm
 ·rw[Qg,Ql];omega
theorem Zp0(T:Zau K mg cRow cMerge)(f_halves:Df P w K mg base 1 "halves" ["numbers"] (ZdZ K true)):Df P w K mg base 2 "way_up" ["numbers", "n"] Zne:=by
 refine T.t_way_up.df Zbq (fun vs H Q E h=>?_) (fun cdv f A outer s H vs Q E hr h=>?_)
 ·obtain⟨a,ns,n,rfl,_⟩:=h
  rfl
 obtain⟨a,ns,n,rfl,hA,h1,h100,q⟩:=h
 refine⟨_,#[Zf,#[Zu,2,Zbq.nd,(Or.inl rfl),#[Zah,#[Ze]]],#[Zf,#[Zu,3,Zbq.nd,(Or.inl rfl),‹0›],#[Zf,(@Zcu _ _ _ _ _ _ PassesOwn.never #[Zo,ZfW,#[Zk,(Zbn K),(by rfl),T.b.n_len,Qx,#[Za,‹3›,#[Ze]]],#[Zi],(Zt _)] #[Zf,#[Zbs,#[Zz,f_halves,hr,#[Za,‹3›,#[Ze]],(by rfl)],#[gT,K,2,#[Zy,#[ZN,4,Zbq.nd],#[Zy,#[ZN,5,Zbq.nd],(@ZaY _)]]]],#[Zj,#[Zag,#[Zo,(inQ K),‹1›,‹4›,(by with_unfolding_all rfl)],#[Zf,#[Zam,#[ZbK,QA,QI,QJ,Zaj,‹2›,#[Za,‹5›,#[Ze]]]],#[Zj,#[Zu,3,Zbq.nd,(Or.inl rfl),‹4›]]],#[Zf,#[Zam,#[ZbK,QA,QI,QJ,Zaj,‹2›,#[Za,‹4›,#[Ze]]]],#[Zj,#[Zu,3,Zbq.nd,(Or.inl rfl),‹5›]]]]]]),#[Zf,#[Zam,(@Zns _ _ _ _ _ _ _ _ _ QA PySem.F.slot_list_reverse PySem.F.type_list_reverse Zfe ‹2› (by rfl) (by rfl))],#[Zj,#[Zp,‹2›]]]]]],?_⟩
 refine⟨(by show 0≤sizeLine;decide),fun o hO=>?_⟩
 have nao:a≠o:=Zb hA hO
 refine⟨_,rfl,?_⟩
 refine⟨fun m σ H2=>∃ (b:Addr) (cur:List Int) (ls:List Addr) (v4 v5:Option V),σ=[some (.ref a),some (.int n),some (.ref o),some (.ref b),v4,v5]∧Dn H a o ns n b cur ls H2∧m=cur.length,⟨_,a,ns,[],none,none,rfl,⟨[],?_,nao,h1,h100,rfl,trivial,Zc,Zh hO _,(fun l hl=>by cases hl),(fun hm=>by cases hm),by simpa using h100⟩,rfl⟩,?_⟩
 ·rw[Zd nao];exact hA
 rintro m σ H2 ⟨b,cur,ls,v4,v5,rfl,D,rfl⟩
 obtain⟨done,d1,d2,d3,d4,d5,d6,d7,d8,d9,d10,d11⟩:=id D
 have hlc:(((cur.map V.int).length:Nat):Int)=(cur.length:Int):=by rw[Qb]
 refine⟨_,rfl,b,_,rfl,.inl (SqL.of d1),_,_,rfl,rfl,_,rfl,?_⟩
 refine Za9 (fun c1=>?_) (fun c1=>?_)
 ·have c1':(1:Int)<(((cur.map V.int).length:Nat):Int):=of_decide_eq_true c1
  have hc:1<cur.length:=by omega
  refine⟨_,fun σ' H' h=>h,?_⟩
  refine⟨_,rfl,b,cur,rfl,SqL.of d1,d4,fun t x y H3 ht hx hy nxy et ex ey s3 ntx nty=>?_⟩
  refine⟨t,_,rfl,SqT.of et,rfl,_,_,rfl,_,_,rfl,rfl,?_⟩
  have ho3:=s3 _ _ d7
  have hlt:(ls.map V.ref).length<sizeLine:=by rw[Qb];exact ZH (by omega)
  have sl:=Zej (n:=n) hc
  refine⟨_,rfl,_,rfl,x,_,rfl,.inl (SqL.of ex),rfl,Zgm _,_,rfl,?_⟩
  show if inV (V.int n) ((ZdB cur).map V.int)=true then _ else _
  rw[Zjt]
  refine Za9 (fun c2=>?_) (fun c2=>?_)
  ·have c2':n∈ZdB cur:=of_decide_eq_true c2
   have e1:ZbL cur n=ZdB cur:=by unfold ZbL;rw[if_pos c2']
   have e2:ZcK cur n=Zf2 cur:=by unfold ZcK;rw[if_pos c2']
   refine⟨_,rfl,.inl ⟨rfl,_,SqL.of ho3⟩,_,rfl,o,_,_,rfl,rfl,ho3,hlt,_,rfl,_,?_,x,ZbL cur n,ls++[y],_,_,rfl,D.step hO hc s3 (by rw[e1];exact ex) (by rw[e2];exact ey) hx hy,rfl⟩
   exact sl
  ·have c2':¬ n∈ZdB cur:=fun z=>c2 (decide_eq_true z)
   have e1:ZbL cur n=Zf2 cur:=by unfold ZbL;rw[if_neg c2']
   have e2:ZcK cur n=ZdB cur:=by unfold ZcK;rw[if_neg c2']
   refine⟨_,rfl,.inl ⟨rfl,_,SqL.of ho3⟩,_,rfl,o,_,_,rfl,rfl,ho3,hlt,_,rfl,_,?_,y,ZbL cur n,ls++[x],_,_,rfl,D.step hO hc s3 (by rw[e1];exact ey) (by rw[e2];exact ex) hy hx,rfl⟩
   exact sl
 ·have c1':¬ (1:Int)<(((cur.map V.int).length:Nat):Int):=fun z=>c1 (decide_eq_true z)
  have e:way ns n=done:=by rw[d5,Zg6 (by omega),Qag]
  refine⟨_,rfl,.inl ⟨rfl,_,SqL.of d7⟩,o,_,rfl,rfl,d7,?_⟩
  refine⟨_,rfl,q o ls.reverse _ hO (by rw[Zc,List.map_reverse]) (fun hm=>d10 (QaY.mp hm)) (fun l hl=>d9 l (QaY.mp hl)) ?_ fun c u hu=>?_⟩
  ·rw[e]
   refine Rd.mono (fun l hl u hu=>?_) d6.rev
   rw[Zd (fun z=>by subst z;exact d10 (QaY.mp hl))]
   exact hu
  ·rw[Zd (Zb hu hO)];exact d8 _ _ hu
theorem ZgB:∀ (k:Nat) (M:List Int) (n:Int),M.length≤2 ^ k→(way M n).reverse=(ZR k M n).map (fun X=>Zap X n)
 | 0,M,n,h=>by
  rw[Zg6 (by simpa using h)];rfl
 | k+1,M,n,h=>by
  unfold ZR
  by_cases h2:2≤M.length
  ·rw[if_pos h2,ZiJ (by omega),Qaw,Qe]
   have hs:(Zab M n).length≤2 ^ k:=by
    rw[Nat.pow_succ]at h
    unfold Zab
    split
    ·unfold lo mid;rw[Qy];omega
    ·unfold up mid;rw[QP];omega
   have e:=ZgB k (Zab M n) n hs
   rw[← e];rfl
  ·rw[if_neg h2,Zg6 (by omega)];rfl
theorem Zma{M:List Int}(h:2≤M.length)(n:Int):Zap M n≠[]:=by
 unfold Zap
 split
 ·exact Z6 (ZdK h).2
 ·exact Z6 (ZcY h).2
theorem ZiR{M:List Int}(r:Zae M)(h:2≤M.length)(n:Int):ZJ M=(if (Zap M n).headD 0<(Zab M n).headD 0 then (Zap M n).headD 0 else (Zab M n).headD 0,if (Zap M n).getLastD 0>(Zab M n).getLastD 0 then (Zap M n).getLastD 0 else (Zab M n).getLastD 0):=by
 have a:=Zeu h
 have b:=ZeA h
 have l1:=ZbV (Z6 (ZcY h).2)
 have l2:=ZbQ (Z6 (ZcY h).2)
 have u1:=ZbV (Z6 (ZdK h).2)
 have u2:=ZbQ (Z6 (ZdK h).2)
 have c:=ZE r l1 u1
 have d:=ZE r l2 u2
 unfold Zab Zap
 split<;>(refine Prod.ext ?_ ?_<;>dsimp only<;>first|omega|(split<;>omega))
theorem Rd.get{H:Hp}:∀ {ls:List Addr} {ds:List (List Int)},Rd H ls ds→∀ {i:Nat} {l:Addr} {d:List Int},ls[i]? = some l→ds[i]? = some d→H l=some (.lst (d.map V.int))
 | [],[],_,i,l,d,h,_=>by simp at h
 | l::ls,d::ds,⟨h1,h2⟩,0,a,b,e1,e2=>by simp at e1 e2;rw[← e1,← e2];exact h1
 | l::ls,d::ds,⟨h1,h2⟩,i+1,a,b,e1,e2=>Rd.get h2 (by simpa using e1) (by simpa using e2)
def ZgX:Sp:=fun vs H Q _=>∃ (a:Addr) (N:List Int) (n:Int),vs=[.ref a,.int n]∧H a=some (.lst (N.map V.int))∧n∈N∧N.length≤60∧Zae N ∧
 ∀ (r:Addr) (ts:List Addr) (H':Hp),H r=none→H' r=some (.lst (ts.map V.ref))→ts.length=(ZR 8 N n).length→(∀ (i:Nat) (t:Addr) (X:List Int),ts[i]? = some t→(ZR 8 N n)[i]? = some X→H' t=some (.tup [.int (ZJ X).1,.int (ZJ X).2]))→Zw H H'→Q (.ref r) H'
theorem Zi7(T:Zau K mg cRow cMerge)(f_way_up:Df P w K mg base 2 "way_up" ["numbers", "n"] Zne):Df P w K mg base 3 "matches_up" ["numbers", "n"] ZgX:=by
 refine T.t_matches_up.df ZaB (fun vs H Q E h=>?_) (fun cdv f A outer s H vs Q E hr h=>?_)
 ·obtain⟨a,N,n,rfl,_⟩:=h
  rfl
 obtain⟨a,N,n,rfl,ha,hn,h60,hup,q⟩:=h
 refine⟨_,#[Zf,#[Zu,2,ZaB.nd,(Or.inl rfl),#[Zah,#[Ze]]],#[Zf,#[Zu,3,ZaB.nd,(Or.inl rfl),‹1›],#[Zf,#[Zu,4,ZaB.nd,(Or.inl rfl),‹1›],#[Zf,#[Zcf,PassesOwn.never,#[iL,K,#[Zz,f_way_up,hr,#[Za,‹0›,#[Za,‹1›,#[Ze]]],(by rfl)]],#[ZN,5,ZaB.nd],#[Zf,#[Zu,3,ZaB.nd,(Or.inl rfl),#[Zk,(Zdx rfl),(by rfl),T.b.n_min,boot_min,#[Za,‹3›,#[Za,#[ZA,(ixL K),‹5›,#[Zi]],#[Ze]]]]],#[Zf,#[Zu,4,ZaB.nd,(Or.inl rfl),#[Zk,(Zgz rfl),(by rfl),T.b.n_max,boot_max,#[Za,‹4›,#[Za,#[ZA,(ixL K),‹5›,(@ZgD _ _ _ _ _ _ ZeG #[Zi])],#[Ze]]]]],#[Zj,#[Zam,#[ZbK,QA,QI,QJ,Zaj,‹2›,#[Za,#[Za1,#[Za,‹3›,#[Za,‹4›,#[Ze]]]],#[Ze]]]]]]]],#[Zj,#[Zp,‹2›]]]]]],?_⟩
 have hpos:=Q6 hn
 have hpw:N.length≤2 ^ 8:=QM h60 (by decide)
 obtain⟨cok,ctop,clen⟩:=Zfb 8 N n hn hpw
 refine⟨(by show 0≤sizeLine;decide),fun r hr0=>?_⟩
 have s1:=Zh hr0 (.lst [])
 have hr1:(upd H r (.lst [])) r=some (.lst []):=Zc
 generalize upd H r (.lst [])=H1 at s1 hr1 ⊢
 refine⟨_,rfl,_,rfl,_,rfl,_,rfl,a,N,n,rfl,s1 _ _ ha,hpos,by omega,fun wy ls H2 hwy hwy2 hnot hfr hrd s2=>?_⟩
 rw[ZgB 8 N n hpw]at hrd
 have hll:=hrd.len
 rw[Qb]at hll
 have s02:=s1.trans s2
 refine⟨wy,rfl,⟨_,SqL.of hwy2⟩,?_⟩
 refine Zfq (K:=K) (a:=wy) (xs:=ls.map V.ref) (fun i σ H3=>∃ (v5:Option V) (ts:List Addr),σ=[some (.ref a),some (.int n),some (.ref r),some (.int ((low n (ZR 8 N n) i).headD 0)),some (.int ((low n (ZR 8 N n) i).getLastD 0)),v5]∧i≤ls.length∧ts.length=i∧H3 r=some (.lst (ts.map V.ref))∧(∀ (j:Nat) (t:Addr) (X:List Int),ts[j]? = some t→(ZR 8 N n)[j]? = some X→H3 t=some (.tup [.int (ZJ X).1,.int (ZJ X).2]))∧(∀t∈ts,t≠r∧∃xs,H3 t=some (.tup xs))∧(∀b o,H2 b=some o→b≠r→H3 b=some o)) ⟨_,[],rfl,Qq _,rfl,s2 _ _ hr1,(fun j t X h=>by simp at h),(fun t h=>by cases h),fun b o h _=>h⟩ (fun i σ H3 _ hq=>by obtain⟨_,_,_,_,_,_,_,_,k3⟩:=hq;exact SqL.of (k3 _ _ hwy2 (fun z=>by rw[z,hr1]at hwy;cases hwy))) ?_ ?_
 ·rintro i y σ H3 hy ⟨v5,ts,rfl,hi,htl,hr3,hts,htr,k3⟩
  rw[Qj]at hy
  cases hz:ls[i]? with
  | none=>rw[hz]at hy;cases hy
  | some l =>
  rw[hz]at hy
  cases hy
  have hil:i<ls.length:=(Qd.mp hz).1
  cases hX:(ZR 8 N n)[i]? with
  | none=>rw[QaD]at hX;omega
  | some X =>
  obtain⟨x1,x2,x3,x4⟩:=cok i X hX
  have hl2:H2 l=some (.lst ((Zap X n).map V.int)):=hrd.get hz (by rw[Qj,hX];rfl)
  have nlr:l≠r:=fun z=>by rw[z]at hl2;rw[s2 _ _ hr1]at hl2;have:=hfr l (Qp hz);rw[z,hr1]at this;cases this
  have hl3:=k3 _ _ hl2 nlr
  have hne:=Zma x2 n
  have e2:=ZiR (x1.rise hup) x2 n
  rw[x4]at e2
  have e3:low n (ZR 8 N n) (i+1)=X:=by show (ZR 8 N n).getD i []=X;rw[Qo,hX];rfl
  refine⟨_,rfl,_,rfl,l,_,_,_,rfl,rfl,SqL.of hl3,ZiI hne,_,_,rfl,?_⟩
  refine⟨_,rfl,_,rfl,_,rfl,l,_,_,_,rfl,rfl,SqL.of hl3,ZhD hne,_,_,rfl,?_⟩
  refine⟨_,rfl,.inl ⟨rfl,_,SqL.of hr3⟩,_,rfl,_,rfl,(by show 2≤sizeLine;decide),fun t ht=>?_⟩
  have nrt:r≠t:=Zb hr3 ht
  refine⟨r,_,_,rfl,rfl,by rw[Zd nrt];exact hr3,(by rw[Qb];exact ZH (by omega)),?_⟩
  refine⟨some (.ref l),ts++[t],?_,hil,by rw[Qg,Ql];omega,by rw[Zc,Qe];rfl,fun j u Y hu hY=>?_,fun u hu=>?_,fun b o hb nb=>?_⟩
  ·rw[e3]
   have h1:=congrArg Prod.fst e2
   have h2:=congrArg Prod.snd e2
   simp only at h1 h2
   rw[show X.headD 0=(ZJ X).1 from rfl,show X.getLastD 0=(ZJ X).2 from rfl,h1,h2]
   rfl
  ·have htuple:∀ (u:Addr) (xs:List V),H3 u=some (.tup xs)→(upd (upd H3 t (.tup [.int (if (Zap X n).headD 0<(low n (ZR 8 N n) i).headD 0 then (Zap X n).headD 0 else (low n (ZR 8 N n) i).headD 0),.int (if (Zap X n).getLastD 0>(low n (ZR 8 N n) i).getLastD 0 then (Zap X n).getLastD 0 else (low n (ZR 8 N n) i).getLastD 0)])) r (.lst (ts.map V.ref++[.ref t]))) u=some (.tup xs):=fun u xs hu=>by
    rw[Zd (fun z=>by rw[z,hr3]at hu;cases hu),Zd (Zb hu ht)];exact hu
   by_cases hj:j<ts.length
   ·rw[QW hj]at hu
    exact htuple u _ (hts j u Y hu hY)
   ·have ej:j=ts.length:=by have:=(Qd.mp hu).1;rw[Qg,Ql]at this;omega
    subst ej
    rw[QY (Qf _),Nat.sub_self]at hu
    cases hu
    rw[htl,hX]at hY
    cases hY
    rw[Zd nrt.symm,Zc,e2]
  ·rcases Qk.mp hu with hu|hu
   ·obtain⟨g1,xs,g2⟩:=htr u hu
    exact⟨g1,xs,by rw[Zd g1,Zd (Zb g2 ht)];exact g2⟩
   ·rw[Qi.mp hu]
    exact⟨nrt.symm,_,by rw[Zd nrt.symm];exact Zc⟩
  ·have:=k3 b o hb nb
   rw[Zd nb,Zd (Zb this ht)];exact this
 ·rintro σ H3 ⟨v5,ts,rfl,_,htl,hr3,hts,_,k3⟩
  rw[Qb]at htl
  exact⟨_,rfl,q r ts H3 hr0 hr3 (by omega) hts (fun b o hb=>k3 b o (s02 b o hb) (Zb hb hr0))⟩
def CV(H:Hp)(v:V)(c:Com):Prop:=(c=none∧v=.non)∨∃ (t:Addr) (p:Int×Int),c=some p∧v=.ref t∧H t=some (.tup [.int p.1,.int p.2])
theorem CV.keep{H H':Hp}{v:V}{c:Com}(h:CV H v c)(k:∀t xs,H t=some (.tup xs)→H' t=some (.tup xs)):CV H' v c:=by
 rcases h with h|⟨t,p,h1,h2,h3⟩
 ·exact .inl h
 ·exact .inr ⟨t,p,h1,h2,k _ _ h3⟩
theorem Znq{s:StL}{k:Int×Int}{v0:Option (Addr×Int×Int)}(h:ZO s k=some v0):s.any (fun e=>decide (e.1=k))=true:=List.any_eq_true.mpr ⟨_,Zgf h,decide_eq_true rfl⟩
theorem Zes{s:StL}{k:Int×Int}{v0 v:Option (Addr×Int×Int)}(h:ZO s k=some v0):(ZcA s k v).length=s.length:=by
 unfold ZcA
 rw[if_pos (Znq h),Qb]
def AgS(hd:Hd)(z:List Nat)(A B:List Int)(k q:Int):Prop:=∀C k0 q0,Ag hd z C k0 q0→Ag hd z (C++[(A,B)]) (k0+k) (q0+q)
def Zkg(cR cM:Addr):Sp:=fun vs H Q _=>∃ (m rd sd:Addr) (L:List ZB) (s:StL) (nb li lo:Int) (best:V) (tm:Addr) (v:V) (c:Com) (z:List Nat) (M:List Int) (n:Int),vs=[.ref m,.ref tm,v]∧ZW cR cM H m rd sd L s nb li lo best∧H tm=some (.tup [.int (ZJ M).1,.int (ZJ M).2])∧CV H v c∧ZhO (hdM L) z (Zab M n) c ∧
 ((Win (hdM L) (Zap M n) none∧(ZO s (ZJ M)=none∨ZO s (ZJ M)=some none))∨∃t b y,Win (hdM L) (Zap M n) (some b)∧hdM L b=some y∧ZO s (ZJ M)=some (some (t,b,((lcp y z:Nat):Int)))) ∧
 (∀b∈M,∀y,hdM L b=some y→ZG z y≤0)∧Zae M∧(∀b∈M,b∈ZC L)∧2≤M.length∧n∈M ∧
 ∀ (v':V) (c':Com) (s':StL) (k q:Int) (H':Hp),CV H' v' c'→ZhO (hdM L) z M c'→ZdH (hdM L) s' (Zab M n) (Zap M n) (ZJ M)→(∀j,j≠ZJ M→ZO s' j=ZO s j)→AgS (hdM L) z (Zab M n) (Zap M n) k q →
  ZW cR cM H' m rd sd L s' nb (li+k) (lo+q) best→(∀b o,H b=some o→b≠m→b≠sd→H' b=some o)→Q v' H'
theorem Zmk{L:List ZB}(nd:(ZC L).Nodup){b:Int}(hb:b∈ZC L){y:List Nat}(hy:hdM L b=some y):∃e∈L,e.n=b∧∃x,e.ss[e.g]? = some x∧y=cds x:=by
 obtain⟨e,he,rfl⟩:=Zc1 hb
 rw[ZdX nd he]at hy
 cases hx:e.ss[e.g]? with
 | none=>rw[hx]at hy;cases hy
 | some x=>rw[hx]at hy;cases hy;exact⟨e,he,rfl,x,hx,rfl⟩
theorem ZlA(T:Zau K mg cRow cMerge)(f_Merge_meet:Mf P w K mg base 3 cMerge "meet" ["self", "one", "other", "far"] (Zi9 cRow cMerge)):Mf P w K mg base 4 cMerge "play_again" ["self", "meeting", "comer"] (Zkg cRow cMerge):=by
 refine T.t_Merge_play_again.mf Zaf (fun vs H Q E h=>?_) (fun cdv f A outer s H vs Q E hr h=>?_)
 ·obtain⟨m,rd,sd,L,s,nb,li,lo,best,tm,v,c,z,M,n,rfl,_⟩:=h
  rfl
 obtain⟨m,rd,sd,L,s,nb,li,lo',best,tm,v,c,z,M,n,rfl,Mg,htm,hcv,⟨wS,hcf⟩,hst,hge,hup,hin,h2,hn,q⟩:=h
 refine⟨_,#[Zf,#[Zu,3,Zaf.nd,(Or.inl rfl),(@Zqk _ _ _ _ _ _ _ _ hr #[Zaa,‹0›] ‹1› (by rfl) (by rfl) (by rfl))],#[Zf,#[Zag,#[Zo,ZcD,‹3›,#[Zay],(Zt _)],#[Zj,#[Zp,‹2›]],#[ZD]],#[Zf,#[Zag,#[Zo,ZcD,‹2›,#[Zay],(Zt _)],#[Zf,#[Zbs,#[Zay],#[ZdU,#[Zaa,‹0›],‹1›,(Zl2 hr)]],#[Zj,#[Zp,‹3›]]],#[ZD]],#[Zf,#[Zag,#[Zo,Zbj,#[ZA,(ixT K),‹2›,#[Zi]],#[ZA,(ixT K),‹3›,#[Zi]],(Zt _)],#[Zf,#[Zbs,#[ZeS,f_Merge_meet,T.cl_Merge,hr,‹0›,#[Za,#[ZA,(ixT K),‹2›,#[Zi]],#[Za,#[ZA,(ixT K),‹3›,#[Zi]],#[Za,#[ZA,(ixT K),‹2›,#[Zi]],#[Ze]]]]],#[gT,K,3,#[Zy,#[ZN,4,Zaf.nd],#[Zy,#[ZN,5,Zaf.nd],#[Zy,#[ZN,6,Zaf.nd],(@ZaY _)]]]]],#[Zf,#[Zbs,#[Za1,#[Za,‹5›,#[Za,‹6›,#[Ze]]]],#[ZdU,#[Zaa,‹0›],‹1›,(Zl2 hr)]],#[Zj,#[Zp,#[Za1,#[Za,‹4›,#[Za,#[ZA,(ixT K),‹2›,#[Zi]],#[Ze]]]]]]]],#[ZD]],#[Zf,(@Zdp _ _ _ _ _ _ _ _ _ _ ‹0› #[Zi] Zhl),#[Zf,#[Zag,#[Zo,ZfW,#[ZA,(ixT K),‹2›,#[Zi]],#[ZA,(ixT K),‹3›,#[Zi]],(Zt _)],#[Zj,#[Zp,‹2›]],#[ZD]],#[Zf,#[Zbs,‹2›,#[ZdU,#[Zaa,‹0›],‹1›,(Zl2 hr)]],#[Zj,#[Zp,‹3›]]]]]]]]],?_⟩
 obtain⟨dx,hm⟩:=Mg.ob
 have htm':H tm=some (.tup (([.inl (ZJ M).1,.inl (ZJ M).2]:List Key).map kV)):=htm
 have pm:=ZeF M n
 have dg:=ZbI.t (k:=[.inl (ZJ M).1,.inl (ZJ M).2]) Mg.stays htm'
 rw[Zia]at dg
 have sA:∀b∈Zab M n,b∈M:=fun b hb=>pm.mem_iff.mp (QD _ hb)
 have sB:∀b∈Zap M n,b∈M:=fun b hb=>pm.mem_iff.mp (Qz _ hb)
 have hno:=Zfm hup (Zdk hn)
 have dis:∀a b,a∈Zab M n→b∈Zap M n→a≠b:=fun a b ha hb e=>by
  subst e
  unfold Zab Zap at *
  split at ha
  ·rename_i hl;rw[if_pos hl]at hb;have:=ZE hup ha hb;omega
  ·rename_i hl;rw[if_neg hl]at hb;have:=ZE hup hb ha;omega
 refine⟨_,rfl,m,cMerge,dx,_,_,rfl,hm,T.cl_Merge,T.na_Merge_stays,Zcv ..,sd,rfl,.inr ⟨_,.inl Mg.stays⟩,_,rfl,_,dg,?_⟩
 rcases hst with⟨wO,hlk⟩|⟨t,b,y,wO,hy,hlk⟩
 ·have ev:((ZO s (ZJ M)).map stV).getD .non=.non:=by rcases hlk with e|e<;>rw[e]<;>rfl
  rw[ev]
  refine⟨_,rfl,rfl,_,rfl,Zef rfl ⟨_,rfl,q v c s 0 0 H hcv ⟨(Win.left wS wO).perm pm,hcf⟩ ⟨(fun a b x y _ wb _ _=>nomatch wO.one wb),fun _=>hlk⟩ (fun _ _=>rfl) (fun C k0 q0 g=>by rw[QaT,QaT];exact .no g (.inr wO)) (Mg.cast (by omega) (by omega)) (fun b o h _ _=>h)⟩⟩
 have hat:=Mg.ats _ (Zgf hlk) _ rfl
 have e1:((ZO s (ZJ M)).map stV).getD .non=.ref t:=by rw[hlk];rfl
 rw[e1]
 have hsf:=Mg.sfew
 have hsl:(kvS s).length<sizeLine:=by unfold kvS;rw[Qb];exact ZH (by omega)
 refine⟨_,rfl,rfl,_,rfl,ZcS (fun z=>nomatch z) ?_⟩
 have hbM:=sB b wO.1
 rcases hcv with⟨rfl,rfl⟩|⟨tc,p,rfl,rfl,htc⟩
 ·refine⟨_,rfl,rfl,_,rfl,Zef rfl ?_⟩
  refine⟨_,rfl,m,cMerge,dx,_,_,rfl,hm,T.cl_Merge,T.na_Merge_stays,Zcv ..,_,rfl,sd,_,rfl,ZeM.t (k:=[.inl (ZJ M).1,.inl (ZJ M).2]) Mg.stays htm' hsl,?_⟩
  rw[show V.non=stV none from rfl,Ze3]
  have hl1:(ZcA s (ZJ M) none).length≤100:=by rw[Zes hlk];exact hsf
  have M2:=Mg.put (k:=ZJ M) (v:=none) (fun t ht=>by cases ht) hl1
  have wS':Win (hdM L) (Zab M n) none:=wS
  refine⟨_,rfl,q (.ref t) (some (b,((lcp y z:Nat):Int))) _ 0 0 _ (.inr ⟨t,_,rfl,rfl,?_⟩) ⟨(Win.right wS' wO).perm pm,fun p hp=>?_⟩ ⟨(fun a b x y wa _ _ _=>nomatch wS'.one wa),fun _=>.inr ?_⟩ (fun j hj=>?_) (fun C k0 q0 g=>?_) (M2.cast (by omega) (by omega)) (fun b o hb _ n2=>by rw[Zd n2];exact hb)⟩
  ·rw[Zd (fun z=>by rw[z,Mg.stays]at hat;cases hat)];exact hat
  ·cases hp;exact⟨y,hy,rfl⟩
  ·rw[ZaO,if_pos rfl]
  ·rw[ZaO,if_neg hj]
  ·rw[QaT,QaT];exact .no g (.inl wS')
 obtain⟨a,fa⟩:=p
 obtain⟨x,hx,efa⟩:=hcf _ rfl
 simp only at hx efa
 subst efa
 have wS':Win (hdM L) (Zab M n) (some a):=wS
 have haM:=sA a wS'.1
 have hab:=dis a b wS'.1 wO.1
 obtain⟨ea,hea,rfl,zx,hzx,rfl⟩:=Zmk Mg.nd (hin a haM) hx
 obtain⟨eb,heb,rfl,zy,hzy,rfl⟩:=Zmk Mg.nd (hin b hbM) hy
 have c0:atI [V.int ea.n,.int ((lcp (cds zx) z:Nat):Int)] 0=some (.int ea.n):=Z3 (j:=0) rfl
 have c1:atI [V.int ea.n,.int ((lcp (cds zx) z:Nat):Int)] 1=some (.int ((lcp (cds zx) z:Nat):Int)):=Z3 (j:=1) rfl
 have d0:atI [V.int eb.n,.int ((lcp (cds zy) z:Nat):Int)] 0=some (.int eb.n):=Z3 (j:=0) rfl
 have d1:atI [V.int eb.n,.int ((lcp (cds zy) z:Nat):Int)] 1=some (.int ((lcp (cds zy) z:Nat):Int)):=Z3 (j:=1) rfl
 refine⟨_,rfl,rfl,_,rfl,ZcS (fun z=>nomatch z) ?_⟩
 refine⟨_,rfl,tc,_,_,_,rfl,rfl,SqT.of htc,c1,_,rfl,t,_,_,_,rfl,rfl,SqT.of hat,d1,rfl,_,rfl,Za9 (fun d=>?_) (fun d=>?_)⟩
 ·have ef:lcp (cds zx) z=lcp (cds zy) z:=by have:=of_decide_eq_true d;injection this with this;omega
  have hle:=Zqj ef
  refine⟨_,rfl,m,dx,_,rfl,hm,ZfB ..,_,rfl,tc,_,_,_,rfl,rfl,SqT.of htc,c0,_,rfl,t,_,_,_,rfl,rfl,SqT.of hat,d0,_,rfl,tc,_,_,_,rfl,rfl,SqT.of htc,c1,?_⟩
  refine⟨m,rd,sd,L,s,nb,li,lo',best,ea,eb,zx,zy,lcp (cds zx) z,rfl,Mg,hea,heb,hzx,hzy,hle,fun t5 wi lz H5 hw ht5 ht5' M5 b5=>?_⟩
  refine⟨t5,_,rfl,SqT.of ht5',rfl,_,_,rfl,_,_,rfl,_,_,rfl,rfl,?_⟩
  have sz2:2≤sizeLine:=by decide
  refine⟨_,rfl,_,rfl,sz2,fun t6 ht6=>?_⟩
  have s6:=Zh ht6 (.tup [.int lz,.int ((lcp (cds zx) (cds zy):Nat):Int)])
  have ht66:(upd H5 t6 (.tup [.int lz,.int ((lcp (cds zx) (cds zy):Nat):Int)])) t6=some (.tup [.int lz,.int ((lcp (cds zx) (cds zy):Nat):Int)]):=Zc
  have M6:=M5.same s6
  generalize upd H5 t6 (.tup [.int lz,.int ((lcp (cds zx) (cds zy):Nat):Int)])=H6 at s6 ht66 M6 ⊢
  obtain⟨dx6,hm6⟩:=M6.ob
  have ntm:tm≠m:=fun z=>by rw[z,hm]at htm;cases htm
  have ntc:tc≠m:=fun z=>by rw[z,hm]at htc;cases htc
  have htm6:H6 tm=some (.tup (([.inl (ZJ M).1,.inl (ZJ M).2]:List Key).map kV)):=s6 _ _ (b5 _ _ htm' ntm)
  refine⟨_,rfl,m,cMerge,dx6,_,_,rfl,hm6,T.cl_Merge,T.na_Merge_stays,Zcv ..,_,rfl,sd,_,rfl,ZeM.t (k:=[.inl (ZJ M).1,.inl (ZJ M).2]) M6.stays htm6 hsl,?_⟩
  rw[show V.ref t6=stV (some (t6,lz,((lcp (cds zx) (cds zy):Nat):Int))) from rfl,Ze3]
  have hl1:(ZcA s (ZJ M) (some (t6,lz,((lcp (cds zx) (cds zy):Nat):Int)))).length≤100:=by rw[Zes hlk];exact hsf
  have M7:=M6.put (k:=ZJ M) (v:=some (t6,lz,((lcp (cds zx) (cds zy):Nat):Int))) (fun t ht=>by injection ht with ht;rw[← ht];exact ht66) hl1
  have b7:∀b o,H b=some o→b≠m→b≠sd→(upd H6 sd (.dT (kvS (ZcA s (ZJ M) (some (t6,lz,((lcp (cds zx) (cds zy):Nat):Int))))))) b=some o:=fun b o hb n1 n2=>by rw[Zd n2];exact s6 _ _ (b5 b o hb n1)
  have ntcs:tc≠sd:=fun z=>by rw[z,Mg.stays]at htc;cases htc
  generalize upd H6 sd (.dT (kvS (ZcA s (ZJ M) (some (t6,lz,((lcp (cds zx) (cds zy):Nat):Int))))))=H7 at M7 b7 ⊢
  refine⟨_,rfl,_,rfl,tc,_,_,_,rfl,rfl,SqT.of (b7 _ _ htc ntc ntcs),c1,sz2,fun t8 ht8=>?_⟩
  have wn:Win (hdM L) M (some wi):=by
   rcases hw with⟨w0,rfl,_⟩|⟨w0,rfl,_⟩
   ·exact(Win.both wS' wO hx hy w0).perm pm
   ·exact(Win.both' wS' wO hx hy ((Btr.total hab).resolve_left w0)).perm pm
  refine q (.ref t8) (some (wi,((lcp (cds zx) z:Nat):Int))) _ 1 ((lcp (cds zx) (cds zy):Nat)-(lcp (cds zx) z:Nat)+1) _ (.inr ⟨t8,_,rfl,rfl,Zc⟩) ⟨wn,fun p hp=>?_⟩ ⟨fun a b x' y' wa wb hxa hyb=>?_,fun hno=>?_⟩ (fun j hj=>by rw[ZaO,if_neg hj]) (fun C k0 q0 g=>.eq g wS' wO hx hy ef) ((M7.same (Zh ht8 _)).cast rfl rfl) (fun b o hb n1 n2=>Zh ht8 _ _ _ (b7 b o hb n1 n2))
  ·cases hp
   rcases hw with⟨w0,rfl,_⟩|⟨w0,rfl,_⟩
   ·exact⟨_,hx,rfl⟩
   ·exact⟨_,hy,by simp only;rw[ef]⟩
  ·have e1:=Qm (wa.one wS')
   have e2:=Qm (wb.one wO)
   subst e1
   subst e2
   have e3:=Qm (hxa.symm.trans hx)
   have e4:=Qm (hyb.symm.trans hy)
   subst e3
   subst e4
   refine⟨t6,lz,by rw[ZaO,if_pos rfl],?_⟩
   rcases hw with⟨w0,_,rfl⟩|⟨w0,_,rfl⟩
   ·exact .inl ⟨w0,rfl⟩
   ·exact .inr ⟨(Btr.total hab).resolve_left w0,rfl⟩
  ·rcases hno with z|z
   ·exact nomatch z.one wS'
   ·exact nomatch z.one wO
 have nef:lcp (cds zx) z≠lcp (cds zy) z:=fun e=>d (decide_eq_true (by rw[e]))
 refine⟨_,rfl,m,cMerge,dx,_,_,rfl,hm,T.cl_Merge,T.na_Merge_likened,ZeV ..,_,_,rfl,rfl,dx,_,hm,Zb3 ..,?_⟩
 rw[ZcT]
 have M2:=Mg.obj (nb':=nb) (li':=li+1) (lo':=lo') (best':=best) (dx:=dx)
 have k2:∀b o,H b=some o→b≠m→(upd H m (.ins cMerge dx (mgF rd nb (li+1) lo' sd best))) b=some o:=fun b o hb n=>by rw[Zd n];exact hb
 have ntc:tc≠m:=fun z=>by rw[z,hm]at htc;cases htc
 have ntt:t≠m:=fun z=>by rw[z,hm]at hat;cases hat
 have ntm:tm≠m:=fun z=>by rw[z,hm]at htm;cases htm
 generalize upd H m (.ins cMerge dx (mgF rd nb (li+1) lo' sd best))=H2 at M2 k2 ⊢
 have htc2:=k2 _ _ htc ntc
 have hat2:=k2 _ _ hat ntt
 refine⟨_,rfl,tc,_,_,_,rfl,rfl,SqT.of htc2,c1,_,rfl,t,_,_,_,rfl,rfl,SqT.of hat2,d1,_,_,rfl,rfl,_,rfl,Za9 (fun g=>?_) (fun g=>?_)⟩
 ·have hgt:lcp (cds zy) z<lcp (cds zx) z:=by have:((lcp (cds zy) z:Nat):Int)<((lcp (cds zx) z:Nat):Int):=of_decide_eq_true g;omega
  obtain⟨bt,el⟩:=ZhT (a:=ea.n) (b:=eb.n) hgt (hge _ hbM _ hy)
  refine⟨_,rfl,q (.ref tc) (some (ea.n,((lcp (cds zx) z:Nat):Int))) s 1 0 H2 (.inr ⟨tc,_,rfl,rfl,htc2⟩) ⟨(Win.both wS' wO hx hy bt).perm pm,fun p hp=>by cases hp;exact⟨_,hx,rfl⟩⟩ ⟨fun a b x' y' wa wb hxa hyb=>?_,fun hno=>?_⟩ (fun _ _=>rfl) (fun C k0 q0 g=>by rw[QaT];exact .ne g wS' wO hx hy nef) (M2.cast rfl (by omega)) (fun b o hb n1 _=>k2 b o hb n1)⟩
  ·have e1:=Qm (wa.one wS')
   have e2:=Qm (wb.one wO)
   subst e1
   subst e2
   have e3:=Qm (hxa.symm.trans hx)
   have e4:=Qm (hyb.symm.trans hy)
   subst e3
   subst e4
   exact⟨t,_,by rw[el];exact hlk,.inl ⟨bt,rfl⟩⟩
  ·rcases hno with z|z
   ·exact nomatch z.one wS'
   ·exact nomatch z.one wO
 ·have hlt:lcp (cds zx) z<lcp (cds zy) z:=by
   have:¬ ((lcp (cds zy) z:Nat):Int)<((lcp (cds zx) z:Nat):Int):=fun e=>g (decide_eq_true e)
   omega
  obtain⟨bt,el⟩:=ZhT (a:=eb.n) (b:=ea.n) hlt (hge _ haM _ hx)
  obtain⟨dx2,hm2⟩:=M2.ob
  have htm2:H2 tm=some (.tup (([.inl (ZJ M).1,.inl (ZJ M).2]:List Key).map kV)):=k2 _ _ htm' ntm
  refine⟨_,rfl,_,rfl,m,cMerge,dx2,_,_,rfl,hm2,T.cl_Merge,T.na_Merge_stays,Zcv ..,_,rfl,sd,_,rfl,ZeM.t (k:=[.inl (ZJ M).1,.inl (ZJ M).2]) M2.stays htm2 hsl,?_⟩
  rw[show V.ref tc=stV (some (tc,ea.n,((lcp (cds zx) z:Nat):Int))) from rfl,Ze3]
  have hl1:(ZcA s (ZJ M) (some (tc,ea.n,((lcp (cds zx) z:Nat):Int)))).length≤100:=by rw[Zes hlk];exact hsf
  have M3:=M2.put (k:=ZJ M) (v:=some (tc,ea.n,((lcp (cds zx) z:Nat):Int))) (fun t ht=>by injection ht with ht;rw[← ht];exact htc2) hl1
  refine⟨_,rfl,q (.ref t) (some (eb.n,((lcp (cds zy) z:Nat):Int))) _ 1 0 _ (.inr ⟨t,_,rfl,rfl,?_⟩) ⟨(Win.both' wS' wO hx hy bt).perm pm,fun p hp=>by cases hp;exact⟨_,hy,rfl⟩⟩ ⟨fun a b x' y' wa wb hxa hyb=>?_,fun hno=>?_⟩ (fun j hj=>by rw[ZaO,if_neg hj]) (fun C k0 q0 g=>by rw[QaT];exact .ne g wS' wO hx hy nef) (M3.cast rfl (by omega)) (fun b o hb n1 n2=>by rw[Zd n2];exact k2 b o hb n1)⟩
  ·rw[Zd (fun z=>by rw[z,M2.stays]at hat2;cases hat2)];exact hat2
  ·have e1:=Qm (wa.one wS')
   have e2:=Qm (wb.one wO)
   subst e1
   subst e2
   have e3:=Qm (hxa.symm.trans hx)
   have e4:=Qm (hyb.symm.trans hy)
   subst e3
   subst e4
   exact⟨tc,_,by rw[ZaO,if_pos rfl,ZbY (cds zx) (cds zy),el],.inr ⟨bt,rfl⟩⟩
  ·rcases hno with z|z
   ·exact nomatch z.one wS'
   ·exact nomatch z.one wO
def Zcw(n:Int)(e:ZB):ZB:=if e.n=n then ⟨e.n,e.p,e.k,e.f,e.ss,e.g+1⟩ else e
def bump(L:List ZB)(n:Int):List ZB:=L.map (Zcw n)
theorem ZcL(n:Int)(e:ZB):(Zcw n e).n=e.n∧(Zcw n e).p=e.p∧(Zcw n e).k=e.k∧(Zcw n e).f=e.f∧(Zcw n e).ss=e.ss:=by unfold Zcw;split<;>exact⟨rfl,rfl,rfl,rfl,rfl⟩
theorem Zd8{n:Int}{e:ZB}(h:e.n=n):Zcw n e=⟨e.n,e.p,e.k,e.f,e.ss,e.g+1⟩:=if_pos h
theorem Zfh{n:Int}{e:ZB}(h:¬ e.n=n):Zcw n e=e:=if_neg h
theorem ZbR(L:List ZB)(n:Int):ZC (bump L n)=ZC L:=by
 unfold ZC bump
 rw[QC]
 exact QS fun e _=>(ZcL n e).1
theorem Zok(L:List ZB)(n:Int):(bump L n).map (·.p)=L.map (·.p):=by
 unfold bump
 rw[QC]
 exact QS fun e _=>(ZcL n e).2.1
theorem ZmG(L:List ZB)(n:Int):kvM (bump L n)=kvM L:=by
 unfold kvM bump
 rw[QC]
 refine QS fun e _=>?_
 simp only[Function.comp]
 rw[(ZcL n e).1,(ZcL n e).2.1]
theorem Zop{m rd sd:Addr}{L:List ZB}{n:Int}{b:Addr}(h:Fp m rd sd (bump L n) b):Fp m rd sd L b:=by
 rcases h with h|h|h|⟨e',he',h⟩
 ·exact .inl h
 ·exact .inr (.inl h)
 ·exact .inr (.inr (.inl h))
 ·obtain⟨e,he,rfl⟩:=QB.mp he'
  obtain⟨_,h1,h2,h3,_⟩:=ZcL n e
  rw[h1,h2,h3]at h
  exact .inr (.inr (.inr ⟨e,he,h⟩))
theorem Fp_bump'{m rd sd:Addr}{L:List ZB}{n:Int}{b:Addr}(h:Fp m rd sd L b):Fp m rd sd (bump L n) b:=by
 rcases h with h|h|h|⟨e,he,h⟩
 ·exact .inl h
 ·exact .inr (.inl h)
 ·exact .inr (.inr (.inl h))
 ·obtain⟨_,h1,h2,h3,_⟩:=ZcL n e
  refine .inr (.inr (.inr ⟨Zcw n e,Qn he,?_⟩))
  rw[h1,h2,h3]
  exact h
theorem Zkc{n b:Int}(h:b≠n):∀L:List ZB,hdM (bump L n) b=hdM L b
 | []=>rfl
 | e::L=>by
  have ih:=Zkc h L
  unfold hdM hdL bump at ih ⊢
  rw[Qh,Qh,Qh,QaJ,QaJ]
  have e1:(toL (Zcw n e)).1=e.n:=(ZcL n e).1
  rw[e1]
  by_cases he:e.n=b
  ·rw[decide_eq_true he,decide_eq_true (show (toL e).1=b from he),Zfh (fun z=>h (he.symm.trans z))]
  ·rw[decide_eq_false he,decide_eq_false (show ¬ (toL e).1=b from he)]
   exact ih
theorem Zio{L:List ZB}(nd:(ZC L).Nodup){e:ZB}(he:e∈L):hdM (bump L e.n) e.n=(e.ss[e.g+1]?).map cds:=by
 have hm:Zcw e.n e∈bump L e.n:=Qn he
 rw[Zd8 rfl]at hm
 exact ZdX (L:=bump L e.n) (by rw[ZbR];exact nd) hm
theorem ZeJ(k f:Addr)(g:Int):Zcm k f g=([("all_keys",.ref k),("fars",.ref f),("gone",.int g)]:List (Str×V)):=by
 unfold Zcm
 rw[Zbk,Zs nFK,Zbk,Zs nGK,Zs nGF,Zbk]
theorem ZfZ(k f:Addr)(g v:Int):Zn "gone" (.int v) (Zcm k f g)=Zcm k f v:=by
 rw[ZeJ,ZeJ,Zs nGK,Zs nGF,Zc5]
theorem ZlW(k f:Addr)(g:Int):(Zcm k f g).length<1000:=by rw[ZeJ];show 3<1000;decide
theorem Zlp(k f:Addr)(g:Int):(Zcm k f g).lookup ("fars" : Str)=some (.ref f):=by
 unfold Zcm
 rw[Zl,if_neg nGF,Zl,if_pos rfl]
theorem Zq7{L:List ZB}(pd:(L.map (·.p)).Nodup){e e':ZB}(he:e∈L)(he':e'∈L)(h:e.p=e'.p):e=e':=by
 have n2:((L.map fun x=>(x.p,x)).map (·.1)).Nodup:=by rw[QC];exact pd
 have:=Zea n2 (Qn (f:=fun x:ZB=>(x.p,x)) he) (Qn (f:=fun x:ZB=>(x.p,x)) he') h
 injection this
theorem ZW.bump{cR cM:Addr}{H:Hp}{m rd sd:Addr}{L:List ZB}{s:StL}{nb li lo:Int}{best:V}(M:ZW cR cM H m rd sd L s nb li lo best){e:ZB}(he:e∈L)(hg:e.g<e.ss.length){dp:Addr} :
  ZW cR cM (upd H e.p (.ins cR dp (Zcm e.k e.f ((e.g+1:Nat):Int)))) m rd sd (My.bump L e.n) s nb li lo best:=by
 obtain⟨dm,hm⟩:=M.ob
 obtain⟨dq,hp⟩:=(M.each e he).at'.ob
 obtain⟨n1,_,_⟩:=M.ne_p he
 obtain⟨n2,_,_,n3,_,_⟩:=M.ne_sd he
 refine⟨⟨dm,by rw[Zd n1];exact hm⟩,by rw[Zd n3,ZmG];exact M.rows,by rw[Zd n2];exact M.stays,fun x hx t ht=>?_,fun e' he'=>?_,by rw[ZbR];exact M.up,by rw[Zok];exact M.pd,by unfold My.bump;rw[Qb];exact M.few,M.sfew⟩
 ·have:=M.ats x hx t ht
  rw[Zd (fun z=>by rw[z,hp]at this;cases this)];exact this
 ·obtain⟨x,hx,rfl⟩:=QB.mp he'
  have R:=M.each x hx
  have kne:∀ {y:ZB},y∈L→y.k≠e.p∧y.f≠e.p:=fun {y} hy=>by
   have Ry:=M.each y hy
   exact⟨(fun z=>by have:=Ry.at'.ks;rw[z,hp]at this;cases this),(fun z=>by have:=Ry.at'.fs;rw[z,hp]at this;cases this)⟩
  obtain⟨k1,k2⟩:=kne hx
  by_cases hn:x.n=e.n
  ·have ex:x=e:=by
    have n2:((L.map fun x=>(x.n,x)).map (·.1)).Nodup:=by rw[QC];exact M.nd
    have:=Zea n2 (Qn (f:=fun x:ZB=>(x.n,x)) hx) (Qn (f:=fun x:ZB=>(x.n,x)) he) hn
    injection this
   subst ex
   rw[Zd8 rfl]
   exact⟨⟨⟨dp,Zc⟩,by show (upd H x.p _) x.k=_;rw[Zd k1];exact R.at'.ks,by show (upd H x.p _) x.f=_;rw[Zd k2];exact R.at'.fs⟩,hg,R.len,R.srt,R.str⟩
  ·rw[Zfh hn]
   exact R.keep (Zd (fun z=>hn (by rw[Zq7 M.pd hx he z]))) (Zd k1) (Zd k2)
theorem Zrg{L:List ZB}{e:ZB}{x:Str}(nd:(ZC L).Nodup)(up:Zae (ZC L))(he:e∈L)(hx:e.ss[e.g]? = some x)(srt:sortedS e.ss=true)(W:Win (hdM L) (ZC L) (some e.n)):Tk (hdM L) (hdM (bump L e.n)) (ZC L) e.n (cds x):=by
 refine⟨W,by rw[ZdX nd he,hx];rfl,fun b hb=>Zkc hb L,fun y hy=>?_,up⟩
 rw[Zio nd he]at hy
 cases hz:e.ss[e.g+1]? with
 | none=>rw[hz]at hy;cases hy
 | some y'=>rw[hz]at hy;cases hy;exact Zgs srt e.g x y' hx hz
theorem ZpT{c:Bool}{e1 e2:VK→Prop}{Q:VK}(P:V→Hp→Prop)(h1:c=true→∀Q':VK,(∀v H,P v H→Q' v H)→e1 Q')(h2:c=false→∀Q':VK,(∀v H,P v H→Q' v H)→e2 Q')(q:∀v H,P v H→Q v H):if c=true then e1 Q else e2 Q:=by
 cases c with
 | true=>rw[if_pos rfl];exact h1 rfl Q q
 | false=>rw[if_neg (by decide)];exact h2 rfl Q q
def Zdy(n:Int)(C:List (List Int)):List (List Int×List Int):=C.map fun X=>(Zab X n,Zap X n)
theorem Ziu(rd:Addr)(nb li lo:Int)(sd:Addr)(best:V):(mgF rd nb li lo sd best).lookup ("play_again" : Str)=none:=ZcJ _ _ _ _ _ _ (by ac_rfl) (by ac_rfl) (by ac_rfl) (by ac_rfl) (by ac_rfl) (by ac_rfl)
def ZlX(cR cM:Addr):Sp:=fun vs H Q _=>∃ (m rd sd:Addr) (L:List ZB) (s:StL) (nb li lo:Int) (best:V) (e:ZB) (x:Str),vs=[.ref m,.int e.n]∧ZW cR cM H m rd sd L s nb li lo best∧e∈L∧e.ss[e.g]? = some x∧Win (hdM L) (ZC L) (some e.n)∧Z4 (hdM L) s (ZC L) ∧
 ∀ (s':StL) (w':Option Int) (k q:Int) (H':Hp),ZW cR cM H' m rd sd (bump L e.n) s' nb (li+k) (lo+q) (ZdT w')→Win (hdM (bump L e.n)) (ZC L) w'→Z4 (hdM (bump L e.n)) s' (ZC L)→Ag (hdM (bump L e.n)) (cds x) (Zdy e.n (ZR 8 (ZC L) e.n)) k q→(∀b o,H b=some o→¬ Fp m rd sd L b→H' b=some o)→Q .non H'
theorem ZnO(T:Zau K mg cRow cMerge)(f_Row_head:Mf P w K mg base 2 cRow "head" ["self"] (ZfL cRow))(f_matches_up:Df P w K mg base 3 "matches_up" ["numbers", "n"] ZgX)(f_Merge_play_again:Mf P w K mg base 4 cMerge "play_again" ["self", "meeting", "comer"] (Zkg cRow cMerge)):Mf P w K mg base 5 cMerge "send_out" ["self", "number"] (ZlX cRow cMerge):=by
 refine T.t_Merge_send_out.mf Zas (fun vs H Q E h=>?_) (fun cdv f A outer s H vs Q E hr h=>?_)
 ·obtain⟨m,rd,sd,L,s,nb,li,lo,best,e,x,rfl,_⟩:=h
  rfl
 obtain⟨m,rd,sd,L,s,nb,li,lo',best,e,x,rfl,M,he,hx,W,ok,q⟩:=h
 refine⟨_,#[Zf,#[Zu,2,Zas.nd,(Or.inl rfl),#[ZA,(ixG hr),#[Zaa,‹0›],‹1›]],#[Zf,(@Zdp _ _ _ _ _ _ _ _ _ _ ‹2› #[Zi] Zhl),#[Zf,#[Zu,3,Zas.nd,(Or.inl rfl),#[Zby,#[Zo,ZcD,#[ZcN,f_Row_head,T.cl_Row,hr,‹2›],#[Zay],(Zt _)],#[Zay],#[Za1,#[Za,‹1›,#[Za,#[ZA,(ixL K),#[Zaa,‹2›],#[Zaa,‹2›]],#[Ze]]]]]],#[Zf,#[Zcf,PassesOwn.never,#[iL,K,#[Zz,f_matches_up,hr,#[Za,#[ZQ,ZqW,(by rfl),T.b.n_list,boot_list,#[Za,#[Zaa,‹0›],#[Ze]]],#[Za,‹1›,#[Ze]]],(by rfl)]],#[ZN,4,Zas.nd],#[Zj,#[Zu,3,Zas.nd,(Or.inl rfl),#[ZeS,f_Merge_play_again,T.cl_Merge,hr,‹0›,#[Za,‹4›,#[Za,‹3›,#[Ze]]]]]]],#[Zj,#[ZbG,‹0›,#[Zby,#[Zo,ZcD,‹3›,#[Zay],(Zt _)],#[Zay],#[ZA,(ixT K),‹3›,#[Zi]]]]]]]]],?_⟩
 obtain⟨dx,hm⟩:=M.ob
 have R:=M.each e he
 obtain⟨dp,hp⟩:=R.at'.ob
 have hg:e.g<e.ss.length:=(Qd.mp hx).1
 have tk:=Zrg M.nd M.up he hx R.srt W
 refine⟨_,rfl,m,cMerge,dx,_,_,rfl,hm,T.cl_Merge,T.na_Merge_rows,ZbE ..,_,rfl,rd,_,rfl,ZbI.k' (k:=.inl e.n) M.rows (Zfw M.nd he),?_⟩
 refine⟨_,rfl,e.p,cRow,dp,_,_,rfl,hp,T.cl_Row,T.na_Row_gone,Zcn ..,_,_,rfl,rfl,dp,_,hp,ZlW ..,?_⟩
 rw[ZfZ,show ((e.g:Int)+1)=((e.g+1:Nat):Int) by omega]
 have M1:=M.bump he hg (dp:=dp)
 have hp1:(upd H e.p (.ins cRow dp (Zcm e.k e.f ((e.g+1:Nat):Int)))) e.p=some (.ins cRow dp (Zcm e.k e.f ((e.g+1:Nat):Int))):=Zc
 have k1:∀b o,H b=some o→b≠e.p→(upd H e.p (.ins cRow dp (Zcm e.k e.f ((e.g+1:Nat):Int)))) b=some o:=fun b o hb n=>by rw[Zd n];exact hb
 generalize upd H e.p (.ins cRow dp (Zcm e.k e.f ((e.g+1:Nat):Int)))=H1 at M1 hp1 k1 ⊢
 have hm':(⟨e.n,e.p,e.k,e.f,e.ss,e.g+1⟩:ZB)∈bump L e.n:=by
  have:Zcw e.n e∈bump L e.n:=Qn he
  rwa [Zd8 rfl]at this
 have R1:=M1.each _ hm'
 have keep1:∀ {H2:Hp},(∀b o,H1 b=some o→b≠m→b≠sd→H2 b=some o)→∀b o,H b=some o→¬ Fp m rd sd L b→H2 b=some o:=fun {H2} k b o hb nf =>
  k b o (k1 b o hb fun z=>nf (.inr (.inr (.inr ⟨e,he,.inl z⟩)))) (fun z=>nf (.inl z)) (fun z=>nf (.inr (.inr (.inl z))))
 have hpos:e.n∈ZC L:=W.1
 have h60:(ZC L).length≤60:=by unfold ZC;rw[Qb];exact M.few
 have hpw:(ZC L).length≤2 ^ 8:=QM h60 (by decide)
 obtain⟨cok,ctop,clen⟩:=Zfb 8 (ZC L) e.n hpos hpw
 have hgo:hdM (bump L e.n) e.n=(e.ss[e.g+1]?).map cds:=Zio M.nd he
 have hdd:∀ (c:Com),(c=none∧e.ss[e.g+1]? = none)∨(∃y,e.ss[e.g+1]? = some y∧c=some (e.n,((lcp (cds y) (cds x):Nat):Int)))→ZhO (hdM (bump L e.n)) (cds x) [e.n] c:=fun c hc=>by
  have hw:=Win.sing (hd:=hdM (bump L e.n)) (n:=e.n)
  rcases hc with⟨rfl,hn⟩|⟨y,hy,rfl⟩
  ·rw[hgo,hn]at hw
   exact⟨hw,fun p hp=>by cases hp⟩
  ·rw[hgo,hy]at hw
   exact⟨hw,fun p hp=>by cases hp;exact⟨cds y,by rw[hgo,hy];rfl,rfl⟩⟩
 refine⟨_,rfl,e.p,dp,_,rfl,hp1,ZbA ..,e.p,e.k,e.f,e.ss,e.g+1,rfl,R1.at',rfl,_,rfl,?_⟩
 rw[ZmF]
 refine ZpT (fun v H2=>Zw H1 H2∧∃c,CV H2 v c∧ZhO (hdM (bump L e.n)) (cds x) [e.n] c) (fun d Q' hq=>?_) (fun d Q' hq=>?_) (fun v H2 ⟨s2,c,hcv,hok⟩=>?_)
 ·have hn:e.ss[e.g+1]? = none:=by
   have:=of_decide_eq_true d
   cases hy:e.ss[e.g+1]? with
   | none=>rfl
   | some y=>rw[hy]at this;cases this
  exact hq _ _ ⟨Zw.refl _,none,.inl ⟨rfl,rfl⟩,hdd none (.inl ⟨rfl,hn⟩)⟩
 ·obtain⟨y,hy⟩:∃y,e.ss[e.g+1]? = some y:=by
   cases hy:e.ss[e.g+1]? with
   | none=>rw[hy]at d;exact absurd rfl (of_decide_eq_false d)
   | some y=>exact⟨y,rfl⟩
  have hyl:e.g+1<e.ss.length:=(Qd.mp hy).1
  have hal:Zci e.ss (e.g+1)=((lcp (cds y) (cds x):Nat):Int):=by
   unfold Zci
   rw[if_neg (by omega),Qav,Qo,Qo,hx,hy,ZbY]
   rfl
  have hat:atI ((List.range e.ss.length).map fun j=>V.int (Zci e.ss j)) ((e.g+1:Nat):Int)=some (.int ((lcp (cds y) (cds x):Nat):Int)):=Z3 (by rw[Qj,QaF hyl,← hal];rfl)
  refine⟨_,rfl,_,rfl,e.p,cRow,dp,_,_,rfl,hp1,T.cl_Row,T.na_Row_fars,Zlp ..,_,rfl,e.p,cRow,dp,_,_,rfl,hp1,T.cl_Row,T.na_Row_gone,Zcn ..,e.f,_,_,_,rfl,rfl,SqL.of R1.at'.fs,hat,(by show 2≤sizeLine;decide),fun tc htc=>?_⟩
  exact hq _ _ ⟨Zh htc _,some (e.n,((lcp (cds y) (cds x):Nat):Int)),.inr ⟨tc,_,rfl,rfl,Zc⟩,hdd _ (.inr ⟨y,hy,rfl⟩)⟩
 have M2:=M1.same s2
 obtain⟨dx2,hm2⟩:=M2.ob
 refine⟨_,rfl,m,cMerge,dx2,_,_,rfl,hm2,T.cl_Merge,T.na_Merge_rows,ZbE ..,rd,_,rfl,M2.rows,fun l hl=>?_⟩
 rw[ZmU,ZbR]
 have s3:=s2.trans (Zh hl (.lst ((ZC L).map V.int)))
 have hl3:(upd H2 l (.lst ((ZC L).map V.int))) l=some (.lst ((ZC L).map V.int)):=Zc
 have hcv3:CV (upd H2 l (.lst ((ZC L).map V.int))) v c:=hcv.keep fun t xs ht=>Zh hl _ _ _ ht
 generalize upd H2 l (.lst ((ZC L).map V.int))=H3 at s3 hl3 hcv3 ⊢
 refine⟨_,rfl,l,ZC L,e.n,rfl,hl3,hpos,h60,M.up,fun r ts H4 hr0 hr4 htl hts s4=>?_⟩
 have s14:=s3.trans s4
 have M4:=M1.same s14
 have hcv4:CV H4 v c:=hcv3.keep fun t xs ht=>s4 _ _ ht
 refine⟨r,rfl,⟨_,SqL.of hr4⟩,?_⟩
 obtain⟨dm4,hm4⟩:=M4.ob
 obtain⟨dm1,hm1⟩:=M1.ob
 have nrm:r≠m:=(Zb (s3 _ _ hm1) hr0).symm
 have nrs:r≠sd:=(Zb (s3 _ _ M1.stays) hr0).symm
 refine Zfq (K:=K) (a:=r) (xs:=ts.map V.ref) (fun i σ H5=>∃ (v':V) (c':Com) (s':StL) (k q':Int) (v4:Option V),σ=[some (.ref m),some (.int e.n),some (.ref e.p),some v',v4]∧i≤ts.length∧CV H5 v' c'∧ZhO (hdM (bump L e.n)) (cds x) (low e.n (ZR 8 (ZC L) e.n) i) c'∧ZW cRow cMerge H5 m rd sd (bump L e.n) s' nb (li+k) (lo'+q') best∧Z4 (hdM (bump L e.n)) s' (low e.n (ZR 8 (ZC L) e.n) i)∧(∀j,¬ Kys (low e.n (ZR 8 (ZC L) e.n) i) j→ZO s' j=ZO s j)∧Ag (hdM (bump L e.n)) (cds x) (Zdy e.n ((ZR 8 (ZC L) e.n).take i)) k q'∧(∀b o,H4 b=some o→b≠m→b≠sd→H5 b=some o)) ?_ (fun i σ H5 _ hq=>by obtain⟨_,_,_,_,_,_,_,_,_,_,_,_,_,_,k5⟩:=hq;exact SqL.of (k5 _ _ hr4 nrm nrs)) ?_ ?_
 ·refine⟨v,c,s,0,0,_,rfl,Qq _,hcv4,hok,M4.cast (by omega) (by omega),fun X hX h2=>?_,fun _ _=>rfl,.nil,fun b o h _ _=>h⟩
  have:=Zem hX
  rcases this with rfl|⟨g,_⟩
  ·exact absurd h2 (by show ¬ 2≤1;decide)
  ·exact absurd g (by show ¬ 2≤1;decide)
 ·rintro i y σ H5 hy ⟨v',c',s',k,q',v4,rfl,hi,hcv5,hok5,M5,nok,hlk,ag,k5⟩
  rw[Qj]at hy
  cases hz:ts[i]? with
  | none=>rw[hz]at hy;cases hy
  | some t =>
  rw[hz]at hy
  cases hy
  have hil:i<ts.length:=(Qd.mp hz).1
  cases hX:(ZR 8 (ZC L) e.n)[i]? with
  | none=>rw[QaD]at hX;omega
  | some X =>
  obtain⟨x1,x2,x3,x4⟩:=cok i X hX
  have hup:=x1.rise M.up
  have e3:low e.n (ZR 8 (ZC L) e.n) (i+1)=X:=by show (ZR 8 (ZC L) e.n).getD i []=X;rw[Qo,hX];rfl
  have ht5:H5 t=some (.tup [.int (ZJ X).1,.int (ZJ X).2]):=k5 _ _ (hts i t X hz hX) (fun z=>by have:=hts i t X hz hX;rw[z,hm4]at this;cases this) (fun z=>by have:=hts i t X hz hX;rw[z,M4.stays]at this;cases this)
  obtain⟨dm5,hm5⟩:=M5.ob
  rw[← x4]at hok5 nok hlk
  have was:=Zmw tk x1 x2 x3 ok
  have hkey:ZO s' (ZJ X)=ZO s (ZJ X):=hlk _ fun z=>(Zit hup x2 z).1 rfl
  refine⟨_,rfl,m,dm5,_,rfl,hm5,Ziu ..,_,rfl,_,rfl,m,rd,sd,bump L e.n,s',nb,_,_,best,t,v',c',cds x,X,e.n,rfl,M5,ht5,hcv5,hok5,?_,fun b hb y hy=>tk.ge (x1.mem hb) hy,hup,fun b hb=>by rw[ZbR];exact x1.mem hb,x2,x3,fun v6 c6 s6 k6 q6 H6 hcv6 hok6 hnd6 hoth6 hag6 M6 k6'=>?_⟩
  ·rw[hkey]
   rcases was with w|⟨t',b,y,w1,w2,_,w4⟩
   ·exact .inl w
   ·exact .inr ⟨t',b,y,w1,w2,w4⟩
  ·refine⟨v6,c6,s6,k+k6,q'+q6,_,rfl,hil,hcv6,by rw[e3];exact hok6,M6.cast (by omega) (by omega),?_,fun j hj=>?_,?_,fun b o hb n1 n2=>k6' b o (k5 b o hb n1 n2) n1 n2⟩
   ·rw[e3]
    refine Zlm (n:=e.n) (nok.congr (fun _ _=>rfl) fun j hj=>hoth6 j (Zit hup x2 hj).1) ?_ hnd6
    have hno:=Zfm hup (Zdk x3)
    have so:Sub X (Zap X e.n):=by unfold Zap;split;exact Sub.top.up x2;exact Sub.top.lo x2
    refine(ok.sub (x1.trans so)).congr (fun b hb=>tk.oth b fun z=>hno (z ▸ hb)) fun j hj=>?_
    rw[hoth6 j (ZiB hup x2 hj).1,hlk j (ZiB hup x2 hj).2]
   ·rw[e3]at hj
    rw[hoth6 j (fun z=>hj ⟨X,.top,x2,z⟩),hlk j (fun hq=>by obtain⟨Y,y1,y2,y3⟩:=hq;exact hj ⟨Y,(ZhK x2 e.n).trans y1,y2,y3⟩)]
   ·have:=hag6 _ _ _ ag
    unfold Zdy at this ⊢
    rw[QF,hX,Qe]
    exact this
 ·rintro σ H5 ⟨v',c',s',k,q',v4,rfl,_,hcv5,hok5,M5,nok,hlk,ag,k5⟩
  rw[Qb,htl,ctop]at hok5 nok
  rw[Qb,htl,Qw (Qf _)]at ag
  obtain⟨dm5,hm5⟩:=M5.ob
  have fin:∀w':Option Int,w'=c'.map (·.1)→Q .non (upd H5 m (.ins cMerge dm5 (mgF rd nb (li+k) (lo'+q') sd (ZdT w')))):=fun w' ew=>by
   subst ew
   refine q s' _ k q' _ M5.obj hok5.1 nok ag fun b o hb nf=>?_
   rw[Zd (fun z=>nf (.inl z))]
   exact keep1 (fun b o hb n1 n2=>k5 b o (s14 b o hb) n1 n2) b o hb nf
  rcases hcv5 with⟨rfl,rfl⟩|⟨t,p,rfl,rfl,ht⟩
  ·refine⟨_,rfl,rfl,_,rfl,Zef rfl ?_⟩
   refine⟨_,rfl,m,cMerge,dm5,_,rfl,hm5,T.cl_Merge,T.na_Merge_best,Zb3 ..,?_⟩
   rw[ZbO]
   exact fin none rfl
  ·refine⟨_,rfl,rfl,_,rfl,ZcS (fun z=>nomatch z) ?_⟩
   refine⟨_,rfl,t,_,_,_,rfl,rfl,SqT.of ht,(show atI [V.int p.1,V.int p.2] 0=some (.int p.1) from Z3 (j:=0) rfl),_,rfl,m,cMerge,dm5,_,rfl,hm5,T.cl_Merge,T.na_Merge_best,Zb3 ..,?_⟩
   rw[ZbO]
   exact fin (some p.1) rfl
def Zj1(L:List ZB)(w:Option Int)(x:V)(L':List ZB)(k q:Int)(H':Hp):Prop :=
 (w=none∧x=.non∧L'=L∧k=0∧q=0)∨∃ (e:ZB) (t:Addr) (z:Str),e∈L∧w=some e.n∧x=.ref t∧e.ss[e.g]? = some z∧H' t=some (.tup [.int e.n,.int (e.g:Int),.str z])∧L'=bump L e.n∧Ag (hdM L') (cds z) (Zdy e.n (ZR 8 (ZC L) e.n)) k q
theorem Zjs(rd:Addr)(nb li lo:Int)(sd:Addr)(best:V):(mgF rd nb li lo sd best).lookup ("send_out" : Str)=none:=ZcJ _ _ _ _ _ _ (by ac_rfl) (by ac_rfl) (by ac_rfl) (by ac_rfl) (by ac_rfl) (by ac_rfl)
theorem Zi6(rd:Addr)(nb li lo:Int)(sd:Addr)(best:V):(mgF rd nb li lo sd best).lookup ("take" : Str)=none:=ZcJ _ _ _ _ _ _ (by ac_rfl) (by ac_rfl) (by ac_rfl) (by ac_rfl) (by ac_rfl) (by ac_rfl)
def ZlM(cR cM:Addr):Sp:=fun vs H Q _=>∃ (m rd sd:Addr) (L:List ZB) (s:StL) (nb li lo:Int) (w:Option Int),vs=[.ref m]∧ZW cR cM H m rd sd L s nb li lo (ZdT w)∧Win (hdM L) (ZC L) w∧Z4 (hdM L) s (ZC L) ∧
 ∀ (x:V) (L':List ZB) (s':StL) (w':Option Int) (k q:Int) (H':Hp),Zj1 L w x L' k q H'→ZW cR cM H' m rd sd L' s' nb (li+k) (lo+q) (ZdT w')→Win (hdM L') (ZC L') w'→Z4 (hdM L') s' (ZC L')→(∀b o,H b=some o→¬ Fp m rd sd L b→H' b=some o)→Q x H'
theorem ZnN(T:Zau K mg cRow cMerge)(f_Merge_coming:Mf P w K mg base 3 cMerge "coming" ["self"] (ZhJ cRow cMerge))(f_Merge_send_out:Mf P w K mg base 5 cMerge "send_out" ["self", "number"] (ZlX cRow cMerge)):Mf P w K mg base 6 cMerge "take" ["self"] (ZlM cRow cMerge):=by
 refine T.t_Merge_take.mf ZdJ (fun vs H Q E h=>?_) (fun cdv f A outer s H vs Q E hr h=>?_)
 ·obtain⟨m,rd,sd,L,s,nb,li,lo,w,rfl,_⟩:=h
  rfl
 obtain⟨m,rd,sd,L,s,nb,li,lo',w,rfl,M,W,ok,q⟩:=h
 refine⟨_,#[Zf,#[Zu,1,ZdJ.nd,(Or.inl rfl),#[ZcN,f_Merge_coming,T.cl_Merge,hr,‹0›]],#[Zf,#[Zag,#[Zo,Zht,‹1›,#[Zay],(Zt _)],#[Zj,#[Zam,#[ZeS,f_Merge_send_out,T.cl_Merge,hr,‹0›,#[Za,#[Zaa,‹0›],#[Ze]]]]],#[ZD]],#[Zj,#[Zp,‹1›]]]],?_⟩
 obtain⟨dx,hm⟩:=M.ob
 refine⟨_,rfl,m,dx,_,rfl,hm,Zhk ..,m,rd,sd,L,s,nb,li,lo',w,rfl,M,W,fun x H1 hc s1=>?_⟩
 have M1:=M.same s1
 rcases hc with⟨rfl,hw⟩|⟨t,e',z,rfl,he',hz,ht,hw⟩
 ·have hw':Win (hdM L) (ZC L) none:=by rw[Zd6]at hw;exact hw
  have ew:=W.one hw'
  subst ew
  exact⟨_,rfl,rfl,_,rfl,ZfM rfl ⟨_,rfl,q .non L s none 0 0 H1 (.inl ⟨rfl,rfl,rfl,rfl,rfl⟩) (M1.cast (by omega) (by omega)) W ok (fun b o hb _=>s1 b o hb)⟩⟩
 ·obtain⟨e,he,rfl⟩:=QB.mp he'
  have hw':Win (hdM L) (ZC L) (some e.n):=by rw[Zd6]at hw;exact hw
  have ew:=W.one hw'
  subst ew
  obtain⟨dx1,hm1⟩:=M1.ob
  refine⟨_,rfl,rfl,_,rfl,Zo3 (fun z=>nomatch z) ?_⟩
  refine⟨_,rfl,m,dx1,_,rfl,hm1,Zjs ..,_,rfl,m,cMerge,dx1,_,_,rfl,hm1,T.cl_Merge,T.na_Merge_best,Zc2 ..,m,rd,sd,L,s,nb,li,lo',_,e,z,rfl,M1,he,hz,W,ok,fun s' w' k q' H2 M2 W2 ok2 ag k2=>?_⟩
  have ht2:H2 t=some (.tup [.int e.n,.int (e.g:Int),.str z]):=k2 _ _ ht fun hf=>by
   have ht':=ht
   rcases hf with h|h|h|⟨y,hy,h⟩
   ·rw[h,hm1]at ht';cases ht'
   ·rw[h,M1.rows]at ht';cases ht'
   ·rw[h,M1.stays]at ht';cases ht'
   ·have R:=(M1.each y hy).at'
    obtain⟨dy,hdy⟩:=R.ob
    rcases h with h|h|h
    ·rw[h,hdy]at ht';cases ht'
    ·rw[h,R.ks]at ht';cases ht'
    ·rw[h,R.fs]at ht';cases ht'
  exact⟨_,rfl,q (.ref t) (bump L e.n) s' w' k q' H2 (.inr ⟨e,t,z,he,rfl,rfl,hz,ht2,rfl,ag⟩) M2 (by rw[ZbR];exact W2) (by rw[ZbR];exact ok2) (fun b o hb nf=>k2 b o (s1 b o hb) nf)⟩
abbrev ZF:=Int×List Str×Nat
def pur(Lo:List ZaQ):List ZF:=Lo.map fun e=>(e.1,e.2.2)
def ZbH(L:List ZB):List ZF:=L.map fun e=>(e.n,(e.ss,e.g))
def hdP(P:List ZF):Hd:=hdL (P.map fun x=>(x.1,0,x.2))
def ZaP(P:List ZF):List Int:=P.map (·.1)
def ZbJ(n:Int)(x:ZF):ZF:=if x.1=n then (x.1,x.2.1,x.2.2+1) else x
def Zbg(P:List ZF)(n:Int):List ZF:=P.map (ZbJ n)
theorem Ze6(L:List ZB):hdM L=hdP (ZbH L):=Zjy _ _ (by unfold ZbH;rw[QC,QC,QC];rfl)
theorem Zcs(L:List ZB):ZC L=ZaP (ZbH L):=by unfold ZaP ZbH ZC;rw[QC];rfl
theorem ZgJ(L:List ZB)(n:Int):ZbH (bump L n)=Zbg (ZbH L) n:=by
 unfold ZbH bump Zbg
 rw[QC,QC]
 refine QS fun e _=>?_
 simp only[Function.comp]
 unfold ZbJ
 by_cases h:e.n=n
 ·rw[Zd8 h,if_pos h]
 ·rw[Zfh h,if_neg h]
def Zq0(n:Int)(e:ZaQ):ZaQ:=if e.1=n then (e.1,e.2.1,e.2.2.1,e.2.2.2+1) else e
def Zrq(Lo:List ZaQ)(n:Int):List ZaQ:=Lo.map (Zq0 n)
theorem ZgV(P:List ZF)(n:Int):ZaP (Zbg P n)=ZaP P:=by
 unfold ZaP Zbg
 rw[QC]
 refine QS fun x _=>?_
 simp only[Function.comp]
 unfold ZbJ
 split<;>rfl
theorem ZfC{P:List ZF}(nd:(ZaP P).Nodup){x:ZF}(h:x∈P):hdP P x.1=(x.2.1[x.2.2]?).map cds :=
 ZiT (L:=P.map fun x:ZF=>((x.1,0,x.2):ZaQ)) (e:=(x.1,0,x.2)) (by rw[QC];exact nd) (Qn (f:=fun x:ZF=>((x.1,0,x.2):ZaQ)) h)
def Zml(P:List ZF)(x:ZF)(z:Str)(k q:Int):Prop:=x∈P∧x.2.1[x.2.2]? = some z∧Win (hdP P) (ZaP P) (some x.1)∧Ag (hdP (Zbg P x.1)) (cds z) (Zdy x.1 (ZR 8 (ZaP P) x.1)) k q
abbrev Zal:=Int×Nat×Str
inductive Zcy (P:List ZF):List Zal→List ZF→Int→Int→Prop
 | nil:Zcy P [] P 0 0
 | snoc {ts:List Zal} {P1:List ZF} {x:ZF} {z:Str} {k q k1 q1:Int}:Zcy P ts P1 k q→Zml P1 x z k1 q1→Zcy P (ts++[(x.1,x.2.2,z)]) (Zbg P1 x.1) (k+k1) (q+q1)
inductive ZeN:List ZF→Int→Int→Prop
 | stop {P:List ZF}:Win (hdP P) (ZaP P) none→ZeN P 0 0
 | go {P:List ZF} {x:ZF} {z:Str} {k q k1 q1:Int}:Zml P x z k1 q1→ZeN (Zbg P x.1) k q→ZeN P (k1+k) (q1+q)
theorem Zcy.num{P P':List ZF}{ts:List Zal}{k q:Int}(h:Zcy P ts P' k q):ZaP P'=ZaP P:=by
 induction h with
 | nil=>rfl
 | snoc _ _ ih=>rw[ZgV,ih]
def Zbe(P:List ZF):Nat:=(P.map fun x=>x.2.1.length-x.2.2).sum
theorem Zds:∀ (P:List ZF),(ZaP P).Nodup→∀ {x:ZF},x∈P→x.2.2<x.2.1.length→Zbe (Zbg P x.1)+1=Zbe P
 | [],_,_,h,_=>by cases h
 | y::P,nd,x,h,hlt=>by
  unfold ZaP at nd
  rw[Qh,QU]at nd
  unfold Zbe Zbg
  rw[Qh,Qh,Qh,QL,QL]
  rcases QO.mp h with rfl|h
  ·have e:P.map (ZbJ x.1)=P:=by
    conv=>rhs;rw[← List.map_id P]
    refine QS fun u hu=>?_
    unfold ZbJ
    rw[if_neg (fun z:u.1=x.1=>nd.1 (z ▸ Qn (f:=fun x:ZF=>x.1) hu))]
    rfl
   rw[e]
   unfold ZbJ
   rw[if_pos rfl]
   show x.2.1.length-(x.2.2+1)+_+1=_
   omega
  ·have ih:=Zds P nd.2 h hlt
   unfold Zbe Zbg at ih
   have e:ZbJ x.1 y=y:=if_neg (fun z:y.1=x.1=>nd.1 (z ▸ Qn (f:=fun x:ZF=>x.1) h))
   rw[e]
   omega
theorem Zcy.left{P P':List ZF}{ts:List Zal}{k q:Int}(h:Zcy P ts P' k q)(nd:(ZaP P).Nodup):Zbe P'+ts.length=Zbe P:=by
 induction h with
 | nil=>rfl
 | snoc h s ih =>
  have:=Zds _ (by rw[h.num];exact nd) s.1 (Qd.mp s.2.1).1
  rw[Qg,Ql]
  omega
theorem Zk9{L L':List ZB}{w:Option Int}{x:V}{k q:Int}{H:Hp}(W:Win (hdM L) (ZC L) w)(h:Zj1 L w x L' k q H):(Win (hdP (ZbH L)) (ZaP (ZbH L)) none∧x=.non∧L'=L∧k=0∧q=0)∨∃ (y:ZF) (z:Str) (t:Addr),Zml (ZbH L) y z k q∧ZbH L'=Zbg (ZbH L) y.1∧x=.ref t∧H t=some (.tup [.int y.1,.int (y.2.2:Int),.str z]):=by
 rw[Ze6,Zcs]at W
 rcases h with⟨rfl,h1,h2,h3,h4⟩|⟨e,t,z,he,rfl,rfl,hz,ht,rfl,ag⟩
 ·exact .inl ⟨W,h1,h2,h3,h4⟩
 ·refine .inr ⟨(e.n,(e.ss,e.g)),z,t,⟨Qn (f:=fun e:ZB=>(e.n,(e.ss,e.g))) he,hz,W,?_⟩,ZgJ L e.n,rfl,ht⟩
  rw[Ze6,ZgJ,Zcs]at ag
  exact ag
def Zpc(K:PySem.W.Frag)(cR cM:Addr):Sp:=fun vs H Q _=>∃ (m rd sd:Addr) (L:List ZB) (s:StL) (nb li lo:Int) (w:Option Int) (many:Int),vs=[.ref m,.int many]∧ZW cR cM H m rd sd L s nb li lo (ZdT w)∧Win (hdM L) (ZC L) w∧Z4 (hdM L) s (ZC L)∧Zbe (ZbH L)≤100000 ∧
 ∀ (r:Addr) (us:List (Addr×Zal)) (L':List ZB) (s':StL) (w':Option Int) (k q:Int) (H':Hp),H r=none→H' r=some (.lst (us.map fun u=>V.ref u.1))→(∀u∈us,H' u.1=some (.tup [.int u.2.1,.int (u.2.2.1:Int),.str u.2.2.2]))→Zcy (ZbH L) (us.map (·.2)) (ZbH L') k q→((us.length:Int)<many→w'=none)→(us≠[]→(us.length:Int)≤many)→ZW cR cM H' m rd sd L' s' nb (li+k) (lo+q) (ZdT w')→Win (hdM L') (ZC L') w'→Z4 (hdM L') s' (ZC L')→(∀b,Fp m rd sd L' b↔Fp m rd sd L b)→(∀b o,H b=some o→¬ Fp m rd sd L b→H' b=some o)→Q (.ref r) H'
theorem Zj1.fp{L L':List ZB}{w:Option Int}{x:V}{k q:Int}{H:Hp}(h:Zj1 L w x L' k q H){m rd sd b:Addr}:Fp m rd sd L' b↔Fp m rd sd L b:=by
 rcases h with⟨_,_,rfl,_⟩|⟨e,t,z,_,_,_,_,_,rfl,_⟩
 ·exact Iff.rfl
 ·exact⟨Zop,Fp_bump'⟩
theorem ZW.fp_live{cR cM:Addr}{H:Hp}{m rd sd:Addr}{L:List ZB}{s:StL}{nb li lo:Int}{best:V}(M:ZW cR cM H m rd sd L s nb li lo best){b:Addr}(h:Fp m rd sd L b):∃o,H b=some o∧∀xs,o≠.tup xs:=by
 rcases h with rfl|rfl|rfl|⟨e,he,h⟩
 ·obtain⟨dx,hd⟩:=M.ob;exact⟨_,hd,fun xs z=>by cases z⟩
 ·exact⟨_,M.rows,fun xs z=>by cases z⟩
 ·exact⟨_,M.stays,fun xs z=>by cases z⟩
 ·have R:=(M.each e he).at'
  obtain⟨dx,hd⟩:=R.ob
  rcases h with rfl|rfl|rfl
  ·exact⟨_,hd,fun xs z=>by cases z⟩
  ·exact⟨_,R.ks,fun xs z=>by cases z⟩
  ·exact⟨_,R.fs,fun xs z=>by cases z⟩
theorem ZW.fp_fresh{cR cM:Addr}{H:Hp}{m rd sd:Addr}{L:List ZB}{s:StL}{nb li lo:Int}{best:V}(M:ZW cR cM H m rd sd L s nb li lo best){b:Addr}(h:H b=none):¬ Fp m rd sd L b:=fun z=>by
 obtain⟨o,ho,_⟩:=M.fp_live z
 rw[h]at ho;cases ho
theorem ZW.fp_tup{cR cM:Addr}{H:Hp}{m rd sd:Addr}{L:List ZB}{s:StL}{nb li lo:Int}{best:V}(M:ZW cR cM H m rd sd L s nb li lo best){b:Addr}{xs:List V}(h:H b=some (.tup xs)):¬ Fp m rd sd L b:=fun z=>by
 obtain⟨o,ho,hn⟩:=M.fp_live z
 rw[h]at ho;cases ho;exact hn xs rfl
theorem Zph(T:Zau K mg cRow cMerge)(f_Merge_take:Mf P w K mg base 6 cMerge "take" ["self"] (ZlM cRow cMerge)):Mf P w K mg base 7 cMerge "take_few" ["self", "many"] (Zpc K cRow cMerge):=by
 refine T.t_Merge_take_few.mf Zb4 (fun vs H Q E h=>?_) (fun cdv f A outer s H vs Q E hr h=>?_)
 ·obtain⟨m,rd,sd,L,s,nb,li,lo,w,many,rfl,_⟩:=h
  rfl
 obtain⟨m,rd,sd,L,s,nb,li,lo',w,many,rfl,M,W,ok,hleft,q⟩:=h
 refine⟨_,#[Zf,#[Zu,2,Zb4.nd,(Or.inl rfl),#[Zah,#[Ze]]],#[Zf,(@Zcu _ _ _ _ _ _ PassesOwn.never (@PW.pt _ _ _ #[ZeH,#[Zo,ZeT,#[Zk,(Zbn K),(by rfl),T.b.n_len,Qx,#[Za,‹2›,#[Ze]]],‹1›,(Zt _)],(@Zd3 _ _ _ _ #[Zo,Zht,#[Zaa,‹0›],#[Zay],(Zt _)])]) #[Zj,#[Zam,#[ZbK,QA,QI,QJ,Zaj,‹2›,#[Za,#[ZcN,f_Merge_take,T.cl_Merge,hr,‹0›],#[Ze]]]]]),#[Zj,#[Zp,‹2›]]]],?_⟩
 have nd:(ZaP (ZbH L)).Nodup:=by rw[← Zcs];exact M.nd
 refine⟨(by show 0≤sizeLine;decide),fun r hr0=>?_⟩
 have nfr:=M.fp_fresh hr0
 refine⟨fun mm σ H2=>∃ (us:List (Addr×Zal)) (L':List ZB) (s':StL) (w':Option Int) (k q':Int),σ=[some (.ref m),some (.int many),some (.ref r)]∧H2 r=some (.lst (us.map fun u=>V.ref u.1))∧(∀u∈us,u.1≠r∧H2 u.1=some (.tup [.int u.2.1,.int (u.2.2.1:Int),.str u.2.2.2]))∧Zcy (ZbH L) (us.map (·.2)) (ZbH L') k q'∧(us≠[]→(us.length:Int)≤many)∧ZW cRow cMerge H2 m rd sd L' s' nb (li+k) (lo'+q') (ZdT w')∧Win (hdM L') (ZC L') w'∧Z4 (hdM L') s' (ZC L')∧(∀b,Fp m rd sd L' b↔Fp m rd sd L b)∧(∀b o,H b=some o→¬ Fp m rd sd L b→H2 b=some o)∧mm=Zbe (ZbH L'),⟨_,[],L,s,w,0,0,rfl,Zc,(fun u h=>by cases h),.nil,(fun h=>absurd rfl h),(M.same (Zh hr0 _)).cast (by omega) (by omega),W,ok,fun _=>Iff.rfl,fun b o hb _=>Zh hr0 _ _ _ hb,rfl⟩,?_⟩
 rintro mm σ H2 ⟨us,L1,s1,w1,k,q',rfl,hr2,hus,htk,hmany,M2,W2,ok2,hfp,k2,rfl⟩
 have hul:(((us.map fun u=>V.ref u.1).length:Nat):Int)=(us.length:Int):=by rw[Qb]
 have hlf:=htk.left nd
 rw[Qb]at hlf
 obtain⟨dx2,hm2⟩:=M2.ob
 have done:((us.length:Int)<many→w1=none)→Q (.ref r) H2:=fun hd=>q r us L1 s1 w1 k q' H2 hr0 hr2 (fun u hu=>(hus u hu).2) htk hd hmany M2 W2 ok2 hfp k2
 refine⟨_,rfl,r,_,rfl,.inl (SqL.of hr2),_,rfl,_,_,rfl,rfl,_,rfl,Za9 (fun d1=>?_) (fun d1=>?_)⟩
 ·have d1':(us.length:Int)<many:=by have:=of_decide_eq_true d1;omega
  refine⟨_,rfl,m,cMerge,dx2,_,_,rfl,hm2,T.cl_Merge,T.na_Merge_best,Zc2 ..,rfl,_,rfl,?_⟩
  cases w1 with
  | none=>exact ZfM rfl ⟨_,rfl,done fun _=>rfl⟩
  | some a =>
  refine Zo3 (fun z=>nomatch z) ?_
  refine⟨_,fun σ' H' h=>h,?_⟩
  refine⟨_,rfl,.inl ⟨rfl,_,SqL.of hr2⟩,_,rfl,m,dx2,_,rfl,hm2,Zi6 ..,m,rd,sd,L1,s1,nb,_,_,some a,rfl,M2,W2,ok2,fun x L3 s3 w3 k3 q3 H3 hR M3 W3 ok3 kp3=>?_⟩
  have hr3:H3 r=some (.lst (us.map fun u=>V.ref u.1)):=kp3 _ _ hr2 (fun z=>nfr ((hfp r).mp z))
  rcases Zk9 W2 hR with⟨w0,_⟩|⟨y,z,t,stp,eL,rfl,ht⟩
  ·rw[Ze6,Zcs]at W2
   exact nomatch w0.one W2
  have hbl:=Zds _ (by rw[htk.num];exact nd) stp.1 (Qd.mp stp.2.1).1
  have htr:t≠r:=fun e=>by rw[e,hr3]at ht;cases ht
  refine⟨r,_,_,rfl,rfl,hr3,(by rw[Qb,sizeLine_eq];omega),Zbe (ZbH L3),by rw[eL];omega,us++[(t,(y.1,y.2.2,z))],L3,s3,w3,k+k3,q'+q3,rfl,by rw[Zc,Qe];rfl,fun u hu=>?_,?_,fun _=>by rw[Qg,Ql];omega,?_,W3,ok3,fun b=>(hR.fp).trans (hfp b),fun b o hb nf=>?_,rfl⟩
  ·rcases Qk.mp hu with hu|hu
   ·obtain⟨g2,g3⟩:=hus u hu
    exact⟨g2,by rw[Zd g2];exact kp3 _ _ g3 (M2.fp_tup g3)⟩
   ·rw[Qi.mp hu]
    exact⟨htr,by rw[Zd htr];exact ht⟩
  ·rw[Qe,eL]
   exact .snoc htk stp
  ·refine ZW.cast (M3.keep fun b o hb hor=>?_) (by omega) (by omega)
   rw[Zd (fun e=>?_)]
   ·exact hb
   ·subst e
    rcases hor with hf|⟨xs,rfl⟩
    ·exact nfr ((hfp b).mp (hR.fp.mp hf))
    ·rw[hr3]at hb;cases hb
  ·rw[Zd (Zb hb hr0)]
   exact kp3 b o (k2 b o hb nf) (fun z=>nf ((hfp b).mp z))
 ·refine ZbM ⟨_,rfl,done fun h=>?_⟩
  have:¬ ((((us.map fun u=>V.ref u.1).length:Nat):Int)<many):=fun z=>d1 (decide_eq_true z)
  omega
def spLWay:Sp:=fun vs H Q _=>∃ (a:Addr) (N:List Int) (n:Int),vs=[.ref a,.int n]∧H a=some (.lst (N.map V.int))∧n∈N∧N.length≤60∧Zae N ∧
 ∀ (r:Addr) (ts:List (Addr×Addr×Addr)) (H':Hp),H r=none→H' r=some (.lst (ts.map fun t=>V.ref t.1))→ts.length=(ZR 8 N n).length→(∀ (i:Nat) (t:Addr×Addr×Addr) (X:List Int),ts[i]? = some t→(ZR 8 N n)[i]? = some X→H' t.1=some (.tup [.ref t.2.1,.ref t.2.2])∧H' t.2.1=some (.lst ((Zab X n).map V.int))∧H' t.2.2=some (.lst ((Zap X n).map V.int)))→Zw H H'→Q (.ref r) H'
def Zp1(Lo:List ZaQ)(x:V)(Lo':List ZaQ)(k q:Int)(H':Hp):Prop :=
 (x=.non∧Win (hdL Lo) (Lo.map (·.1)) none∧Lo'=Lo∧k=0∧q=0)∨∃ (e:ZaQ) (t:Addr) (z:Str),e∈Lo∧Win (hdL Lo) (Lo.map (·.1)) (some e.1)∧x=.ref t∧e.2.2.1[e.2.2.2]? = some z∧H' t=some (.tup [.int e.1,.int (e.2.2.2:Int),.str z])∧Lo'=Zrq Lo e.1∧Ag (hdL Lo') (cds z) (Zdy e.1 (ZR 8 (Lo.map (·.1)) e.1)) k q
def spLTaken:Sp:=fun vs H Q _=>∃ (o ra ga:Addr) (Lo:List ZaQ) (nb li lo:Int),vs=[.ref o]∧Own H o ra ga Lo nb li lo∧(Lo.map (·.1)).Pairwise (·<·) ∧
 ∀ (x:V) (Lo':List ZaQ) (k q:Int) (H':Hp),Zp1 Lo x Lo' k q H'→Own H' o ra ga Lo' nb (li+k) (lo+q)→(∀b u,H b=some u→b≠o→b≠ga→H' b=some u)→Q x H'
structure MS where
 m:Addr
 rd:Addr
 sd:Addr
 L:List ZB
 s:StL
 nb:Int
 li:Int
 lo:Int
 w:Option Int
structure OS where
 o:Addr
 ra:Addr
 ga:Addr
 Lo:List ZaQ
 nb:Int
def Zsb(Y:OS)(b:Addr):Prop:=b=Y.o∨b=Y.ra∨b=Y.ga∨∃e∈Y.Lo,b=e.2.1
def MFp(X:MS)(b:Addr):Prop:=Fp X.m X.rd X.sd X.L b
structure MOk (cR cM:Addr) (H:Hp) (X:MS):Prop where
 M:ZW cR cM H X.m X.rd X.sd X.L X.s X.nb X.li X.lo (ZdT X.w)
 W:Win (hdM X.L) (ZC X.L) X.w
 ok:Z4 (hdM X.L) X.s (ZC X.L)
structure Pair (cR cM:Addr) (H:Hp) (X:MS) (Y:OS):Prop where
 mg:MOk cR cM H X
 ow:Own H Y.o Y.ra Y.ga Y.Lo Y.nb X.li X.lo
 ag:Agr Y.Lo X.L
 sep:∀b,MFp X b→¬ Zsb Y b
theorem ZkN{P:List ZF}(nd:(ZaP P).Nodup)(h:Win (hdP P) (ZaP P) none)(ok:∀x∈P,x.2.2≤x.2.1.length):Zbe P=0:=by
 unfold Zbe
 have:∀l:List Nat,(∀a∈l,a=0)→l.sum=0:=fun l hl=>by
  induction l with
  | nil=>rfl
  | cons b r ih=>rw[QL,hl b (by simp),ih fun a ha=>hl a (Qs _ ha)]
 refine this _ fun a ha=>?_
 obtain⟨x,hx,rfl⟩:=QB.mp ha
 have hh:=h x.1 (Qn (f:=fun x:ZF=>x.1) hx)
 rw[ZfC nd hx]at hh
 cases hg:x.2.1[x.2.2]? with
 | none=>rw[QaD]at hg;show x.2.1.length-x.2.2=0;omega
 | some y=>rw[hg]at hh;cases hh
def Zgb(rs:List (Addr×List Str)):List ZF:=(Z2 0 rs.length).zip (rs.map fun x=>(x.2,0))
theorem Zkb{α β γ:Type}(f:α→β)(g:α→γ):∀l:List α,l.map (fun x=>(f x,g x))=(l.map f).zip (l.map g)
 | []=>rfl
 | x::r=>by rw[Qh,Qh,Qh,Qak,Zkb f g r]
theorem ZmV{L:List ZB}{rs:List (Addr×List Str)}(h:Zqv L rs):ZbH L=Zgb rs:=by
 unfold ZbH Zgb
 rw[Zkb (fun e:ZB=>e.n) (fun e=>(e.ss,e.g)) L,← h.1,← h.2];rfl
theorem ZlT(rs:List (Addr×List Str)):Zbe (Zgb rs)=(rs.map fun x=>x.2.length).sum:=by
 unfold Zbe Zgb
 have e:((Z2 0 rs.length).zip (rs.map fun x=>(x.2,0))).map (fun x:ZF=>x.2.1.length-x.2.2)=((((Z2 0 rs.length).zip (rs.map fun x=>(x.2,0))).map (·.2))).map (fun y:List Str×Nat=>y.1.length-y.2):=by rw[QC];rfl
 rw[e,List.map_snd_zip (by rw[Qb,ZaT];exact Qf _),QC]
 rfl
def Zgn:Sp:=fun vs H Q _=>∃ (r:Addr) (rs:List (Addr×List Str)),vs=[.ref r]∧Zcb H r rs∧∀H':Hp,Zw H H'→Q (.int (((rs.map fun x=>x.2.length).sum:Nat):Int)) H'
theorem ZiD:∀rs:List (Addr×List Str),(rs.map fun x=>(x.2.length:Int)).sum=(((rs.map fun x=>x.2.length).sum:Nat):Int)
 | []=>rfl
 | x::r=>by rw[Qh,Qh,QL,QL,ZiD r,Int.natCast_add]
theorem ZhW(T:Zau K mg cRow cMerge):Df P w K mg base 1 "how_many" ["rows"] Zgn:=by
 refine T.t_how_many.df Ziy (fun vs H Q E h=>?_) (fun cdv f A outer s H vs Q E hr h=>?_)
 ·obtain⟨r,rs,rfl,_⟩:=h
  rfl
 obtain⟨r,rs,rfl,hrs,q⟩:=h
 refine⟨_,#[Zj,#[Zp,#[Zk,(Zra K),(by rfl),T.b.n_sum,boot_sum,#[Za,#[ZaE,ZnZ,#[iL,K,‹0›],(fun _ _ _ _=>#[cg,1,ZnZ]),(fun _ _ _ _=>(@Zao _)),(fun _ _ _ _=>#[Zk,(Zbn K),(ZaF ZnZ rfl (by ac_rfl)),T.b.n_len,Qx,#[Za,#[cw,1,ZnZ],#[Ze]]])],#[Ze]]]]],?_⟩
 have hfew:=hrs.few
 refine⟨_,rfl,r,rfl,⟨_,SqL.of hrs.at'⟩,fun D hD=>?_⟩
 refine ZaX (K:=K) (a:=r) (xs:=rs.map fun x=>V.ref x.1) (fun i zs σ H2=>(∃v:Option V,σ=[some (.ref r),v])∧zs=((rs.take i).map fun x=>(x.2.length:Int)).map V.int∧i≤rs.length∧H2 D=some (.lst zs)∧Zw H H2) ?_ (fun _ _ _ _ h=>SqL.of (h.2.2.2.2 _ _ hrs.at')) ?_ ?_
 ·exact⟨⟨none,rfl⟩,rfl,Qq _,Zc,Zh hD _⟩
 ·rintro i y zs σ H2 hy ⟨⟨v,rfl⟩,rfl,hi,hD2,s2⟩
  rw[Qj]at hy
  cases hz:rs[i]? with
  | none=>rw[hz]at hy;cases hy
  | some x =>
  rw[hz]at hy
  cases hy
  have hil:i<rs.length:=(Qd.mp hz).1
  refine⟨_,rfl,x.1,_,rfl,.inl (SqL.of (s2 _ _ (hrs.lst x (Qp hz)).1)),hD2,(by rw[Qb,Qb,Qy];exact ZH (by omega)),⟨_,rfl⟩,?_,hil,Zc,fun b u hb=>?_⟩
  ·rw[QF,hz,Qe,Qe,Qb];rfl
  ·rw[Zd (Zb hb hD)];exact s2 b u hb
 rintro zs σ H2 ⟨⟨v,rfl⟩,rfl,_,hD2,s2⟩
 rw[Qb,Qw (Qf _)]at hD2
 refine⟨D,_,rfl,SqL.of hD2,by rw[Qb];omega,fun n hn=>?_,?_⟩
 ·obtain⟨x,hx,rfl⟩:=QB.mp hn
  have:=(hrs.lst x hx).2.1
  omega
 ·rw[ZiD];exact q H2 s2
def spCounts:Sp:=fun vs H Q _=>∃ (r:Addr) (rs:List (Addr×List Str)),vs=[.ref r]∧Zcb H r rs∧(∀x∈rs,sortedS x.2=true)∧∀ (t:Addr) (k0 q0 k1 q1:Int) (H':Hp),ZdR (hdP (Zgb rs)) 8 (ZaP (Zgb rs)) k0 q0→ZeN (Zgb rs) k1 q1→H' t=some (.tup [.int (k0+k1),.int (q0+q1)])→Zw H H'→Q (.ref t) H'
theorem Zks(rd:Addr)(nb li lo:Int)(sd:Addr)(best:V):(mgF rd nb li lo sd best).lookup ("take_few" : Str)=none:=ZcJ _ _ _ _ _ _ (by ac_rfl) (by ac_rfl) (by ac_rfl) (by ac_rfl) (by ac_rfl) (by ac_rfl)
theorem Zqz(rs:List (Addr×List Str))(h:∀x∈rs,x.2.length≤100):(rs.map fun x=>x.2.length).sum≤rs.length*100:=by
 induction rs with
 | nil=>exact Qf _
 | cons x r ih =>
  have:=ih fun y hy=>h y (Qs _ hy)
  have:=h x (by simp)
  rw[Qh,QL,QE]
  omega
theorem ZlH{L':List ZB}{P:List ZF}{ts:List Zal}{k q:Int}{w':Option Int}{many:Nat}(nd:(ZaP P).Nodup)(h:Zcy P ts (ZbH L') k q)(h1:(ts.length:Int)<(many:Int)→w'=none)(h2:ts≠[]→(ts.length:Int)≤(many:Int))(W:Win (hdM L') (ZC L') w')(ok:∀x∈ZbH L',x.2.2≤x.2.1.length):ts.length=min many (Zbe P):=by
 have hl:=h.left nd
 by_cases hlt:(ts.length:Int)<(many:Int)
 ·have e:=h1 hlt
  subst e
  rw[Ze6,Zcs]at W
  have hz:=ZkN (by rw[h.num];exact nd) W ok
  omega
 ·by_cases hn:ts=[]
  ·subst hn
   simp only[List.length_nil]at hlt ⊢
   omega
  ·have:=h2 hn
   omega
theorem ZhM:∀ns:List Int,PyData.canLayAll0 (ns.map PyData.int)=true
 | []=>rfl
 | x::r=>by simp[PyData.canLayAll0,PyData.canLay0,ZhM r]
theorem Zfs:∀ns:List Int,PyData.depthAll (ns.map PyData.int)=0
 | []=>rfl
 | _::r=>by simp[PyData.depthAll,PyData.depth,Zfs r]
theorem Zbf(ns:List Int):SeqAt.shaped (.list (ns.map PyData.int))=true:=by simp[SeqAt.shaped,PyData.canLay0,PyData.depth,ZhM ns,Zfs]
theorem Zdn{K:PySem.W.Frag}{H:Hp}:∀ns:List Int,DVs K H (ns.map V.int) (ns.map PyData.int)
 | []=>.nil
 | s::r=>.cons (.int s) (Zdn r)
theorem Zez:∀a b:List Nat,Spec.ltCps a b=true↔a<b
 | [],[]=>by simp[Spec.ltCps]
 | [],y::s=>by simp[Spec.ltCps]
 | x::r,[]=>by simp[Spec.ltCps]
 | x::r,y::s=>by
  have ih:=Zez r s
  rw[List.cons_lt_cons_iff]
  simp[Spec.ltCps,ih]
def LeS(a b:Str):Prop:=¬ b.cps.toList<a.cps.toList
theorem LeS.trans{a b c:Str}(h:LeS a b)(k:LeS b c):LeS a c:=List.not_lt.mpr (List.le_trans (List.not_lt.mp h) (List.not_lt.mp k))
theorem Zgu:∀ (r:List Str) (x:Str),risingS x r=true↔(x::r).Pairwise LeS
 | [],x=>by simp[risingS]
 | y::r,x=>by
  have ih:=Zgu r y
  rw[List.pairwise_cons]
  unfold risingS
  rw[QX,Bool.not_eq_true']
  constructor
  ·rintro⟨h1,h2⟩
   have p:=ih.mp h2
   have hxy:LeS x y:=fun z=>by rw[(Zez _ _).mpr z]at h1;cases h1
   refine⟨fun b hb=>?_,p⟩
   rcases QO.mp hb with rfl|hb
   ·exact hxy
   ·exact hxy.trans ((List.pairwise_cons.mp p).1 b hb)
  ·rintro⟨h1,h2⟩
   exact⟨Bool.eq_false_iff.mpr fun z=>h1 y (by simp) ((Zez _ _).mp z),ih.mpr h2⟩
theorem Zfx(ss:List Str):sortedS ss=true↔ss.Pairwise LeS:=by
 cases ss with
 | nil=>simp[sortedS]
 | cons x r=>exact Zgu r x
def Zix:Sp:=fun vs H Q _=>∃ (r:Addr) (rs:List (Addr×List Str)),vs=[.ref r]∧Zcb H r rs∧(∀x∈rs,sortedS x.2=true) ∧
 ∀ (t:Addr) (us:List (Addr×Zal)) (P':List ZF) (k q:Int) (H':Hp),Zcy (Zgb rs) (us.map (·.2)) P' k q→us.length=(rs.map fun x=>x.2.length).sum→H' t=some (.lst (us.map fun u=>V.ref u.1))→(∀u∈us,H' u.1=some (.tup [.int u.2.1,.int (u.2.2.1:Int)]))→H t=none→(∀u∈us,H u.1=none)→Zw H H'→Q (.ref t) H'
theorem Zlg(T:Zau K mg cRow cMerge)(f_Merge_init:Cf P w K mg base 14 cMerge "Merge" ["self", "rows"] (ZeO cRow cMerge))(f_Merge_take_few:Mf P w K mg base 7 cMerge "take_few" ["self", "many"] (Zpc K cRow cMerge))(f_how_many:Df P w K mg base 1 "how_many" ["rows"] Zgn):Df P w K mg base 16 "merged" ["rows"] Zix:=by
 refine T.t_merged.df Zkp (fun vs H Q E h=>?_) (fun cdv f A outer s H vs Q E hr h=>?_)
 ·obtain⟨r,rs,rfl,_⟩:=h
  rfl
 obtain⟨r,rs,rfl,hrs,hsrt,q⟩:=h
 refine⟨_,#[Zj,#[Zp,#[ZaE,Zli,#[iL,K,#[ZeS,f_Merge_take_few,T.cl_Merge,hr,#[ZoQ,f_Merge_init,hr,#[Za,‹0›,#[Ze]]],#[Za,#[Zz,f_how_many,hr,#[Za,‹0›,#[Ze]],(by rfl)],#[Ze]]]],(fun _ _ _ _=>#[gT,K,3,#[Zy,#[cg,1,Zli],#[Zy,#[cg,2,Zli],#[Zy,#[cg,3,Zli],(@ZaY _)]]]]),(fun _ _ _ _=>(@Zao _)),(fun _ _ _ _=>#[Za1,#[Za,#[cw,1,Zli],#[Za,#[cw,2,Zli],#[Ze]]]])]]],?_⟩
 refine⟨_,rfl,fun m dx hm hdx nmd=>?_⟩
 have s1:Zw H (upd (upd H dx (.own m)) m (.ins cMerge dx [])):=fun b o hb=>by rw[Zd (Zb hb hm),Zd (Zb hb hdx)];exact hb
 have hm1:(upd (upd H dx (.own m)) m (.ins cMerge dx [])) m=some (.ins cMerge dx []):=Zc
 generalize upd (upd H dx (.own m)) m (.ins cMerge dx [])=H1 at s1 hm1 ⊢
 refine⟨m,dx,r,rs,rfl,hm1,hrs.same s1,hsrt,fun rd sd L st w0 k0 q0 H2 M2 hnew W2 S2 P2 fp2 k2=>⟨rfl,?_⟩⟩
 have s2:Zw H H2:=fun b o hb=>k2 b o (s1 b o hb) (Zb hb hm)
 have fpH:∀b,Fp m rd sd L b→H b=none:=fun b hb=>by
  rcases fp2 b hb with z|z
  ·rw[z];exact hm
  ·exact s1.free z
 have ok2:=Zfv 8 (hdM L) st (ZC L) M2.up (QM (show (ZC L).length≤60 by unfold ZC;rw[Qb];exact M2.few) (by decide)) (by decide) S2
 have eP:=ZmV hnew
 obtain⟨dx2,hm2⟩:=M2.ob
 have hsum:=Zqz rs fun x hx=>(hrs.lst x hx).2.1
 have hfew:=hrs.few
 have hl:=ZlT rs
 refine⟨m,dx2,_,rfl,hm2,Zks ..,_,rfl,r,rs,rfl,hrs.same s2,fun H3 s3=>?_⟩
 have M3:=M2.same s3
 refine⟨m,rd,sd,L,st,_,k0,q0,w0,_,rfl,M3,W2,ok2,by rw[eP,hl];omega,fun rr us L' s' w' k1 q1 H4 hrr hrr4 hus htk hfin hmany M4 W4 ok4 fp4 k4=>?_⟩
 have s4:Zw H H4:=fun b o hb=>k4 b o (s3 b o (s2 b o hb)) fun z=>by rw[fpH b z]at hb;cases hb
 have nd:(ZaP (ZbH L)).Nodup:=by rw[← Zcs];exact M2.nd
 have hlen:=ZlH (ts:=us.map (·.2)) (many:=(rs.map fun x=>x.2.length).sum) nd htk (by rw[Qb];exact hfin) (by rw[Qb];exact fun z=>hmany fun y=>z (by rw[y];rfl)) W4 (fun x hx=>by obtain⟨e,he,rfl⟩:=QB.mp hx;exact(M4.each e he).le)
 rw[Qb,eP,hl,Nat.min_self]at hlen
 rw[eP]at htk
 refine⟨rr,rfl,⟨_,SqL.of hrr4⟩,fun D hD=>?_⟩
 have hDH:H D=none:=s4.free hD
 refine ZaX (K:=K) (a:=rr) (xs:=us.map fun u=>V.ref u.1) (fun i zs σ H5=>(∃v1 v2 v3:Option V,σ=[some (.ref r),v1,v2,v3])∧(∃ws:List (Addr×Zal),zs=(ws.map fun u=>V.ref u.1)∧ws.map (·.2)=(us.take i).map (·.2)∧∀u∈ws,u.1≠D∧H u.1=none∧H5 u.1=some (.tup [.int u.2.1,.int (u.2.2.1:Int)]))∧i≤us.length∧H5 D=some (.lst zs)∧Zw H4 H5) ?_ (fun _ _ _ _ h=>SqL.of (h.2.2.2.2 _ _ hrr4)) ?_ ?_
 ·exact⟨⟨none,none,none,rfl⟩,⟨[],rfl,rfl,fun u h=>by cases h⟩,Qq _,Zc,Zh hD _⟩
 ·rintro i y zs σ H5 hy ⟨⟨v1,v2,v3,rfl⟩,⟨ws,rfl,hw,hws⟩,hi,hD5,s5⟩
  rw[Qj]at hy
  cases hz:us[i]? with
  | none=>rw[hz]at hy;cases hy
  | some u =>
  rw[hz]at hy
  cases hy
  have hil:i<us.length:=(Qd.mp hz).1
  have hwl:ws.length=i:=by
   have:=congrArg List.length hw
   rw[Qb,Qb,Qy]at this
   omega
  refine⟨u.1,_,rfl,SqT.of (s5 _ _ (hus u (Qp hz))),rfl,_,_,rfl,_,_,rfl,_,_,rfl,rfl,?_⟩
  refine⟨_,rfl,_,rfl,(by show 2≤sizeLine;decide),fun n hn0=>?_⟩
  have sn:=Zh hn0 (.tup [.int u.2.1,.int (u.2.2.1:Int)])
  have nDn:D≠n:=Zb hD5 hn0
  refine⟨sn _ _ hD5,(by rw[Qb,hwl,sizeLine_eq];omega),⟨_,_,_,rfl⟩,⟨ws++[(n,u.2)],by rw[Qe];rfl,?_,fun x hx=>?_⟩,hil,Zc,fun b o hb=>?_⟩
  ·rw[QF,hz,Qe,Qe,hw];rfl
  ·rcases Qk.mp hx with hx|hx
   ·obtain⟨g1,g2,g3⟩:=hws x hx
    exact⟨g1,g2,by rw[Zd g1];exact sn _ _ g3⟩
   ·rw[Qi.mp hx]
    exact⟨nDn.symm,s4.free (s5.free hn0),by rw[Zd nDn.symm];exact Zc⟩
  ·rw[Zd (Zb hb hD)];exact sn _ _ (s5 b o hb)
 rintro zs σ H5 ⟨⟨v1,v2,v3,rfl⟩,⟨ws,rfl,hw,hws⟩,_,hD5,s5⟩
 rw[Qb,Qw (Qf _)]at hw
 exact q D ws _ k1 q1 H5 (by rw[hw];exact htk) (by have:=congrArg List.length hw;rw[Qb,Qb]at this;omega) hD5 (fun u hu=>(hws u hu).2.2) hDH (fun u hu=>(hws u hu).2.1) (s4.trans s5)
theorem Zm8(ss:List Str)(m:Nat)(h:m≤ss.length):ZdY (ss.map V.str) none (some (m:Int))=(ss.take m).map V.str∧ZdY (ss.map V.str) (some (m:Int)) none=(ss.drop m).map V.str:=by
 have e:∀d:Nat,HT.sIx (ss.map V.str).length d (some (m:Int))=m:=fun d=>by
  unfold HT.sIx
  simp only[List.length_map]
  rw[if_neg (by omega)]
  omega
 have e0:∀d:Nat,HT.sIx (ss.map V.str).length d none=d:=fun d=>rfl
 constructor
 ·unfold ZdY
  rw[e,e0,List.drop_zero,Nat.sub_zero,List.map_take]
 ·unfold ZdY
  rw[e,e0,← List.map_drop,← List.map_take,Qw (by rw[QP,Qb];omega)]
def Zii:Sp:=fun vs H Q _=>∃ (p:Addr) (c:Int),vs=[.ref p]∧Zak H p c∧c<2 ^ 30 ∧
 ∀ (r:Addr) (ts:List Str) (c':Int) (H':Hp),H r=none→H' r=some (.lst (ts.map V.str))→ts.length≤60→(∀s∈ts,s.length≤28∧AZ s)→Zak H' p c'→c≤c'→c'≤c+700→But p H H'→Q (.ref r) H'
theorem Zk6(T:Zau K mg cRow cMerge)(f_l_pick:Df P w K mg base 2 "_law_pick" ["_law_left_here", "_law_many"] Zda)(f_l_stems:Df P w K mg base 3 "_law_stems" ["_law_left_here"] Zhn)(f_l_key:Df P w K mg base 3 "_law_key" ["_law_left_here", "_law_stems_here"] ZlI):Df P w K mg base 4 "_law_things" ["_law_left_here"] Zii:=by
 refine T.t_l_things.df Zat (fun vs H Q E h=>?_) (fun cdv f A outer s H vs Q E hr h=>?_)
 ·obtain⟨p,c,rfl,_⟩:=h
  rfl
 obtain⟨p,c,rfl,hL,c1,q⟩:=h
 refine⟨_,#[Zf,#[Zu,1,Zat.nd,(Or.inl rfl),#[Zz,f_l_stems,hr,#[Za,‹0›,#[Ze]],(by rfl)]],#[Zf,#[Zu,2,Zat.nd,(Or.inl rfl),#[Zah,#[Za,#[Zz,f_l_pick,hr,#[Za,‹0›,#[Za,#[Zi],#[Ze]]],(by rfl)],#[Za,#[Zi],#[Za,#[Zi],#[Za,#[Zi],#[Za,#[Zi],#[Za,#[ZI,ZaD,#[Zi],#[Zz,f_l_pick,hr,#[Za,‹0›,#[Za,#[Zi],#[Ze]]],(by rfl)]],#[Za,#[ZI,ZaD,#[Zi],#[Zz,f_l_pick,hr,#[Za,‹0›,#[Za,#[Zi],#[Ze]]],(by rfl)]],#[Za,#[ZI,ZaD,#[Zi],#[Zz,f_l_pick,hr,#[Za,‹0›,#[Za,#[Zi],#[Ze]]],(by rfl)]],#[Ze]]]]]]]]]]],#[Zf,#[Zu,3,Zat.nd,(Or.inl rfl),#[Zah,#[Ze]]],#[Zf,#[Zcf,PassesOwn.never,#[Zbd,T.b.n_range,#[Za,#[ZA,(ixL K),‹2›,#[Zz,f_l_pick,hr,#[Za,‹0›,#[Za,#[Zi],#[Ze]]],(by rfl)]],#[Ze]]],#[ZN,4,Zat.nd],#[Zf,#[Zu,5,Zat.nd,(Or.inl rfl),#[Zz,f_l_key,hr,#[Za,‹0›,#[Za,‹1›,#[Ze]]],(by rfl)]],#[Zf,#[Zag,(@PW.pt _ _ _ #[ZeH,#[Zo,#[neD,K,hr],‹3›,#[Zah,#[Ze]],(Zt _)],(@Zd3 _ _ _ _ #[Zo,Zbj,#[Zz,f_l_pick,hr,#[Za,‹0›,#[Za,#[Zi],#[Ze]]],(by rfl)],#[Zi],(Zt _)])]),#[Zj,#[Zu,5,Zat.nd,(Or.inl rfl),#[ZA,(ixL K),‹3›,#[Zz,f_l_pick,hr,#[Za,‹0›,#[Za,#[Zk,(Zbn K),(by rfl),T.b.n_len,Qx,#[Za,‹3›,#[Ze]]],#[Ze]]],(by rfl)]]]],#[ZD]],#[Zj,#[Zam,#[ZbK,QA,QI,QJ,Zaj,‹3›,#[Za,‹5›,#[Ze]]]]]]]],#[Zf,#[Zu,6,Zat.nd,(Or.inl rfl),#[Zz,f_l_pick,hr,#[Za,‹0›,#[Za,#[Zi],#[Ze]]],(by rfl)]],#[Zf,#[Zu,7,Zat.nd,(Or.inl rfl),#[ZI,Zd4,#[Zk,(Zbn K),(by rfl),T.b.n_len,Qx,#[Za,‹3›,#[Ze]]],#[Zi]]],#[Zf,#[Zag,#[Zo,Zbj,‹6›,#[Zi],(Zt _)],#[Zj,#[Zp,#[Zk,(Zn0 K),(by rfl),T.b.n_sorted,boot_sorted,#[Za,‹3›,#[Ze]]]]],#[ZD]],#[Zf,#[Zag,#[Zo,Zbj,‹6›,#[Zi],(Zt _)],#[Zj,#[Zp,(@ZkE _ _ _ _ _ _ _ _ _ _ _ _ (Zsv K) #[Zk,(Zn0 K),(by rfl),T.b.n_sorted,boot_sorted,#[Za,‹3›,#[Ze]]] (@Zdl _) (@Zdl _) (@ZbN _ _ _ (@ZgD _ _ _ _ _ _ ZeG #[Zi])))]],#[ZD]],#[Zf,#[Zag,#[Zo,Zbj,‹6›,#[Zi],(Zt _)],#[Zj,#[Zp,#[ZI,Zpi,#[Zk,(Zn0 K),(by rfl),T.b.n_sorted,boot_sorted,#[Za,#[Zc4,(slL K),‹3›,(@Zdl _),(@ZbN _ _ _ ‹7›)],#[Ze]]],#[Zk,(Zn0 K),(by rfl),T.b.n_sorted,boot_sorted,#[Za,#[Zc4,(slL K),‹3›,(@ZbN _ _ _ ‹7›),(@Zdl _)],#[Ze]]]]]],#[ZD]],#[Zj,#[Zp,‹3›]]]]]]]]]]],?_⟩
 have c0:=hL.ge
 refine⟨_,rfl,p,c,rfl,hL,by omega,fun l ss c5 H5 hl0 hl5 n1 n4 h24 L5 a1 a2 B5=>?_⟩
 have npl:p≠l:=by
  obtain⟨o,ho⟩:=hL.here
  exact Zb ho hl0
 refine⟨_,rfl,p,c5,_,rfl,L5,by omega,by decide,by decide,fun d1 H6 d10 d11 L6 B6=>?_⟩
 refine⟨_,rfl,p,c5+1,_,rfl,L6,by omega,by decide,by decide,fun d2 H7 d20 d21 L7 B7=>⟨_,_,rfl,rfl,?_⟩⟩
 refine⟨_,rfl,p,c5+1+1,_,rfl,L7,by omega,by decide,by decide,fun d3 H8 d30 d31 L8 B8=>⟨_,_,rfl,rfl,?_⟩⟩
 refine⟨_,rfl,p,c5+1+1+1,_,rfl,L8,by omega,by decide,by decide,fun d4 H9 d40 d41 L9 B9=>⟨_,_,rfl,rfl,?_⟩⟩
 refine⟨(by show 8≤sizeLine;decide),fun m hm=>?_⟩
 have npm:p≠m:=by obtain⟨o,ho⟩:=L9.here;exact Zb ho hm
 have B59:But p H5 H9:=((B6.trans B7).trans B8).trans B9
 have hl9:=B59 l _ hl5 npl.symm
 have nlm:l≠m:=Zb hl9 hm
 refine⟨(by show 0≤sizeLine;decide),fun r hr0=>?_⟩
 have L10:Zak (upd H9 m (.lst (([d1,4,5,6,8,3+d2,7+d3,20+d4]:List Int).map V.int))) p (c5+1+1+1+1):=L9.new hm
 have hm10:(upd H9 m (.lst (([d1,4,5,6,8,3+d2,7+d3,20+d4]:List Int).map V.int))) m=some (.lst (([d1,4,5,6,8,3+d2,7+d3,20+d4]:List Int).map V.int)):=Zc
 have hl10:(upd H9 m (.lst (([d1,4,5,6,8,3+d2,7+d3,20+d4]:List Int).map V.int))) l=some (.lst (ss.map V.str)):=by rw[Zd nlm];exact hl9
 have B010:But p H (upd H9 m (.lst (([d1,4,5,6,8,3+d2,7+d3,20+d4]:List Int).map V.int))):=(B5.trans B59).trans (But.same (Zh hm _))
 change (upd H9 m (.lst (([d1,4,5,6,8,3+d2,7+d3,20+d4]:List Int).map V.int))) r=none at hr0
 have npr:p≠r:=by obtain⟨o,ho⟩:=L10.here;exact Zb ho hr0
 have nlr:l≠r:=Zb hl10 hr0
 have nmr:m≠r:=Zb hm10 hr0
 have hrn:H r=none:=Zb7 B010 npr hr0
 refine⟨_,rfl,_,rfl,p,c5+1+1+1+1,_,rfl,L10.new hr0,by omega,by decide,by decide,fun ix H11 ix0 ix1 L11 B11=>?_⟩
 have hm11:H11 m=some (.lst (([d1,4,5,6,8,3+d2,7+d3,20+d4]:List Int).map V.int)):=B11 m _ (by rw[Zd nmr];exact hm10) npm.symm
 obtain⟨many,hmm,hat⟩:=ZjX (ns:=[d1,4,5,6,8,3+d2,7+d3,20+d4]) ix0 ix1
 have hm1:0≤many∧many≤60:=by
  simp only[List.mem_cons,List.not_mem_nil,or_false]at hmm
  omega
 refine⟨m,_,_,_,rfl,rfl,SqL.of hm11,hat,_,rfl,by omega,by omega,?_⟩
 have hr11:H11 r=some (.lst (([]:List Str).map V.str)):=B11 r _ Zc npr.symm
 have hl11:H11 l=some (.lst (ss.map V.str)):=B11 l _ (by rw[Zd nlr];exact hl10) npl.symm
 have B011:But p H H11:=(B010.trans (But.same (Zh hr0 _))).trans B11
 refine Zcz (fun i σ H2=>∃ (ts:List Str) (v1 v2:Option V) (c2:Int),σ=[some (.ref p),some (.ref l),some (.ref m),some (.ref r),v1,v2,none,none]∧H2 r=some (.lst (ts.map V.str))∧H2 l=some (.lst (ss.map V.str))∧ts.length=i∧(∀s∈ts,s.length≤28∧AZ s)∧Zak H2 p c2∧c5+5≤c2∧c2≤c5+5+8*i∧(∀b o,H b=some o→b≠p→H2 b=some o)) ⟨[],none,none,c5+1+1+1+1+1,rfl,hr11,hl11,rfl,(fun s hs=>by cases hs),L11,by omega,by omega,B011⟩ ?_ ?_
 ·rintro i σ H2 hi ⟨ts,v1,v2,c2,rfl,hr2,hl2,hn,h28,L2,a1',a2',B2⟩
  have hi60:(i:Int)<61:=by omega
  refine⟨_,rfl,_,rfl,p,l,c2,ss,rfl,L2,by omega,hl2,n1,n4,h24,fun key c3 H3 hkey hkaz L3 a3 a4 B3=>?_⟩
  have hr3:=B3 r _ hr2 npr.symm
  have hl3:=B3 l _ hl2 npl.symm
  have fin:∀ (k2:Str) (c4:Int) (H4:Hp),k2.length≤28∧AZ k2→Zak H4 p c4→c2≤c4→c4≤c2+8→H4 r=some (.lst (ts.map V.str))→H4 l=some (.lst (ss.map V.str))→(∀b o,H b=some o→b≠p→H4 b=some o) →
    ∃ (ts':List Str) (v1 v2:Option V) (c5':Int),[some (V.ref p),some (V.ref l),some (V.ref m),some (V.ref r),some (V.int (0+(i:Int))),some (V.str k2),none,none]=[some (.ref p),some (.ref l),some (.ref m),some (.ref r),v1,v2,none,none] ∧
     (upd H4 r (.lst (ts.map V.str++[.str k2]))) r=some (.lst (ts'.map V.str))∧(upd H4 r (.lst (ts.map V.str++[.str k2]))) l=some (.lst (ss.map V.str))∧ts'.length=i+1∧(∀s∈ts',s.length≤28∧AZ s)∧Zak (upd H4 r (.lst (ts.map V.str++[.str k2]))) p c5'∧c5+5≤c5'∧c5'≤c5+5+8*((i+1:Nat):Int) ∧
     (∀b o,H b=some o→b≠p→(upd H4 r (.lst (ts.map V.str++[.str k2]))) b=some o):=fun k2 c4 H4 hk L4 b1 b2 hr4 hl4 B4=>by
   refine⟨ts++[k2],_,_,c4,rfl,?_,?_,by rw[Qg,hn];rfl,?_,L4.at npr,by omega,by omega,fun b o e n=>?_⟩
   ·rw[Zc,Qe];rfl
   ·rw[Zd nlr];exact hl4
   ·intro x hx
    rcases Qk.mp hx with hx|hx
    ·exact h28 x hx
    ·rw[Qi.mp hx];exact hk
   ·rw[Zd (Zb e hrn)]
    exact B4 b o e n
  have hlt:(ts.map V.str).length<sizeLine:=by rw[Qb,hn];exact ZH (by omega)
  refine⟨_,rfl,(by show 0≤sizeLine;decide),fun e he=>?_⟩
  have hr3':(upd H3 e (.lst [])) r=some (.lst (ts.map V.str)):=by rw[Zd (Zb hr3 he)];exact hr3
  have hl3':(upd H3 e (.lst [])) l=some (.lst (ss.map V.str)):=by rw[Zd (Zb hl3 he)];exact hl3
  refine⟨.list (ts.map PyData.str),.list [],.lst (SqL.of hr3') (Zkj ts),.lst (SqL.of Zc) .nil,ZhG ts (fun s h=>(h28 s h).2),(by ac_rfl),_,rfl,?_⟩
  have B3':∀b o,H b=some o→b≠p→(upd H3 e (.lst [])) b=some o:=fun b o z n=>Zh he _ b o (B3 b o (B2 b o z n) n)
  cases ts with
  | nil =>
   have ev:(if true=true then !PyData.eqv (.list (([]:List Str).map PyData.str)) (.list []) else PyData.eqv (.list (([]:List Str).map PyData.str)) (.list []))=false:=by ac_rfl
   rw[ev]
   refine ZbM (ZbM ?_)
   refine⟨_,rfl,.inl ⟨rfl,_,SqL.of hr3'⟩,_,rfl,r,_,_,rfl,rfl,hr3',hlt,?_⟩
   exact fin key c3 _ ⟨hkey,hkaz⟩ (L3.new he) (by omega) (by omega) hr3' hl3' B3'
  | cons t0 tr =>
   have ev:(if true=true then !PyData.eqv (.list ((t0::tr).map PyData.str)) (.list []) else PyData.eqv (.list ((t0::tr).map PyData.str)) (.list []))=true:=by simp[PyData.eqv,PyData.eqvAll]
   rw[ev]
   refine Zdj ⟨_,rfl,p,c3,_,rfl,L3.new he,by omega,by decide,by decide,fun d H5' d0 d1' L5' B5'=>?_⟩
   have hr5:=B5' r _ hr3' npr.symm
   have hl5':=B5' l _ hl3' npl.symm
   refine⟨rfl,_,rfl,Za9 (fun _=>?_) (fun _=>?_)⟩
   ·have hlen:((((t0::tr).map V.str).length:Nat):Int)=((t0::tr).length:Int):=by rw[Qb]
    have hpos:(0:Int)<((t0::tr).length:Int):=by simp
    refine⟨_,rfl,_,rfl,_,rfl,r,_,rfl,.inl (SqL.of hr5),p,c3+1,_,rfl,L5',by omega,by omega,by omega,fun d' H6' d0' d1'' L6' B6'=>?_⟩
    obtain⟨st,hs1,hs2⟩:=Zi0 (ss:=t0::tr) d0' (by omega)
    have hr6:=B6' r _ hr5 npr.symm
    refine⟨r,_,_,_,rfl,rfl,SqL.of hr6,hs2,?_⟩
    refine⟨_,rfl,.inl ⟨rfl,_,SqL.of hr6⟩,_,rfl,r,_,_,rfl,rfl,hr6,hlt,?_⟩
    exact fin st _ _ (h28 st hs1) L6' (by omega) (by omega) hr6 (B6' l _ hl5' npl.symm) fun b o z n=>B6' b o (B5' b o (B3' b o z n) n) n
   ·refine⟨_,rfl,.inl ⟨rfl,_,SqL.of hr5⟩,_,rfl,r,_,_,rfl,rfl,hr5,hlt,?_⟩
    exact fin key _ _ ⟨hkey,hkaz⟩ L5' (by omega) (by omega) hr5 hl5' fun b o z n=>B5' b o (B3' b o z n) n
 ·rintro σ H2 ⟨ts,v1,v2,c2,rfl,hr2,hl2,hn,h28,L2,a1',a2',B2⟩
  have hn60:ts.length≤60:=by omega
  refine⟨_,rfl,p,c2,_,rfl,L2,by omega,by decide,by decide,fun wy H3 w0 w1 L3 B3=>?_⟩
  have hr3:=B3 r _ hr2 npr.symm
  have B03:But p H H3:=fun b o h n=>B3 b o (B2 b o h n) n
  refine⟨_,rfl,r,_,rfl,.inl (SqL.of hr3),_,_,rfl,rfl,⟨by decide,by decide⟩,?_⟩
  refine⟨_,rfl,rfl,_,rfl,Za9 (fun _=>?_) (fun _=>?_)⟩
  ·refine⟨_,rfl,r,ts,rfl,SqL.of hr3,by omega,fun x rs hx perm srt=>?_⟩
   have npx:p≠x:=by obtain⟨o,ho⟩:=L3.here;exact Zb ho hx
   exact q x rs _ _ (Zb7 B03 npx hx) Zc (by rw[perm.length_eq];omega) (fun s hs=>h28 s (perm.mem_iff.mp hs)) (L3.new hx) (by omega) (by omega) (B03.trans (But.same (Zh hx _)))
  refine⟨_,rfl,rfl,_,rfl,Za9 (fun _=>?_) (fun _=>?_)⟩
  ·refine⟨_,rfl,r,ts,rfl,SqL.of hr3,by omega,fun x rs hx perm srt=>?_⟩
   refine⟨_,rfl,_,rfl,_,rfl,x,_,rfl,SqL.of Zc,by decide,fun y hy=>?_⟩
   have B04:=B03.trans (But.same (Zh hx (.lst (rs.map V.str))))
   have L4:Zak (upd H3 x (.lst (rs.map V.str))) p (c2+1):=L3.new hx
   have npy:p≠y:=by obtain⟨o,ho⟩:=L4.here;exact Zb ho hy
   exact q y rs.reverse _ _ (Zb7 B04 npy hy) (by rw[Zc,ZkX,List.map_reverse]) (by rw[List.length_reverse,perm.length_eq];omega) (fun s hs=>h28 s (perm.mem_iff.mp (QaY.mp hs))) (L4.new hy) (by omega) (by omega) (B04.trans (But.same (Zh hy _)))
  refine⟨_,rfl,rfl,_,rfl,Za9 (fun _=>?_) (fun _=>?_)⟩
  ·have hcut:((((ts.map V.str).length:Nat):Int) / 2)=((ts.length / 2:Nat):Int):=by rw[Qb];omega
   simp only[hcut]
   obtain⟨e1,e2⟩:=Zm8 ts (ts.length / 2) (by omega)
   refine⟨_,rfl,_,rfl,_,rfl,r,_,rfl,SqL.of hr3,fun y hy=>?_⟩
   rw[e1]
   refine⟨y,ts.take (ts.length / 2),rfl,SqL.of Zc,by rw[Qy];omega,fun x rs hx perm srt=>?_⟩
   have S5:Zw H3 (upd (upd H3 y (.lst ((ts.take (ts.length / 2)).map V.str))) x (.lst (rs.map V.str))):=(Zh hy _).trans (Zh hx _)
   have hx5:(upd (upd H3 y (.lst ((ts.take (ts.length / 2)).map V.str))) x (.lst (rs.map V.str))) x=some (.lst (rs.map V.str)):=Zc
   generalize upd (upd H3 y (.lst ((ts.take (ts.length / 2)).map V.str))) x (.lst (rs.map V.str))=H5x at S5 hx5 ⊢
   refine⟨_,rfl,_,rfl,_,rfl,r,_,rfl,SqL.of (S5 _ _ hr3),fun y2 hy2=>?_⟩
   rw[e2]
   refine⟨y2,ts.drop (ts.length / 2),rfl,SqL.of Zc,by rw[QP];omega,fun x2 rs2 hx2 perm2 srt2=>?_⟩
   have S6:Zw H5x (upd (upd H5x y2 (.lst ((ts.drop (ts.length / 2)).map V.str))) x2 (.lst (rs2.map V.str))):=(Zh hy2 _).trans (Zh hx2 _)
   have hx6:(upd (upd H5x y2 (.lst ((ts.drop (ts.length / 2)).map V.str))) x2 (.lst (rs2.map V.str))) x2=some (.lst (rs2.map V.str)):=Zc
   generalize upd (upd H5x y2 (.lst ((ts.drop (ts.length / 2)).map V.str))) x2 (.lst (rs2.map V.str))=H6x at S6 hx6 ⊢
   have l1:=perm.length_eq
   have l2:=perm2.length_eq
   rw[Qy]at l1
   rw[QP]at l2
   refine⟨x,x2,_,_,rfl,rfl,S6 _ _ hx5,hx6,(by rw[Qb,Qb];exact Zb5 (by omega)),fun z hz=>?_⟩
   have L6x:=(L3.same S5).same S6
   have npz:p≠z:=by obtain⟨o,ho⟩:=L6x.here;exact Zb ho hz
   have B06:But p H H6x:=B03.trans (But.same (S5.trans S6))
   refine q z (rs++rs2) _ _ (Zb7 B06 npz hz) (by rw[Zc,Qe]) (by rw[Qg];omega) (fun s hs=>?_) (L6x.new hz) (by omega) (by omega) (B06.trans (But.same (Zh hz _)))
   rcases Qk.mp hs with hs|hs
   ·exact h28 s (Qaz (perm.mem_iff.mp hs))
   ·exact h28 s (QaA (perm2.mem_iff.mp hs))
  ·exact⟨_,rfl,q r ts _ H3 hrn hr3 (by omega) h28 L3 (by omega) (by omega) B03⟩
theorem Rd.out{H:Hp}{ls:List Addr}{ds:List (List Int)}(h:Rd H ls ds){l:Addr}(hl:H l=none):l ∉ ls:=fun hm=>by
 obtain⟨i,hi⟩:=List.mem_iff_getElem?.mp hm
 obtain⟨d,_,hd⟩:=h.at hi
 rw[hl]at hd;cases hd
def ks(ss:List Str)(n:Int):Str×Int:=(ss.getD n.toNat "",n)
def ZeP(ss:List Str)(A:List Int)(n:Int):Prop:=n∈A∧∀m∈A,ZT (kk (ks ss m)) (kk (ks ss n))=false
theorem Zg9{e f:Str×Int}(h:kk e=kk f):e=f:=by
 obtain⟨a,b⟩:=e
 obtain⟨c,d⟩:=f
 unfold kk at h
 injection h with h1 h2
 injection h2 with h2 _
 have e1:a=c:=Sum.inr.inj h1
 have e2:b=d:=Sum.inl.inj h2
 rw[e1,e2]
theorem Zcq{ss:List Str}{A:List Int}{n m:Int}(h:ZeP ss A n)(g:ZeP ss A m):n=m:=by
 have:=Zg9 (Za8 _ _ (g.2 n h.1) (h.2 m g.1))
 exact congrArg Prod.snd this
def ltK(ss:List Str)(c n:Int):Prop:=cds (ss.getD c.toNat "")<cds (ss.getD n.toNat "")
inductive Res (ss:List Str):List Int→List Int→Nat→List Int→List (List Int)→List (List Int)→Prop where
 | stop0 {c:Nat} {done:List (List Int)}:Res ss [] [] c [] done done
 | stop {c:Nat} {g:Int} {gone:List Int} {done:List (List Int)}:Res ss [] [] c (g::gone) done (done++[g::gone])
 | switch {b:Int} {B:List Int} {c:Nat} {gone:List Int} {done R:List (List Int)}:Res ss (b::B) [] c [] (done++[gone]) R→Res ss [] (b::B) c gone done R
 | stepN {A B:List Int} {c:Nat} {gone:List Int} {done R:List (List Int)} {n:Int}:ZeP ss A n→¬ c<ss.length→Res ss (A.erase n) B c (gone++[n]) done R→Res ss A B c gone done R
 | stepA {A B:List Int} {c:Nat} {gone:List Int} {done R:List (List Int)} {n:Int}:ZeP ss A n→c<ss.length→¬ ltK ss c n→Res ss (A.erase n++[(c:Int)]) B (c+1) (gone++[n]) done R→Res ss A B c gone done R
 | stepB {A B:List Int} {c:Nat} {gone:List Int} {done R:List (List Int)} {n:Int}:ZeP ss A n→c<ss.length→ltK ss c n→Res ss (A.erase n) (B++[(c:Int)]) (c+1) (gone++[n]) done R→Res ss A B c gone done R
theorem ZP{ss:List Str}{n:Int}(h:ZeP ss [] n):False:=by cases h.1
theorem Zow{ss:List Str}{A B:List Int}{c:Nat}{gone:List Int}{done R:List (List Int)}(h:Res ss A B c gone done R):∀R',Res ss A B c gone done R'→R=R':=by
 induction h with
 | stop0=>intro R' g;cases g with
  | stop0=>rfl
  | stepN l _ _=>exact(ZP l).elim
  | stepA l _ _ _=>exact(ZP l).elim
  | stepB l _ _ _=>exact(ZP l).elim
 | stop=>intro R' g;cases g with
  | stop=>rfl
  | stepN l _ _=>exact(ZP l).elim
  | stepA l _ _ _=>exact(ZP l).elim
  | stepB l _ _ _=>exact(ZP l).elim
 | switch _ ih=>intro R' g;cases g with
  | switch g=>exact ih _ g
  | stepN l _ _=>exact(ZP l).elim
  | stepA l _ _ _=>exact(ZP l).elim
  | stepB l _ _ _=>exact(ZP l).elim
 | stepN l hc _ ih=>intro R' g;cases g with
  | stop0=>exact(ZP l).elim
  | stop=>exact(ZP l).elim
  | switch _=>exact(ZP l).elim
  | stepN l' _ g=>rw[Zcq l' l]at g;exact ih _ g
  | stepA _ h _ _=>exact absurd h hc
  | stepB _ h _ _=>exact absurd h hc
 | stepA l hc hn _ ih=>intro R' g;cases g with
  | stop0=>exact(ZP l).elim
  | stop=>exact(ZP l).elim
  | switch _=>exact(ZP l).elim
  | stepN _ h _=>exact absurd hc h
  | stepA l' _ _ g=>rw[Zcq l' l]at g;exact ih _ g
  | stepB l' _ h _=>rw[Zcq l' l]at h;exact absurd h hn
 | stepB l hc hn _ ih=>intro R' g;cases g with
  | stop0=>exact(ZP l).elim
  | stop=>exact(ZP l).elim
  | switch _=>exact(ZP l).elim
  | stepN _ h _=>exact absurd hc h
  | stepA l' _ h _=>rw[Zcq l' l]at h;exact absurd hn h
  | stepB l' _ _ g=>rw[Zcq l' l]at g;exact ih _ g
def kt(ss:List Str)(r:Int)(n:Int):List Key:=[.inl r,.inr (ss.getD n.toNat ""),.inl n]
def ZrE(ss:List Str)(r:Int)(A B:List Int):List (List Key):=A.map (kt ss r)++B.map (kt ss (r+1))
def Zi8:Sp:=fun vs H Q _=>∃ (p:Addr) (c:Int),vs=[.ref p]∧Zak H p c∧c<2 ^ 40∧∀ (v c':Int) (H':Hp),1≤v→v≤16→Zak H' p c'→c≤c'→c'≤c+2→But p H H'→Q (.int v) H'
theorem Zoh(T:Zau K mg cRow cMerge)(f_l_pick:Df P w K mg base 2 "_law_pick" ["_law_left_here", "_law_many"] Zda):Df P w K mg base 3 "_law_room" ["_law_left_here"] Zi8:=by
 refine T.t_l_room.df Zln (fun vs H Q E h=>?_) (fun cdv f A outer s H vs Q E hr h=>?_)
 ·obtain⟨p,c,rfl,_⟩:=h
  rfl
 obtain⟨p,c,rfl,hL,c1,q⟩:=h
 refine⟨_,#[Zj,#[Zp,#[ZA,(ixL K),#[Zah,#[Za,#[Zi],#[Za,#[Zi],#[Za,#[Zi],#[Za,#[Zi],#[Za,#[Zi],#[Za,#[Zi],#[Za,#[Zi],#[Za,#[ZI,ZaD,#[Zi],#[Zz,f_l_pick,hr,#[Za,‹0›,#[Za,#[Zi],#[Ze]]],(by rfl)]],#[Ze]]]]]]]]]],#[Zz,f_l_pick,hr,#[Za,‹0›,#[Za,#[Zi],#[Ze]]],(by rfl)]]]],?_⟩
 have c0:=hL.ge
 refine⟨_,rfl,p,c,_,rfl,hL,by omega,by decide,by decide,fun d H1 d0 d1 L1 B1=>⟨_,_,rfl,rfl,(by show 8≤sizeLine;decide),fun e he=>?_⟩⟩
 have npe:p≠e:=by obtain⟨o,ho⟩:=L1.here;exact Zb ho he
 refine⟨_,rfl,p,c+1,_,rfl,L1.new he,by omega,by decide,by decide,fun i H2 i0 i1 L2 B2=>?_⟩
 obtain⟨v,hv,hat⟩:=ZjX (ns:=[1,2,3,4,5,2,3,1+d]) i0 i1
 have he2:H2 e=some (.lst (([1,2,3,4,5,2,3,1+d]:List Int).map V.int)):=B2 e _ Zc npe.symm
 have hv1:1≤v∧v≤16:=by
  simp only[List.mem_cons,List.not_mem_nil,or_false]at hv
  omega
 exact⟨e,_,_,_,rfl,rfl,SqL.of he2,hat,q v _ _ hv1.1 hv1.2 L2 (by omega) (by omega) ((B1.trans (But.same (Zh he _))).trans B2)⟩
def spBehind:Sp:=fun vs H Q _=>∃ (r:Int) (x y:Str),vs=[.int r,.str x,.str y]∧x.length≤1000∧y.length≤1000∧(¬ cds y<cds x→Q (.int r) H)∧(cds y<cds x→Q (.int (r+1)) H)
def first(k:Nat):List Int:=Z2 0 k
def ZiY(K:PySem.W.Frag):Sp:=fun vs H Q _=>∃ (a:Addr) (ss:List Str) (room:Nat),vs=[.ref a,.int room]∧SqL K H a (ss.map V.str)∧ss.length≤60∧(∀s∈ss,s.length≤1000)∧room≤100 ∧
 ∀ (r:Addr) (ls:List Addr) (R:List (List Int)) (H':Hp),H r=none→H' r=some (.lst (ls.map V.ref))→r ∉ ls→(∀l∈ls,H l=none)→Rd H' ls R→Res ss (first (min room ss.length)) [] (min room ss.length) [] [] R→R.length≤100→(∀d∈R,d.length≤100)→Zw H H'→Q (.ref r) H'
theorem Zeq{k:Nat}{n:Int}(h:n∈first k):0≤n∧n<k:=by
 unfold first Z2 at h
 obtain⟨m,hm,rfl⟩:=QB.mp h
 have:=Qab.mp hm
 omega
theorem ZfS{ss:List Str}{n:Int}(h0:0≤n)(h:n<ss.length):atI (ss.map V.str) n=some (.str (ss.getD n.toNat "")):=by
 have hk:n.toNat<ss.length:=by omega
 have ek:n=((n.toNat:Nat):Int):=by omega
 have q:atI (ss.map V.str) ((n.toNat:Nat):Int)=some (.str ss[n.toNat]):=Z3 (by rw[Qj,Qa hk]<;>rfl)
 rw[← ek]at q
 rw[q,Qo,Qa hk];rfl
def Zq3(gone:List Int)(done:List (List Int)):List (List Int):=if gone=[] then done else done++[gone]
structure At (ss:List Str) (k:Nat) (H0 H:Hp) (ia ru:Addr) (ts:Zb1) (ls:List Addr) (A B:List Int) (c:Nat) (gone:List Int) (done:List (List Int)):Prop where
 ins:H ia=some (.lst (Zbo ts))
 att:AtT H ts
 per:(ts.map (·.2)).Perm (ZrE ss (done.length:Int) A B)
 run:H ru=some (.lst (ls.map V.ref))
 rd:Rd H ls (Zq3 gone done)
 rul:ru ∉ ls
 nd:ls.Nodup
 fr:∀l∈ls,H0 l=none
 ne:ia≠ru
 nil:ia ∉ ls
 sm:Zw H0 H
 i0:H0 ia=none
 r0:H0 ru=none
 hc:c≤ss.length
 mem:∀n∈A++B,0≤n∧n<c
 cnt:((Zq3 gone done).map List.length).sum+A.length+B.length+(ss.length-c)=ss.length
 nem:∀d∈done,d≠[]
 go:B≠[]→A=[]→gone≠[]
 res:∀R,Res ss A B c gone done R→Res ss (first k) [] k [] [] R
theorem Zdz(k:Nat):(first k).length=k:=ZaT 0 k
theorem Zew:∀D:List (List Int),(∀d∈D,d≠[])→D.length≤(D.map List.length).sum∧∀d∈D,d.length≤(D.map List.length).sum
 | [],_=>⟨Qf _,fun d h=>by cases h⟩
 | x::r,h=>by
  obtain⟨a,b⟩:=Zew r fun d hd=>h d (Qs _ hd)
  have hx:x.length≠0:=fun z=>h x (by simp) (Qad z)
  rw[Qh,QL,QE]
  refine⟨by omega,fun d hd=>?_⟩
  rcases QO.mp hd with rfl|hd
  ·omega
  ·have:=b d hd;omega
theorem Zj6(A:List Int):(if true=true then !PyData.eqv (.list (A.map PyData.int)) (.list []) else PyData.eqv (.list (A.map PyData.int)) (.list [])) = !A.isEmpty:=by
 cases A with
 | nil=>ac_rfl
 | cons t r=>simp[PyData.eqv,PyData.eqvAll]
theorem ZiS{ss:List Str}{A:List Int}{ts:Zb1}(hE:ts.map (·.2)=A.map (fun m=>kk (ks ss m))){t:Addr×List Key}(ht:t∈ts)(hm:∀u∈ts,ZT u.2 t.2=false):∃n,t.2=kk (ks ss n)∧ZeP ss A n:=by
 have:t.2∈A.map (fun m=>kk (ks ss m)):=by rw[← hE];exact Qn ht
 obtain⟨n,hn,h2⟩:=QB.mp this
 refine⟨n,h2.symm,hn,fun u hu=>?_⟩
 have:kk (ks ss u)∈ts.map (·.2):=by rw[hE];exact Qn (f:=fun m=>kk (ks ss m)) hu
 obtain⟨t',ht',e'⟩:=QB.mp this
 rw[← e',h2];exact hm t' ht'
structure In (ss:List Str) (k:Nat) (H0 H:Hp) (h1 la go fo:Addr) (ls:List Addr) (A B:List Int) (c:Nat) (gone:List Int) (done:List (List Int)):Prop where
 hA:H h1=some (.lst (A.map V.int))
 hB:H la=some (.lst (B.map V.int))
 hG:H go=some (.lst (gone.map V.int))
 hF:H fo=some (.lst (ls.map V.ref))
 rd:Rd H ls done
 d1:h1≠la
 d2:h1≠go
 d3:la≠go
 e1:h1≠fo
 e2:la≠fo
 e3:go≠fo
 l0:fo ∉ ls
 l1:h1 ∉ ls
 l2:la ∉ ls
 l3:go ∉ ls
 f0:H0 fo=none
 f1:H0 h1=none
 f2:H0 la=none
 f3:H0 go=none
 fl:∀l∈ls,H0 l=none
 sm:Zw H0 H
 hc:c≤ss.length
 mem:∀n∈A++B,0≤n∧n<c
 cnt:(done.map List.length).sum+gone.length+A.length+B.length+(ss.length-c)=ss.length
 nem:∀d∈done,d≠[]
 go':A≠[]∨gone≠[]
 res:∀R,Res ss A B c gone done R→Res ss (first k) [] k [] [] R
theorem In.mono{ss:List Str}{k:Nat}{H0 H H':Hp}{h1 la go fo:Addr}{ls:List Addr}{A B:List Int}{c:Nat}{gone:List Int}{done:List (List Int)}(h:In ss k H0 H h1 la go fo ls A B c gone done)(s:Zw H H'):In ss k H0 H' h1 la go fo ls A B c gone done :=
 ⟨s _ _ h.hA,s _ _ h.hB,s _ _ h.hG,s _ _ h.hF,Rd.mono (fun l _ u hu=>s _ _ hu) h.rd,h.d1,h.d2,h.d3,h.e1,h.e2,h.e3,h.l0,h.l1,h.l2,h.l3,h.f0,h.f1,h.f2,h.f3,h.fl,h.sm.trans s,h.hc,h.mem,h.cnt,h.nem,h.go',h.res⟩
structure Out (ss:List Str) (k:Nat) (H0 H:Hp) (h1 fo:Addr) (ls:List Addr) (A:List Int) (c:Nat) (done:List (List Int)):Prop where
 hA:H h1=some (.lst (A.map V.int))
 hF:H fo=some (.lst (ls.map V.ref))
 rd:Rd H ls done
 e1:h1≠fo
 l0:fo ∉ ls
 l1:h1 ∉ ls
 f0:H0 fo=none
 f1:H0 h1=none
 fl:∀l∈ls,H0 l=none
 sm:Zw H0 H
 hc:c≤ss.length
 mem:∀n∈A,0≤n∧n<c
 cnt:(done.map List.length).sum+A.length+(ss.length-c)=ss.length
 nem:∀d∈done,d≠[]
 res:∀R,Res ss A [] c [] done R→Res ss (first k) [] k [] [] R
theorem Out.mono{ss:List Str}{k:Nat}{H0 H H':Hp}{h1 fo:Addr}{ls:List Addr}{A:List Int}{c:Nat}{done:List (List Int)}(h:Out ss k H0 H h1 fo ls A c done)(s:Zw H H'):Out ss k H0 H' h1 fo ls A c done :=
 ⟨s _ _ h.hA,s _ _ h.hF,Rd.mono (fun l _ u hu=>s _ _ hu) h.rd,h.e1,h.l0,h.l1,h.f0,h.f1,h.fl,h.sm.trans s,h.hc,h.mem,h.cnt,h.nem,h.res⟩
theorem Out.inn{ss:List Str}{k:Nat}{H0 H:Hp}{h1 fo la go:Addr}{ls:List Addr}{A:List Int}{c:Nat}{done:List (List Int)}(h:Out ss k H0 H h1 fo ls A c done)(hA:A≠[])(hla:H la=none)(hgo:(upd H la (.lst [])) go=none):In ss k H0 (upd (upd H la (.lst [])) go (.lst [])) h1 la go fo ls A [] c [] done:=by
 have s1:=Zh hla (.lst [])
 have s2:=s1.trans (Zh hgo (.lst []))
 have m:=h.mono s2
 have gN:H go=none:=s1.free hgo
 have ngl:la≠go:=Zb (o:=.lst []) Zc hgo
 exact⟨m.hA,Zh hgo _ _ _ Zc,Zc,m.hF,m.rd,Zb h.hA hla,Zb h.hA gN,ngl,h.e1,(Zb h.hF hla).symm,(Zb h.hF gN).symm,h.l0,h.l1,h.rd.out hla,h.rd.out gN,h.f0,h.f1,h.sm.free hla,h.sm.free gN,h.fl,m.sm,h.hc,(by rw[Qag];exact h.mem),(by have:=h.cnt;simp only[List.length_nil];omega),h.nem,.inl hA,h.res⟩
theorem In.out{ss:List Str}{k:Nat}{H0 H:Hp}{h1 la go fo:Addr}{ls:List Addr}{B:List Int}{c:Nat}{gone:List Int}{done:List (List Int)}(h:In ss k H0 H h1 la go fo ls [] B c gone done):Out ss k H0 (upd H fo (.lst ((ls++[go]).map V.ref))) la fo (ls++[go]) B c (done++[gone]):=by
 have hg:gone≠[]:=h.go'.resolve_left (fun z=>z rfl)
 refine⟨by rw[Zd h.e2];exact h.hB,Zc,?_,h.e2,?_,?_,h.f0,h.f2,?_,?_,h.hc,h.mem,?_,?_,?_⟩
 ·refine Rd.app (Rd.mono (fun l hl' u hu=>?_) h.rd) ⟨?_,trivial⟩
  ·rw[Zd (fun z:l=fo=>h.l0 (z ▸ hl'))];exact hu
  ·rw[Zd h.e3];exact h.hG
 ·intro z
  rcases Qk.mp z with z|z
  ·exact h.l0 z
  ·exact h.e3 (Qi.mp z).symm
 ·intro z
  rcases Qk.mp z with z|z
  ·exact h.l2 z
  ·exact h.d3 (Qi.mp z)
 ·intro l hl'
  rcases Qk.mp hl' with hl'|hl'
  ·exact h.fl l hl'
  ·rw[Qi.mp hl'];exact h.f3
 ·intro b o hb;rw[Zd (Zb hb h.f0)];exact h.sm b o hb
 ·have:=h.cnt;rw[Qe,Qah];simp only[List.map_cons,List.map_nil,List.sum_cons,List.sum_nil,List.length_nil]at this ⊢;omega
 ·intro d hd
  rcases Qk.mp hd with hd|hd
  ·exact h.nem d hd
  ·rw[Qi.mp hd];exact hg
 ·intro R hR
  refine h.res R ?_
  cases B with
  | cons b B=>exact .switch hR
  | nil =>
   cases gone with
   | nil=>exact absurd rfl hg
   | cons g gr =>
    have:R=done++[g::gr]:=(Zow (R:=done++[g::gr]) .stop0 R hR).symm
    rw[this];exact .stop
theorem Zpz{c:Prop}[Decidable c]{x y:V}(h:c):atI [x,y] (if decide c=true then 1 else 0)=some y:=by rw[if_pos (decide_eq_true h)];rfl
theorem Zoe{c:Prop}[Decidable c]{x y:V}(h:¬ c):atI [x,y] (if decide c=true then 1 else 0)=some x:=by rw[if_neg (fun z=>h (of_decide_eq_true z))];rfl
theorem In.step{ss:List Str}{k:Nat}{H0 H:Hp}{h1 la go fo:Addr}{ls:List Addr}{A B:List Int}{c:Nat}{gone:List Int}{done:List (List Int)}(h:In ss k H0 H h1 la go fo ls A B c gone done){H':Hp}{A1 B1:List Int}{c1:Nat}{n:Int}(hA:H' h1=some (.lst (A1.map V.int)))(hB:H' la=some (.lst (B1.map V.int)))(hG:H' go=some (.lst ((gone++[n]).map V.int)))(kp:∀x o,x≠h1→x≠la→x≠go→H x=some o→H' x=some o)(hc:c1≤ss.length)(mem:∀m∈A1++B1,0≤m∧m<c1)(cnt:A1.length+B1.length+(ss.length-c1)+1=A.length+B.length+(ss.length-c))(res:∀R,Res ss A1 B1 c1 (gone++[n]) done R→Res ss A B c gone done R):In ss k H0 H' h1 la go fo ls A1 B1 c1 (gone++[n]) done :=
 ⟨hA,hB,hG,kp _ _ h.e1.symm h.e2.symm h.e3.symm h.hF,Rd.mono (fun l hl u hu=>kp _ _ (fun z=>h.l1 (z ▸ hl)) (fun z=>h.l2 (z ▸ hl)) (fun z=>h.l3 (z ▸ hl)) hu) h.rd,h.d1,h.d2,h.d3,h.e1,h.e2,h.e3,h.l0,h.l1,h.l2,h.l3,h.f0,h.f1,h.f2,h.f3,h.fl,fun b o hb=>kp _ _ (Zb hb h.f1) (Zb hb h.f2) (Zb hb h.f3) (h.sm b o hb),hc,mem,(by rw[Qg,Ql];have:=h.cnt;omega),h.nem,.inr (by simp),fun R hR=>h.res R (res R hR)⟩
theorem ZoJ(T:Zau K mg cRow cMerge):Df P w K mg base 1 "_law_rounds_due" ["_law_things_here", "_law_room_here"] (ZiY K):=by
 refine T.t_l_rounds_due.df Z0 (fun vs H Q E h=>?_) (fun cdv f A outer s H vs Q E hr h=>?_)
 ·obtain⟨a,ss,room,rfl,_⟩:=h
  rfl
 obtain⟨a,ss,room,rfl,hS,h60,hlen,hroom,q⟩:=h
 refine⟨_,#[Zf,#[Zu,2,Z0.nd,(Or.inl rfl),#[ZQ,ZlG,(by rfl),T.b.n_list,boot_list,#[Za,#[ZQ,ZqQ,(by rfl),T.b.n_range,boot_range,#[Za,#[Zk,(Zdx rfl),(by rfl),T.b.n_min,boot_min,#[Za,‹1›,#[Za,#[Zk,(Zbn K),(by rfl),T.b.n_len,Qx,#[Za,#[pv,0,(Or.inr (Or.inl rfl))],#[Ze]]],#[Ze]]]],#[Ze]]],#[Ze]]]],#[Zf,#[Zu,3,Z0.nd,(Or.inl rfl),#[Zk,(Zbn K),(by rfl),T.b.n_len,Qx,#[Za,‹2›,#[Ze]]]],#[Zf,#[Zu,4,Z0.nd,(Or.inl rfl),#[Zah,#[Ze]]],#[Zf,(@Zcu _ _ _ _ _ _ PassesOwn.never #[Zo,#[neD,K,hr],‹2›,#[Zah,#[Ze]],(Zt _)] #[Zf,(@Zp7 _ _ 5 6 _ _ _ _ _ _ _ _ _ _ _ rfl Z0.nd rfl rfl (by decide) rfl rfl #[Za,#[Zah,#[Ze]],#[Za,#[Zah,#[Ze]],#[Ze]]] rfl (by rfl)),#[Zf,(@Zcu _ _ _ _ _ _ PassesOwn.never #[Zo,#[neD,K,hr],‹2›,#[Zah,#[Ze]],(Zt _)] #[Zf,#[Zu,7,Z0.nd,(Or.inl rfl),#[ZA,(ixT K),#[Zk,(ZqR K hr),(by rfl),T.b.n_min,boot_min,#[Za,#[ZaE,ZlF,#[iL,K,‹2›],(fun _ _ _ _=>#[cg,8,ZlF]),(fun _ _ _ _=>(@Zao _)),(fun _ _ _ _=>#[Za1,#[Za,#[ZA,(ixL K),#[cv,0,ZlF],#[cw,8,ZlF]],#[Za,#[cw,8,ZlF],#[Ze]]]])],#[Ze]]],#[Zi]]],#[Zf,#[Zam,#[ZbK,QA,PySem.F.slot_list_remove,PySem.F.type_list_remove,(Zsk hr),‹2›,#[Za,‹7›,#[Ze]]]],#[Zf,#[Zam,#[ZbK,QA,QI,QJ,Zaj,‹6›,#[Za,‹7›,#[Ze]]]],#[Zj,#[Zag,#[Zo,ZeT,‹3›,#[Zk,(Zbn K),(by rfl),T.b.n_len,Qx,#[Za,#[pv,0,(Or.inr (Or.inl rfl))],#[Ze]]],(Zt _)],#[Zf,#[Zam,#[ZbK,QA,QI,QJ,Zaj,#[ZA,(ixL K),#[Zah,#[Za,‹2›,#[Za,‹5›,#[Ze]]]],#[ZQ,ZgK,(by rfl),T.b.n_int,boot_int,#[Za,#[ZcF,Zgh,#[ZA,(ixL K),#[pv,0,(Or.inr (Or.inl rfl))],‹3›],#[ZA,(ixL K),#[pv,0,(Or.inr (Or.inl rfl))],‹7›]],#[Ze]]]],#[Za,‹3›,#[Ze]]]],#[Zj,#[Zu,3,Z0.nd,(Or.inl rfl),#[ZI,ZaD,‹3›,#[Zi]]]]],#[ZD]]]]]]),#[Zf,#[Zam,#[ZbK,QA,QI,QJ,Zaj,‹4›,#[Za,‹6›,#[Ze]]]],#[Zj,#[Zu,2,Z0.nd,(Or.inl rfl),‹5›]]]]]),#[Zj,#[Zp,‹4›]]]]]],?_⟩
 have hl:(((ss.map V.str).length:Nat):Int)=(ss.length:Int):=by rw[Qb]
 have hmin:(if (((ss.map V.str).length:Nat):Int)<(room:Int) then (((ss.map V.str).length:Nat):Int) else (room:Int))=((min room ss.length:Nat):Int):=by split<;>omega
 refine⟨_,rfl,_,rfl,a,_,rfl,.inl hS,_,_,rfl,?_⟩
 simp only[hmin]
 refine⟨_,rfl,fun rg hrg=>⟨rg,0,_,rfl,Zc,by omega,by omega,by omega,by omega,by omega,fun h0 hh0=>?_⟩⟩
 rw[show ((((min room ss.length:Nat):Int)-0).toNat)=min room ss.length by omega]
 have s1:Zw H (upd (upd H rg (.rng 0 ((min room ss.length:Nat):Int))) h0 (.lst ((first (min room ss.length)).map V.int))):=(Zh hrg _).trans (Zh hh0 _)
 have hA1:(upd (upd H rg (.rng 0 ((min room ss.length:Nat):Int))) h0 (.lst ((first (min room ss.length)).map V.int))) h0=some (.lst ((first (min room ss.length)).map V.int)):=Zc
 have f0h:H h0=none:=(Zh hrg (.rng 0 ((min room ss.length:Nat):Int))).free hh0
 rw[show Z2 0 (min room ss.length)=first (min room ss.length) from rfl]
 generalize upd (upd H rg (.rng 0 ((min room ss.length:Nat):Int))) h0 (.lst ((first (min room ss.length)).map V.int))=H1 at s1 hA1 ⊢
 have hfl:(((first (min room ss.length)).map V.int).length:Int)=((min room ss.length:Nat):Int):=by rw[Qb,Zdz]
 refine⟨_,rfl,h0,_,rfl,.inl (SqL.of hA1),?_⟩
 simp only[hfl]
 refine⟨(by show 0≤sizeLine;decide),fun fo hfo=>?_⟩
 have nhf:h0≠fo:=Zb hA1 hfo
 have out0:Out ss (min room ss.length) H (upd H1 fo (.lst [])) h0 fo [] (first (min room ss.length)) (min room ss.length) []:=⟨Zh hfo _ _ _ hA1,Zc,trivial,nhf,(fun h=>by cases h),(fun h=>by cases h),s1.free hfo,f0h,(fun l h=>by cases h),s1.trans (Zh hfo _),by omega,fun n hn=>Zeq hn,by rw[Zdz];simp;omega,(fun d h=>by cases h),fun R h=>h⟩
 generalize upd H1 fo (.lst [])=H3 at out0 ⊢
 refine⟨fun m σ H4=>∃ (h1:Addr) (ls:List Addr) (A:List Int) (c:Nat) (done:List (List Int)) (v5 v6 v7:Option V),σ=[some (.ref a),some (.int room),some (.ref h1),some (.int c),some (.ref fo),v5,v6,v7]∧Out ss (min room ss.length) H H4 h1 fo ls A c done∧m=A.length+(ss.length-c),⟨_,h0,[],first (min room ss.length),min room ss.length,[],none,none,none,rfl,out0,rfl⟩,?_⟩
 rintro m σ H4 ⟨h1,ls,A,c,done,v5,v6,v7,rfl,hO,rfl⟩
 refine⟨_,rfl,(by show 0≤sizeLine;decide),fun e he=>?_⟩
 have hO2:=hO.mono (Zh he (.lst []))
 refine⟨.list (A.map PyData.int),.list [],.lst (SqL.of hO2.hA) (Zdn A),.lst (SqL.of Zc) .nil,Zbf A,Zbf [],_,rfl,?_⟩
 rw[Zj6]
 generalize upd H4 e (.lst [])=H5 at hO2 ⊢
 refine Za9 (fun d=>?_) (fun d=>?_)
 ·have hAne:A≠[]:=by intro z;rw[z]at d;cases d
  refine⟨_,fun σ' H' h=>h,?_⟩
  refine⟨(by show 0≤sizeLine;decide),fun la hla=>⟨(by show 0≤sizeLine;decide),fun go hgo=>⟨_,_,rfl,?_⟩⟩⟩
  have in0:=hO2.inn hAne hla hgo
  generalize upd (upd H5 la (.lst [])) go (.lst [])=H6 at in0 ⊢
  refine⟨fun m σ H7=>∃ (A' B:List Int) (c':Nat) (gone:List Int) (v7:Option V),σ=[some (.ref a),some (.int room),some (.ref h1),some (.int c'),some (.ref fo),some (.ref la),some (.ref go),v7]∧In ss (min room ss.length) H H7 h1 la go fo ls A' B c' gone done∧m=A'.length+(ss.length-c'),⟨_,A,[],c,[],_,rfl,in0,rfl⟩,?_⟩
  rintro m σ H7 ⟨A',B,c',gone,w7,rfl,hI,rfl⟩
  refine⟨_,rfl,(by show 0≤sizeLine;decide),fun e2 he2=>?_⟩
  have hI2:=hI.mono (Zh he2 (.lst []))
  refine⟨.list (A'.map PyData.int),.list [],.lst (SqL.of hI2.hA) (Zdn A'),.lst (SqL.of Zc) .nil,Zbf A',Zbf [],_,rfl,?_⟩
  rw[Zj6]
  generalize upd H7 e2 (.lst [])=H8 at hI2 ⊢
  refine Za9 (fun d2=>?_) (fun d2=>?_)
  ·have hAne2:A'≠[]:=by intro z;rw[z]at d2;cases d2
   refine⟨_,fun σ' H' h=>h,?_⟩
   have hcntI:=hI2.cnt
   have hcl:=hI2.hc
   have hlA:A'.length≤60:=by omega
   refine⟨_,rfl,h1,rfl,⟨_,SqL.of hI2.hA⟩,fun D hD=>?_⟩
   refine ZaX (K:=K) (a:=h1) (xs:=A'.map V.int) (fun i zs σ H9=>(∃v8:Option V,σ=[some (.ref a),some (.int room),some (.ref h1),some (.int c'),some (.ref fo),some (.ref la),some (.ref go),w7,v8])∧(∃ts:Zb1,zs=Zbo ts∧AtT H9 ts∧ts.length=i∧ts.map (·.2)=(A'.take i).map (fun m=>kk (ks ss m)))∧i≤A'.length∧H9 D=some (.lst zs)∧Zw H8 H9) ?_ (fun _ _ _ _ h=>SqL.of (h.2.2.2.2 _ _ hI2.hA)) ?_ ?_
   ·exact⟨⟨none,rfl⟩,⟨[],rfl,(fun t h=>by cases h),rfl,rfl⟩,Qq _,Zc,Zh hD _⟩
   ·rintro i x zs σ H9 hx ⟨⟨v8,rfl⟩,⟨ts,rfl,hat,htl,hE⟩,hi',hD9,s9⟩
    rw[Qj]at hx
    cases hz:A'[i]? with
    | none=>rw[hz]at hx;cases hx
    | some m =>
     rw[hz]at hx
     cases hx
     have hil:i<A'.length:=(Qd.mp hz).1
     have hm:=hI2.mem m (QD _ (Qp hz))
     have hkey:=ZfS (ss:=ss) (n:=m) hm.1 (by omega)
     refine⟨_,rfl,_,rfl,a,_,_,_,rfl,rfl,(hI2.sm.trans s9).seq hS,hkey,_,rfl,(by show 2≤sizeLine;decide),fun n hn0=>?_⟩
     have sn:=Zh hn0 (.tup [.str (ss.getD m.toNat ""),.int m])
     have hD10:=sn _ _ hD9
     have nDn:D≠n:=Zb hD9 hn0
     refine⟨hD10,(by unfold Zbo;rw[Qb,htl];exact ZH (by omega)),⟨_,rfl⟩,⟨ts++[(n,kk (ks ss m))],by unfold Zbo;rw[Qe];rfl,fun t ht=>?_,by rw[Qg,Ql];omega,?_⟩,by omega,Zc,fun b o hb=>?_⟩
     ·rcases Qk.mp ht with ht|ht
      ·exact Zei hD10 _ _ _ (sn _ _ (hat t ht))
      ·rw[Qi.mp ht,Zd nDn.symm];exact Zc
     ·rw[Qe,hE,QF,hz,Qe];rfl
     ·rw[Zd (Zb hb hD)];exact sn _ _ (s9 b o hb)
   rintro zs σ H9 ⟨⟨v8,rfl⟩,⟨ts,rfl,hat,htl,hE⟩,_,hD9,s9⟩
   rw[Qb,List.take_length]at hE
   rw[Qb]at htl
   have hApos:0<A'.length:=List.length_pos_iff.mpr hAne2
   have hsh:∀t∈ts,shape t.2=[false,true]:=fun t ht=>by
    have:t.2∈A'.map (fun m=>kk (ks ss m)):=by rw[← hE];exact Qn (f:=fun t:Addr×List Key=>t.2) ht
    obtain⟨m,_,e⟩:=QB.mp this
    rw[← e];rfl
   refine⟨D,ts,[false,true],rfl,SqL.of hD9,hat,(fun z=>by rw[z]at htl;simp only[List.length_nil]at htl;omega),hsh,fun t ht hmn=>?_⟩
   obtain⟨n,et,hleast⟩:=ZiS hE ht hmn
   have hnA:=hleast.1
   have hn:=hI2.mem n (QD _ hnA)
   have ttup:=hat t ht
   rw[et]at ttup
   have hI3:=hI2.mono s9
   refine⟨t.1,_,_,V.int n,rfl,rfl,SqT.of ttup,rfl,?_⟩
   refine⟨_,rfl,ZfN hI3.hA,_,rfl,h1,A',n,rfl,rfl,hI3.hA,hnA,by omega,?_⟩
   have hG10:(upd H9 h1 (.lst ((A'.erase n).map V.int))) go=some (.lst (gone.map V.int)):=by rw[Zd hI3.d2.symm];exact hI3.hG
   refine⟨_,rfl,ZfN hG10,_,rfl,go,_,_,rfl,rfl,hG10,(by rw[Qb];exact ZH (by omega)),?_⟩
   have hel:(A'.erase n).length+1=A'.length:=by
    have:=Qap hnA
    omega
   have hA11:(upd (upd H9 h1 (.lst ((A'.erase n).map V.int))) go (.lst (gone.map V.int++[.int n]))) h1=some (.lst ((A'.erase n).map V.int)):=by rw[Zd hI3.d2];exact Zc
   have hB11:(upd (upd H9 h1 (.lst ((A'.erase n).map V.int))) go (.lst (gone.map V.int++[.int n]))) la=some (.lst (B.map V.int)):=by rw[Zd hI3.d3,Zd hI3.d1.symm];exact hI3.hB
   have hG11:(upd (upd H9 h1 (.lst ((A'.erase n).map V.int))) go (.lst (gone.map V.int++[.int n]))) go=some (.lst ((gone++[n]).map V.int)):=by rw[Zc,Qe];rfl
   have kp11:∀x o,x≠h1→x≠la→x≠go→H9 x=some o→(upd (upd H9 h1 (.lst ((A'.erase n).map V.int))) go (.lst (gone.map V.int++[.int n]))) x=some o:=fun x o n1 _ n3 hx=>by rw[Zd n3,Zd n1];exact hx
   generalize upd (upd H9 h1 (.lst ((A'.erase n).map V.int))) go (.lst (gone.map V.int++[.int n]))=H11 at hA11 hB11 hG11 kp11 ⊢
   have sm11:Zw H H11:=fun b o hb=>kp11 _ _ (Zb hb hI3.f1) (Zb hb hI3.f2) (Zb hb hI3.f3) (hI3.sm b o hb)
   refine⟨_,rfl,_,rfl,a,_,rfl,.inl (sm11.seq hS),_,_,rfl,rfl,_,rfl,Za9 (fun d3=>?_) (fun d3=>?_)⟩
   ·have hcN:c'<ss.length:=by have:=of_decide_eq_true d3;omega
    have hkc:atI (ss.map V.str) (c':Int)=some (.str (ss.getD (c':Int).toNat "")):=ZfS (by omega) (by omega)
    have hkn:atI (ss.map V.str) n=some (.str (ss.getD n.toNat "")):=ZfS (by omega) (by omega)
    have hcc:((c':Int)+1)=((c'+1:Nat):Int):=by omega
    refine⟨_,rfl,_,rfl,(by show 2≤sizeLine;decide),fun e3 he3=>?_⟩
    have s12:=Zh he3 (.lst [.ref h1,.ref la])
    have ne1:h1≠e3:=Zb hA11 he3
    have ne2:la≠e3:=Zb hB11 he3
    have hS12:=(sm11.trans s12).seq hS
    have hE12:(upd H11 e3 (.lst [.ref h1,.ref la])) e3=some (.lst [.ref h1,.ref la]):=Zc
    have hA12:=s12 _ _ hA11
    have hB12:=s12 _ _ hB11
    have hG12:=s12 _ _ hG11
    have kp12:∀x o,x≠h1→x≠la→x≠go→H9 x=some o→(upd H11 e3 (.lst [.ref h1,.ref la])) x=some o:=fun x o n1 n2 n3 hx=>s12 _ _ (kp11 x o n1 n2 n3 hx)
    generalize upd H11 e3 (.lst [.ref h1,.ref la])=H12 at hS12 hE12 hA12 hB12 hG12 kp12 ⊢
    refine⟨_,rfl,_,rfl,a,_,_,_,rfl,rfl,hS12,hkc,_,rfl,_,rfl,a,_,_,_,rfl,rfl,hS12,hkn,_,_,rfl,rfl,.inr ⟨_,rfl,?_⟩⟩
    by_cases hlt:ltK ss c' n
    ·refine⟨e3,_,_,V.ref la,rfl,rfl,SqL.of hE12,Zpz hlt,ZfN hB12,_,rfl,la,_,_,rfl,rfl,hB12,(by rw[Qb];exact ZH (by omega)),?_⟩
     refine⟨_,rfl,_,_,rfl,rfl,?_⟩
     simp only[hcc]
     refine⟨_,by omega,A'.erase n,B++[(c':Int)],c'+1,gone++[n],_,rfl,hI3.step (by rw[Zd hI3.d1];exact hA12) (by rw[Zc,Qe];rfl) (by rw[Zd hI3.d3.symm];exact hG12) (fun x o n1 n2 n3 hx=>by rw[Zd n2];exact kp12 x o n1 n2 n3 hx) hcN (fun m hm=>?_) (by rw[Qg,Ql];omega) (fun R hR=>.stepB hleast hcN hlt hR),rfl⟩
     have:m∈A'++B∨m=(c':Int):=by
      simp only[List.mem_append,List.mem_singleton]at hm ⊢
      rcases hm with hm|hm|hm
      ·exact .inl (.inl (QR hm))
      ·exact .inl (.inr hm)
      ·exact .inr hm
     rcases this with h|h
     ·have:=hI3.mem m h;omega
     ·omega
    ·refine⟨e3,_,_,V.ref h1,rfl,rfl,SqL.of hE12,Zoe hlt,ZfN hA12,_,rfl,h1,_,_,rfl,rfl,hA12,(by rw[Qb];exact ZH (by omega)),?_⟩
     refine⟨_,rfl,_,_,rfl,rfl,?_⟩
     simp only[hcc]
     refine⟨_,by rw[Qg,Ql];omega,A'.erase n++[(c':Int)],B,c'+1,gone++[n],_,rfl,hI3.step (by rw[Zc,Qe];rfl) (by rw[Zd hI3.d1.symm];exact hB12) (by rw[Zd hI3.d2.symm];exact hG12) (fun x o n1 n2 n3 hx=>by rw[Zd n1];exact kp12 x o n1 n2 n3 hx) hcN (fun m hm=>?_) (by rw[Qg,Ql];omega) (fun R hR=>.stepA hleast hcN hlt hR),rfl⟩
     have:m∈A'++B∨m=(c':Int):=by
      simp only[List.mem_append,List.mem_singleton]at hm ⊢
      rcases hm with(hm|hm)|hm
      ·exact .inl (.inl (QR hm))
      ·exact .inr hm
      ·exact .inl (.inr hm)
     rcases this with h|h
     ·have:=hI3.mem m h;omega
     ·omega
   ·have hcN:¬ c'<ss.length:=fun z=>d3 (decide_eq_true (by omega))
    refine⟨_,by omega,A'.erase n,B,c',gone++[n],_,rfl,hI3.step hA11 hB11 hG11 kp11 hI3.hc (fun m hm=>hI3.mem m ?_) (by omega) (fun R hR=>.stepN hleast hcN hR),rfl⟩
    rcases Qk.mp hm with hm|hm
    ·exact QD _ (QR hm)
    ·exact Qz _ hm
  ·have hA0:A'=[]:=by cases A' with|nil=>rfl|cons _ _=>exact absurd rfl d2
   subst hA0
   have hcO:=hO2.cnt
   have hcI:=hI2.cnt
   have hg:gone≠[]:=hI2.go'.resolve_left (fun z=>z rfl)
   have hgl:0<gone.length:=List.length_pos_iff.mpr hg
   have hln:=(Zew done hI2.nem).1
   refine⟨_,rfl,ZfN hI2.hF,_,rfl,fo,_,_,rfl,rfl,hI2.hF,(by rw[Qb,hI2.rd.len];exact ZH (by omega)),?_⟩
   have hO3:=hI2.out
   rw[Qe]at hO3
   refine⟨_,rfl,?_⟩
   simp only[List.length_nil]at hcI
   exact⟨_,by omega,la,ls++[go],B,c',done++[gone],_,_,_,rfl,hO3,rfl⟩
 ·have hA0:A=[]:=by cases A with|nil=>rfl|cons _ _=>exact absurd rfl d
  subst hA0
  have hc:=hO2.cnt
  obtain⟨b1,b2⟩:=Zew _ hO2.nem
  exact⟨_,rfl,q fo ls done H5 hO2.f0 hO2.hF hO2.l0 hO2.fl hO2.rd (hO2.res _ .stop0) (by omega) (fun d hd=>by have:=b2 d hd;omega) hO2.sm⟩
def Ord(E:List (Str×Int)):Prop:=E.Pairwise fun a b=>ZT (kk b) (kk a)=false
theorem Zjj{ts' ts:Zb1}{E:List (Str×Int)}(hE:ts.map (·.2)=E.map kk)(pm:ts'.Perm ts)(pw:ts'.Pairwise (fun a b=>ZT b.2 a.2=false)):∃E',E'.Perm E∧ts'.map (·.2)=E'.map kk∧Ord E':=by
 obtain⟨E',p,e⟩:=Ziq kk (pm.map (·.2)) E hE
 refine⟨E',p,e,?_⟩
 have:(ts'.map (·.2)).Pairwise (fun a b=>ZT b a=false):=List.pairwise_map.mpr pw
 rw[e]at this
 exact List.pairwise_map.mp this
theorem Zk0{K:PySem.W.Frag}{a:Addr}{xs:List V}{k:Nat}{D:Addr}{σ:L2.St}{H1:Hp}{g:TG}{te:TE}{Q:VK}(Pv:Nat→List V→L2.St→Hp→Prop)(h0:Pv 0 [] (σ++List.replicate k none) (upd H1 D (.lst [])))
  (hl:∀i zs σ H,Pv i zs σ H→SqL K H a xs)
  (hs:∀i zs σ H x p,xs[i]? = some x→Pv i zs σ H→H p=none→g (.ref p) σ (upd H p (.tup [.int i,x])) fun σ4 H4=>te σ4 H4 fun z H6=>H6 D=some (.lst zs)∧zs.length<sizeLine∧Pv (i+1) (zs++[z]) σ4 (upd H6 D (.lst (zs++[z]))))
  (hd:∀zs σ H,Pv xs.length zs σ H→Q (.ref D) H):Zc8 (Ite K a) D k σ H1 g ZfQ te Q:=by
 refine⟨fun i m zs σ H=>m=xs.length-i∧i≤xs.length∧Pv i zs σ H,⟨xs.length,by simp,Qq _,h0⟩,?_⟩
 rintro i m zs σ H ⟨rfl,hi,p⟩
 have q1:=hl i zs σ H p
 by_cases hlt:i<xs.length
 ·refine .inr ⟨⟨xs,q1,hlt⟩,Pv (i+1),fun ys' σ' H' p'=>⟨xs.length-(i+1),by omega,rfl,hlt,p'⟩,fun x H' y=>?_⟩
  obtain⟨r,hr,rfl,e⟩:=y
  have e':=e xs q1 _ (Qa hlt)
  subst e'
  simp only[ZfQ,↓reduceIte]
  exact hs i zs σ H _ r (Qa hlt) p hr
 ·have e:i=xs.length:=by omega
  exact .inl ⟨⟨xs,q1,by omega⟩,hd zs σ H (e ▸ p)⟩
def Ris(ss:List Str)(ns:List Int):Prop:=∀ (p:Nat) (x y:Int),ns[p]? = some x→ns[p+1]? = some y→ZT (kk (ks ss x)) (kk (ks ss y))=true
theorem Ziw(ss:List Str)(n:Nat):((first n).map (ks ss)).Nodup:=by
 unfold first Z2
 rw[QC]
 refine QaR _ (fun a b h=>?_) List.nodup_range
 intro z
 have:=congrArg Prod.snd z
 exact h (by simp only[Function.comp_apply,ks]at this;omega)
theorem ZpY{ss:List Str}{n:Nat}{E:List (Str×Int)}(hp:E.Perm ((first n).map (ks ss)))(ho:Ord E):Ris ss (E.map (·.2))∧(∀m∈E.map (·.2),(0:Int)≤m∧m<(n:Int))∧E.length=n:=by
 have he:∀e∈E,e=ks ss e.2∧(0:Int)≤e.2∧e.2<(n:Int):=fun e h=>by
  obtain⟨m,hm,rfl⟩:=QB.mp (hp.mem_iff.mp h)
  exact⟨rfl,Zeq hm⟩
 refine⟨fun p x y hx hy=>?_,fun m hm=>?_,?_⟩
 ·rw[Qj]at hx hy
  cases h1:E[p]? with
  | none=>rw[h1]at hx;cases hx
  | some e =>
   cases h2:E[p+1]? with
   | none=>rw[h2]at hy;cases hy
   | some f =>
    rw[h1]at hx
    rw[h2]at hy
    cases hx
    cases hy
    obtain⟨l1,g1⟩:=Qd.mp h1
    obtain⟨l2,g2⟩:=Qd.mp h2
    have o:=List.pairwise_iff_getElem.mp ho p (p+1) l1 l2 (by omega)
    have nd:=List.pairwise_iff_getElem.mp (hp.nodup_iff.mpr (Ziw ss n)) p (p+1) l1 l2 (by omega)
    rw[g1,g2]at o nd
    rw[← (he e (Qp h1)).1,← (he f (Qp h2)).1]
    cases hb:ZT (kk e) (kk f) with
    | true=>rfl
    | false=>exact absurd (Zg9 (Za8 _ _ hb o)) nd
 ·obtain⟨e,h,rfl⟩:=QB.mp hm
  exact(he e h).2
 ·rw[hp.length_eq,Qb,Zdz]
def ZeI(K:PySem.W.Frag):Sp:=fun vs H Q _=>∃ (a:Addr) (ss:List Str),vs=[.ref a]∧SqL K H a (ss.map V.str)∧ss.length≤60 ∧
 ∀ (r:Addr) (ns:List Int) (H':Hp),H r=none→H' r=some (.lst (ns.map V.int))→ns.length≤60→(∀n∈ns,0≤n∧n<ss.length)→Ris ss ns→Zw H H'→Q (.ref r) H'
theorem Zh4(T:Zau K mg cRow cMerge):Df P w K mg base 1 "_law_in_order" ["_law_things_here"] (ZeI K):=by
 refine T.t_l_in_order.df Zga (fun vs H Q E h=>?_) (fun cdv f A outer s H vs Q E hr h=>?_)
 ·obtain⟨a,ss,rfl,_⟩:=h
  rfl
 obtain⟨a,ss,rfl,hS,h60,q⟩:=h
 refine⟨_,#[Zj,#[Zp,#[ZaE,ZnF,#[iL,K,#[Zk,(Zsn K),(by rfl),T.b.n_sorted,boot_sorted,#[Za,#[ZaE,Zmm,#[iE,K,T.b.n_enumerate,#[Za,‹0›,#[Ze]]],(fun _ _ _ _=>#[gT,K,2,#[Zy,#[cg,1,Zmm],#[Zy,#[cg,2,Zmm],(@ZaY _)]]]),(fun _ _ _ _=>(@Zao _)),(fun _ _ _ _=>#[Za1,#[Za,#[cw,2,Zmm],#[Za,#[cw,1,Zmm],#[Ze]]]])],#[Ze]]]],(fun _ _ _ _=>#[gT,K,2,#[Zy,#[cg,1,ZnF],#[Zy,#[cg,2,ZnF],(@ZaY _)]]]),(fun _ _ _ _=>(@Zao _)),(fun _ _ _ _=>#[cw,2,ZnF])]]],?_⟩
 refine⟨_,rfl,a,ss.map V.str,rfl,hS,fun D hD=>?_⟩
 refine Zk0 (K:=K) (a:=a) (xs:=ss.map V.str) (fun i zs σ H2=>(∃v1 v2:Option V,σ=[some (.ref a),v1,v2])∧(∃ts:Zb1,zs=Zbo ts∧AtT H2 ts∧ts.length=i∧ts.map (·.2)=((first i).map (ks ss)).map kk)∧i≤ss.length∧H2 D=some (.lst zs)∧Zw H H2) ?_ (fun _ _ _ _ h=>h.2.2.2.2.seq hS) ?_ ?_
 ·exact⟨⟨none,none,rfl⟩,⟨[],rfl,(fun t h=>by cases h),rfl,rfl⟩,Qq _,Zc,Zh hD _⟩
 ·rintro i zs σ H2 x p hx ⟨⟨v1,v2,rfl⟩,⟨ts,rfl,hat,htl,hE⟩,hi',hD2,s2⟩ hp
  rw[Qj]at hx
  cases hy:ss[i]? with
  | none=>rw[hy]at hx;cases hx
  | some y =>
   rw[hy]at hx
   cases hx
   have hil:i<ss.length:=(Qd.mp hy).1
   have sp:=Zh hp (.tup [.int i,.str y])
   have hp3:(upd H2 p (.tup [.int i,.str y])) p=some (.tup [.int i,.str y]):=Zc
   have hD3:=sp _ _ hD2
   have hat3:=AtT.mono hat sp
   have s3:=s2.trans sp
   generalize upd H2 p (.tup [.int i,.str y])=H3 at hp3 hD3 hat3 s3 ⊢
   refine⟨p,_,rfl,SqT.of hp3,rfl,_,_,rfl,_,_,rfl,rfl,?_⟩
   refine⟨_,rfl,_,rfl,(by show 2≤sizeLine;decide),fun n hn0=>?_⟩
   have sn:=Zh hn0 (.tup [.str y,.int i])
   have hD4:=sn _ _ hD3
   have nDn:D≠n:=Zb hD3 hn0
   refine⟨hD4,(by unfold Zbo;rw[Qb,htl];exact ZH (by omega)),⟨_,_,rfl⟩,⟨ts++[(n,kk (ks ss (i:Int)))],by unfold Zbo;rw[Qe];rfl,fun t ht=>?_,by rw[Qg,Ql];omega,?_⟩,by omega,Zc,fun b o hb=>?_⟩
   ·rcases Qk.mp ht with ht|ht
    ·exact Zei hD4 _ _ _ (sn _ _ (hat3 t ht))
    ·rw[Qi.mp ht,Zd nDn.symm]
     have ey:ss.getD i "" = y:=by rw[Qo,hy];rfl
     show (upd H3 n _) n=_
     rw[Zc,← ey]
     rfl
   ·rw[Qe,hE]
    unfold first Z2
    rw[List.range_succ,Qe,Qe,Qe]
    simp
   ·rw[Zd (Zb hb hD)];exact sn _ _ (s3 b o hb)
 rintro zs σ H2 ⟨⟨v1,v2,rfl⟩,⟨ts,rfl,hat,htl,hE⟩,_,hD2,s2⟩
 rw[Qb]at hE htl
 have hsh:∀t∈ts,shape t.2=[false,true]:=fun t ht=>by
  have:t.2∈((first ss.length).map (ks ss)).map kk:=by rw[← hE];exact Qn (f:=fun t:Addr×List Key=>t.2) ht
  obtain⟨m,_,e⟩:=QB.mp this
  rw[← e];rfl
 refine⟨D,ts,[false,true],rfl,SqL.of hD2,hat,by simp,hsh,by omega,fun l ts' hl pm pw=>?_⟩
 obtain⟨E',pE,eE,oE⟩:=Zjj hE pm pw
 obtain⟨hris,hmem,hEl⟩:=ZpY pE oE
 have s3:=s2.trans (Zh hl (.lst (Zbo ts')))
 have hl3:(upd H2 l (.lst (Zbo ts'))) l=some (.lst (Zbo ts')):=Zc
 have hat3:AtT (upd H2 l (.lst (Zbo ts'))) ts':=fun t ht=>Zh hl _ _ _ (hat t (pm.mem_iff.mp ht))
 generalize upd H2 l (.lst (Zbo ts'))=H3 at s3 hl3 hat3 ⊢
 have htl':ts'.length=ss.length:=by rw[pm.length_eq];exact htl
 refine⟨l,rfl,⟨_,SqL.of hl3⟩,fun D3 hD3=>?_⟩
 refine ZaX (K:=K) (a:=l) (xs:=Zbo ts') (fun i zs σ H4=>(∃v1 v2:Option V,σ=[some (.ref a),v1,v2])∧zs=((E'.take i).map (·.2)).map V.int∧i≤ts'.length∧H4 D3=some (.lst zs)∧Zw H3 H4) ?_ (fun _ _ _ _ h=>SqL.of (h.2.2.2.2 _ _ hl3)) ?_ ?_
 ·exact⟨⟨none,none,rfl⟩,rfl,Qq _,Zc,Zh hD3 _⟩
 ·rintro i x zs σ H4 hx ⟨⟨v1,v2,rfl⟩,rfl,hi3,hD4,s4⟩
  unfold Zbo at hx
  rw[Qj]at hx
  cases ht:ts'[i]? with
  | none=>rw[ht]at hx;cases hx
  | some t =>
   rw[ht]at hx
   cases hx
   have hil:i<ts'.length:=(Qd.mp ht).1
   have hEi:E'[i]? = some E'[i]:=Qa (by omega)
   have e5:t.2=kk E'[i]:=by
    have:=congrArg (fun z=>z[i]?) eE
    simp only[List.getElem?_map,ht,hEi,Option.map_some]at this
    exact Qm this
   have hH:=s4 _ _ (hat3 t (Qp ht))
   rw[e5]at hH
   refine⟨t.1,_,rfl,SqT.of hH,rfl,_,_,rfl,_,_,rfl,rfl,?_⟩
   refine⟨_,rfl,hD4,(by rw[Qb,Qb,Qy];exact ZH (by omega)),⟨_,_,rfl⟩,?_,hil,Zc,fun b o hb=>?_⟩
   ·rw[QF,hEi,Qe,Qe];rfl
   ·rw[Zd (Zb hb hD3)];exact s4 b o hb
 rintro zs σ H4 ⟨⟨v1,v2,rfl⟩,rfl,hi3,hD4,s4⟩
 rw[show (Zbo ts').length=ts'.length from Qb _,Qw (by omega)]at hD4
 exact q D3 _ H4 (s3.free hD3) hD4 (by rw[Qb];omega) hmem hris (s3.trans s4)
inductive PT where
 | leaf (k:Int)
 | node (l:List PT)
mutual
inductive TV (H:Hp):V→PT→Prop where
 | leaf (k:Int):TV H (.int k) (.leaf k)
 | node {a:Addr} {xs:List V} {l:List PT}:H a=some (.tup xs)→TVs H xs l→TV H (.ref a) (.node l)
inductive TVs (H:Hp):List V→List PT→Prop where
 | nil:TVs H [] []
 | cons {x:V} {t:PT} {xs:List V} {l:List PT}:TV H x t→TVs H xs l→TVs H (x::xs) (t::l)
end
mutual
theorem TV.mono{H H':Hp}(s:∀a xs,H a=some (.tup xs)→H' a=some (.tup xs)):∀ {x:V} {t:PT},TV H x t→TV H' x t
 | _,_,.leaf k=>.leaf k
 | _,_,.node h hs=>.node (s _ _ h) (hs.mono s)
theorem TVs.mono{H H':Hp}(s:∀a xs,H a=some (.tup xs)→H' a=some (.tup xs)):∀ {xs:List V} {l:List PT},TVs H xs l→TVs H' xs l
 | _,_,.nil=>.nil
 | _,_,.cons h hs=>.cons (h.mono s) (hs.mono s)
end
mutual
def toD:PT→PyData
 | .leaf k=>.int k
 | .node l=>.tuple (Zd9 l)
def Zd9:List PT→List PyData
 | []=>[]
 | t::r=>toD t::Zd9 r
end
mutual
theorem TV.dv{K:PySem.W.Frag}{H:Hp}:∀ {x:V} {t:PT},TV H x t→DV K H x (toD t)
 | _,_,.leaf k=>.int k
 | _,_,.node h hs=>.tup (SqT.of h) hs.dv
theorem TVs.dv{K:PySem.W.Frag}{H:Hp}:∀ {xs:List V} {l:List PT},TVs H xs l→DVs K H xs (Zd9 l)
 | _,_,.nil=>.nil
 | _,_,.cons h hs=>.cons h.dv hs.dv
end
theorem TVs.len{H:Hp}:∀ {xs:List V} {l:List PT},TVs H xs l→xs.length=l.length
 | _,_,.nil=>rfl
 | _,_,.cons _ hs=>by rw[QE,QE,hs.len]
theorem TVs.app{H:Hp}:∀ {xs ys:List V} {l m:List PT},TVs H xs l→TVs H ys m→TVs H (xs++ys) (l++m)
 | _,_,_,_,.nil,h=>h
 | _,_,_,_,.cons h hs,g=>.cons h (hs.app g)
theorem TVs.take{H:Hp}:∀ {xs:List V} {l:List PT} (n:Nat),TVs H xs l→TVs H (xs.take n) (l.take n)
 | _,_,0,_=>by rw[List.take_zero,List.take_zero];exact .nil
 | _,_,_+1,.nil=>.nil
 | _,_,n+1,.cons h hs=>.cons h (hs.take n)
theorem TVs.drop{H:Hp}:∀ {xs:List V} {l:List PT} (n:Nat),TVs H xs l→TVs H (xs.drop n) (l.drop n)
 | _,_,0,h=>h
 | _,_,_+1,.nil=>.nil
 | _,_,n+1,.cons _ hs=>hs.drop n
theorem TVs.at{H:Hp}:∀ {xs:List V} {l:List PT} {i:Nat} {x:V},TVs H xs l→xs[i]? = some x→∃t,l[i]? = some t∧TV H x t
 | _,_,i,x,.nil,h=>by simp at h
 | _,_,0,x,.cons (t:=t) h _,e=>by simp at e;subst e;exact⟨t,rfl,h⟩
 | _,_,i+1,x,.cons _ hs,e=>by simpa using hs.at (i:=i) (by simpa using e)
mutual
def tSz(ns:List Int):PT→Int
 | .leaf k=>ns.getD k.toNat 0
 | .node l=>Zqq ns l
def Zqq(ns:List Int):List PT→Int
 | []=>0
 | t::r=>tSz ns t+Zqq ns r
end
mutual
def tCo(ns:List Int):PT→Int
 | .leaf _=>0
 | .node l=>ZrS ns l+Zqq ns l
def ZrS(ns:List Int):List PT→Int
 | []=>0
 | t::r=>tCo ns t+ZrS ns r
end
mutual
def tLf:PT→Nat
 | .leaf _=>1
 | .node l=>Za2 l
def Za2:List PT→Nat
 | []=>0
 | t::r=>tLf t+Za2 r
end
mutual
def tDp:PT→Nat
 | .leaf _=>0
 | .node l=>Zb2 l+1
def Zb2:List PT→Nat
 | []=>0
 | t::r=>max (tDp t) (Zb2 r)
end
mutual
def tNo:PT→Nat
 | .leaf _=>1
 | .node l=>Zct l+1
def Zct:List PT→Nat
 | []=>0
 | t::r=>tNo t+Zct r
end
mutual
def tOk(n:Nat):PT→Prop
 | .leaf k=>0≤k∧k<n
 | .node l=>Zcd n l
def Zcd(n:Nat):List PT→Prop
 | []=>True
 | t::r=>tOk n t∧Zcd n r
end
theorem Zdc:∀a b:List PT,Za2 (a++b)=Za2 a+Za2 b
 | [],b=>by show Za2 b=0+Za2 b;omega
 | t::r,b=>by show tLf t+Za2 (r++b)=tLf t+Za2 r+Za2 b;rw[Zdc r b];omega
theorem Zde(n:Nat):∀a b:List PT,Zcd n (a++b)↔Zcd n a∧Zcd n b
 | [],b=>by show Zcd n b↔True∧Zcd n b;simp
 | t::r,b=>by show tOk n t∧Zcd n (r++b)↔(tOk n t∧Zcd n r)∧Zcd n b;rw[Zde n r b,and_assoc]
theorem Zfa(n:Nat):∀ (l:List PT) (i:Nat) (t:PT),Zcd n l→l[i]? = some t→tOk n t
 | [],i,t,_,h=>by simp at h
 | a::r,0,t,h,e=>by simp at e;subst e;exact h.1
 | a::r,i+1,t,h,e=>Zfa n r i t h.2 (by simpa using e)
theorem Ze5:∀ (l:List PT) (i:Nat) (t:PT),l[i]? = some t→tDp t≤Zb2 l
 | [],i,t,h=>by simp at h
 | a::r,0,t,e=>by simp at e;subst e;show tDp a≤max (tDp a) (Zb2 r);omega
 | a::r,i+1,t,e=>by have:=Ze5 r i t (by simpa using e);show tDp t≤max (tDp a) (Zb2 r);omega
mutual
theorem Zjv:∀t:PT,1≤tNo t
 | .leaf _=>Qf _
 | .node l=>by show 1≤Zct l+1;omega
theorem Zm9:∀l:List PT,l.length≤Zct l
 | []=>Qf _
 | t::r=>by have:=Zjv t;have:=Zm9 r;show r.length+1≤tNo t+Zct r;omega
end
mutual
theorem Zpq:∀t:PT,tLf t≤tNo t
 | .leaf _=>Qf _
 | .node l=>by have:=Zke l;show Za2 l≤Zct l+1;omega
theorem Zke:∀l:List PT,Za2 l≤Zct l
 | []=>Qf _
 | t::r=>by have:=Zpq t;have:=Zke r;show tLf t+Za2 r≤tNo t+Zct r;omega
end
def tGd(t:PT):Prop:=tDp t+1≤tLf t∧tNo t+1≤2*tLf t
def ZdD:List PT→Prop
 | []=>True
 | t::r=>tGd t∧ZdD r
theorem Zdf:∀a b:List PT,ZdD (a++b)↔ZdD a∧ZdD b
 | [],b=>by show ZdD b↔True∧ZdD b;simp
 | t::r,b=>by show tGd t∧ZdD (r++b)↔(tGd t∧ZdD r)∧ZdD b;rw[Zdf r b,and_assoc]
theorem Zh7:∀l:List PT,ZdD l→Zb2 l+l.length≤Za2 l∧Zct l+l.length≤2*Za2 l∨l=[]
 | [],_=>.inr rfl
 | [t],h=>.inl (by have h1:=h.1.1;have h2:=h.1.2;show max (tDp t) 0+1≤tLf t+0∧tNo t+0+1≤2*(tLf t+0);omega)
 | t::u::r,h=>by
  have ih:=(Zh7 (u::r) h.2).resolve_right (by simp)
  have h1:=h.1.1
  have h2:=h.1.2
  left
  show max (tDp t) (Zb2 (u::r))+((u::r).length+1)≤tLf t+Za2 (u::r)∧tNo t+Zct (u::r)+((u::r).length+1)≤2*(tLf t+Za2 (u::r))
  omega
theorem Zl7{l:List PT}(h:ZdD l)(n:2≤l.length):tGd (.node l):=by
 have:=(Zh7 l h).resolve_right (by intro e;rw[e]at n;simp at n)
 show Zb2 l+1+1≤Za2 l∧Zct l+1+1≤2*Za2 l
 omega
theorem ZgY{k:Int}(h0:0≤k)(h1:k≤10000000000):(PyData.int k).intsShort 13=true∧(PyData.int k).showable=true∧(PyData.int k).weight≤40:=by
 have hl:k.natAbs<2 ^ 34:=by omega
 have hlog:k.natAbs.log2<34:=by
  by_cases e:k.natAbs=0
  ·rw[e];decide
  ·exact(Nat.log2_lt e).mpr hl
 refine⟨?_,?_,?_⟩
 ·simp only[PyData.intsShort]
  exact decide_eq_true (PyData.shown_int_le (by omega))
 ·simp only[PyData.showable]
  exact decide_eq_true (by omega)
 ·simp only[PyData.weight]
  split<;>omega
mutual
theorem Zim{n:Nat}(hn:n≤1000):∀t:PT,tOk n t→(toD t).canLay0=true∧(toD t).depth=tDp t∧(toD t).weight+1≤42*tNo t∧(toD t).intsShort 13=true∧(toD t).showable=true
 | .leaf k,h=>by
  obtain⟨h0,h1⟩:=h
  obtain⟨a,b,c⟩:=ZgY h0 (by omega)
  refine⟨by simp[toD,PyData.canLay0],by simp[toD,PyData.depth,tDp],?_,a,b⟩
  show (PyData.int k).weight+1≤42*1
  omega
 | .node l,h=>by
  obtain⟨a,b,c,d,e⟩:=ZgE hn l h
  refine⟨by simpa [toD,PyData.canLay0] using a,by simp[toD,PyData.depth,tDp,b],?_,by simpa [toD,PyData.intsShort] using d,by simpa [toD,PyData.showable] using e⟩
  show PyData.weightAll (Zd9 l)+1≤42*(Zct l+1)
  omega
theorem ZgE{n:Nat}(hn:n≤1000):∀l:List PT,Zcd n l→PyData.canLayAll0 (Zd9 l)=true∧PyData.depthAll (Zd9 l)=Zb2 l∧PyData.weightAll (Zd9 l)≤42*Zct l∧PyData.intsShortAll 13 (Zd9 l)=true∧PyData.showableAll (Zd9 l)=true
 | [],_=>⟨rfl,rfl,Qq _,rfl,rfl⟩
 | t::r,h=>by
  obtain⟨a,b,c,d,e⟩:=Zim hn t h.1
  obtain⟨a',b',c',d',e'⟩:=ZgE hn r h.2
  have hp:=Zjv t
  refine⟨by simp[Zd9,PyData.canLayAll0,a,a'],by simp[Zd9,PyData.depthAll,Zb2,b,b'],?_,by simp[Zd9,PyData.intsShortAll,d,d'],by simp[Zd9,PyData.showableAll,e,e']⟩
  show (toD t).weight+1+PyData.weightAll (Zd9 r)≤42*(tNo t+Zct r)
  omega
end
mutual
def tLv:PT→List Int
 | .leaf k=>[k]
 | .node l=>Zbw l
def Zbw:List PT→List Int
 | []=>[]
 | t::r=>tLv t++Zbw r
end
mutual
def tPl(w:Nat):PT→Prop
 | .leaf _=>True
 | .node l=>2≤l.length∧l.length≤w∧Zcx w l
def Zcx(w:Nat):List PT→Prop
 | []=>True
 | t::r=>tPl w t∧Zcx w r
end
theorem Zc3:∀a b:List PT,Zbw (a++b)=Zbw a++Zbw b
 | [],b=>rfl
 | t::r,b=>by show tLv t++Zbw (r++b)=(tLv t++Zbw r)++Zbw b;rw[Zc3 r b,Qax]
theorem Zc0(w:Nat):∀a b:List PT,Zcx w (a++b)↔Zcx w a∧Zcx w b
 | [],b=>by show Zcx w b↔True∧Zcx w b;simp
 | t::r,b=>by show tPl w t∧Zcx w (r++b)↔(tPl w t∧Zcx w r)∧Zcx w b;rw[Zc0 w r b,and_assoc]
def Zo7:Sp:=fun vs H Q _=>(∃i:Int,vs=[.int i]∧Q (.bl true) H)∨(∃ (a:Addr) (xs:List V),vs=[.ref a]∧H a=some (.tup xs)∧Q (.bl false) H)
theorem Zle(K:PySem.W.Frag):PySem.W.kitOne K (.type "tuple") (.type "int")=some false:=by unfold PySem.W.kitOne PySem.W.kitCls;rfl
theorem ZgN(K:PySem.W.Frag):PySem.W.kitOne K (.type "int") (.type "tuple")=some false:=by unfold PySem.W.kitOne PySem.W.kitCls;rfl
theorem ZpL(T:Zau K mg cRow cMerge):Df P w K mg base 1 "is_number" ["thing"] Zo7:=by
 refine T.t_is_number.df Zhh (fun vs H Q E h=>?_) (fun cdv f A outer s H vs Q E hr h=>?_)
 ·rcases h with⟨_,rfl,_⟩|⟨_,_,rfl,_⟩<;>rfl
 refine⟨_,#[Zj,#[Zp,#[Zex,#[Zk,(ZdV K),(by rfl),T.b.n_isinstance,boot_isinstance,#[Za,‹0›,#[Za,#[ZbF,T.b.n_int,boot_int],#[Ze]]]],(@Zfu _ _ _ _ _ (@Zmb _ _ _ _ #[Zk,(ZdV K),(by rfl),T.b.n_isinstance,boot_isinstance,#[Za,‹0›,#[Za,#[ZbF,T.b.n_bool,boot_bool],#[Ze]]]]))]]],?_⟩
 rcases h with⟨i,rfl,q⟩|⟨a,xs,rfl,ha,q⟩
 ·exact⟨_,rfl,_, "int",_,_,rfl,.int i,ZgU K,_,rfl,Zdj ⟨_,rfl,_, "bool",_,_,rfl,.int i,Zfd K,_,rfl,q⟩⟩
 ·exact⟨_,rfl,_, "int",_,_,rfl,.tup ha,Zle K,_,rfl,ZbM q⟩
def ZhX(P:List ZF):List Str:=P.flatMap fun x=>x.2.1.drop x.2.2
theorem ZjL{ss:List Str}{g:Nat}{z:Str}(h:ss[g]? = some z):ss.drop g=z::ss.drop (g+1):=by
 obtain⟨hlt,e⟩:=Qd.mp h
 rw[List.drop_eq_getElem_cons hlt,e]
theorem Zif:∀ (P:List ZF),(ZaP P).Nodup→∀ {x:ZF} {z:Str},x∈P→x.2.1[x.2.2]? = some z→(z::ZhX (Zbg P x.1)).Perm (ZhX P)
 | [],_,_,_,h,_=>by cases h
 | y::P,nd,x,z,h,hz=>by
  unfold ZaP at nd
  rw[Qh,QU]at nd
  unfold ZhX Zbg
  rw[Qh,List.flatMap_cons,List.flatMap_cons]
  rcases QO.mp h with rfl|h
  ·have e:P.map (ZbJ x.1)=P:=by
    conv=>rhs;rw[← List.map_id P]
    refine QS fun u hu=>?_
    unfold ZbJ
    rw[if_neg (fun z:u.1=x.1=>nd.1 (z ▸ Qn (f:=fun x:ZF=>x.1) hu))]
    rfl
   rw[e,ZjL hz]
   unfold ZbJ
   rw[if_pos rfl]
   exact QaU _
  ·have ih:=Zif P nd.2 h hz
   unfold ZhX Zbg at ih
   have e:ZbJ x.1 y=y:=if_neg (fun z:y.1=x.1=>nd.1 (z ▸ Qn (f:=fun x:ZF=>x.1) h))
   rw[e]
   exact List.perm_middle.symm.trans (ih.append_left _)
theorem ZiW{a b:Str}(h:ZG (cds a) (cds b)≤0):LeS a b:=fun z=>by
 have z':cds b<cds a:=z
 have:=(Zg3 _ _).mp z'
 have:=Zbh (cds a) (cds b)
 omega
theorem LeS.refl(a:Str):LeS a a:=ZiW (by rw[Zel];exact Int.le_refl _)
def ZiX(P:List ZF):Prop:=∀x∈P,sortedS x.2.1=true
theorem ZiX.bump{P:List ZF}(h:ZiX P)(n:Int):ZiX (Zbg P n):=fun x hx=>by
 obtain⟨y,hy,rfl⟩:=QB.mp hx
 unfold ZbJ
 split
 ·exact h y hy
 ·exact h y hy
def Zgi(P:List ZF)(x:ZF)(z:Str):Prop:=x∈P∧x.2.1[x.2.2]? = some z∧Win (hdP P) (ZaP P) (some x.1)
inductive TkW (P:List ZF):List Zal→List ZF→Prop
 | nil:TkW P [] P
 | snoc {ts:List Zal} {P1:List ZF} {x:ZF} {z:Str}:TkW P ts P1→Zgi P1 x z→TkW P (ts++[(x.1,x.2.2,z)]) (Zbg P1 x.1)
theorem Zcy.tk{P P':List ZF}{ts:List Zal}{k q:Int}(h:Zcy P ts P' k q):TkW P ts P':=by
 induction h with
 | nil=>exact .nil
 | snoc h s ih=>exact .snoc ih ⟨s.1,s.2.1,s.2.2.1⟩
theorem Zgi.one{P:List ZF}(nd:(ZaP P).Nodup){x y:ZF}{z u:Str}(h:Zgi P x z)(g:Zgi P y u):x=y∧z=u:=by
 obtain⟨h1,h2,h3⟩:=h
 obtain⟨g1,g2,g3⟩:=g
 have e1:=Qm (h3.one g3)
 have e2:=Zea nd h1 g1 e1
 subst e2
 exact⟨rfl,Qm (h2.symm.trans g2)⟩
theorem TkW.num{P P':List ZF}{ts:List Zal}(h:TkW P ts P'):ZaP P'=ZaP P:=by
 induction h with
 | nil=>rfl
 | snoc _ _ ih=>rw[ZgV,ih]
theorem TkW.one{P:List ZF}(nd:(ZaP P).Nodup){ts:List Zal}{P1:List ZF}(h:TkW P ts P1):∀ {us:List Zal} {P2:List ZF},TkW P us P2→ts.length=us.length→ts=us∧P1=P2:=by
 induction h with
 | nil =>
  intro us P2 g hl
  cases g with
  | nil=>exact⟨rfl,rfl⟩
  | snoc _ _=>rw[Qg,Ql]at hl;exact absurd hl (by simp)
 | snoc h s ih =>
  intro us P2 g hl
  cases g with
  | nil=>rw[Qg,Ql]at hl;exact absurd hl (by simp)
  | snoc g' s' =>
   rw[Qg,Qg,Ql,Ql]at hl
   obtain⟨e1,e2⟩:=ih g' (by omega)
   subst e1
   subst e2
   obtain⟨f1,f2⟩:=s.one (by rw[h.num];exact nd) s'
   subst f1
   subst f2
   exact⟨rfl,rfl⟩
theorem TkW.left{P P':List ZF}{ts:List Zal}(h:TkW P ts P')(nd:(ZaP P).Nodup):Zbe P'+ts.length=Zbe P:=by
 induction h with
 | nil=>rfl
 | snoc h s ih =>
  have:=Zds _ (by rw[h.num];exact nd) s.1 (Qd.mp s.2.1).1
  rw[Qg,Ql]
  omega
theorem TkW.row{P P':List ZF}{ts:List Zal}(h:TkW P ts P'):∀x∈P',∃y∈P,y.1=x.1∧y.2.1=x.2.1:=by
 induction h with
 | nil=>exact fun x hx=>⟨x,hx,rfl,rfl⟩
 | snoc h s ih =>
  intro x hx
  obtain⟨u,hu,rfl⟩:=QB.mp hx
  obtain⟨y,hy,e1,e2⟩:=ih u hu
  refine⟨y,hy,?_,?_⟩
  ·unfold ZbJ;split<;>exact e1
  ·unfold ZbJ;split<;>exact e2
theorem TkW.at{P P':List ZF}{ts:List Zal}(h:TkW P ts P'):∀u∈ts,∃y∈P,y.1=u.1∧y.2.1[u.2.1]? = some u.2.2:=by
 induction h with
 | nil=>exact fun u hu=>by cases hu
 | snoc h s ih =>
  intro u hu
  rcases Qk.mp hu with hu|hu
  ·exact ih u hu
  ·rw[Qi.mp hu]
   obtain⟨y,hy,e1,e2⟩:=h.row _ s.1
   exact⟨y,hy,e1,by rw[e2];exact s.2.1⟩
theorem Zgi.le{P:List ZF}(nd:(ZaP P).Nodup)(srt:ZiX P){x:ZF}{z:Str}(h:Zgi P x z):∀y∈ZhX P,LeS z y:=fun y hy=>by
 obtain⟨hx,hz,W⟩:=h
 obtain⟨_,zc,hzc,hall⟩:=W
 rw[ZfC nd hx,hz]at hzc
 have hzc':cds z=zc:=Qm hzc
 subst hzc'
 obtain⟨u,hu,hyu⟩:=List.mem_flatMap.mp hy
 cases hh:u.2.1[u.2.2]? with
 | none=>rw[List.drop_eq_nil_of_le (List.getElem?_eq_none_iff.mp hh)]at hyu;cases hyu
 | some hd =>
  have hle:LeS hd y:=by
   have p:(u.2.1.drop u.2.2).Pairwise LeS:=((Zfx _).mp (srt u hu)).sublist (List.drop_sublist _ _)
   rw[ZjL hh]at p hyu
   rcases QO.mp hyu with rfl|hyu
   ·exact LeS.refl _
   ·exact(List.pairwise_cons.mp p).1 y hyu
  have hd':=ZfC nd hu
  rw[hh]at hd'
  rcases hall u.1 (Qn (f:=fun x:ZF=>x.1) hu) _ hd' with e|b
  ·have e2:=Zea nd hu hx e
   subst e2
   have:=Qm (hz.symm.trans hh)
   rw[this];exact hle
  ·refine(ZiW ?_).trans hle
   rcases b with b|⟨b,_⟩<;>omega
theorem TkW.srt{P P':List ZF}{ts:List Zal}(h:TkW P ts P')(nd:(ZaP P).Nodup)(srt:ZiX P):ZiX P'∧(ts.map (·.2.2)++ZhX P').Perm (ZhX P)∧(ts.map (·.2.2)).Pairwise LeS∧∀a∈ts.map (·.2.2),∀b∈ZhX P',LeS a b:=by
 induction h with
 | nil=>exact⟨srt,QaU _,List.Pairwise.nil,fun a ha=>by cases ha⟩
 | snoc h s ih =>
  obtain⟨i1,i2,i3,i4⟩:=ih
  have nd1:=nd
  rw[← h.num]at nd1
  have pm:=Zif _ nd1 s.1 s.2.1
  have le:=s.le nd1 i1
  refine⟨i1.bump _,?_,?_,fun a ha b hb=>?_⟩
  ·rw[Qe,Qax]
   exact(pm.append_left _).trans i2
  ·rw[Qe]
   refine List.pairwise_append.mpr ⟨i3,List.pairwise_singleton _ _,fun a ha b hb=>?_⟩
   have eb:=Qi.mp hb
   rw[eb]
   exact i4 a ha _ (pm.mem_iff.mp (Q8 ..))
  ·have hb':=pm.mem_iff.mp (Qs _ hb)
   rw[Qe]at ha
   rcases Qk.mp ha with ha|ha
   ·exact i4 a ha b hb'
   ·rw[Qi.mp ha]
    exact le b hb'
def ZbC(ss:List Str)(d:List Int):List Str:=d.map fun n=>ss.getD n.toNat ""
def ZdE(R:List (List Str)):List ZF:=(Z2 0 R.length).zip (R.map fun x=>(x,0))
theorem ZqN(rs:List (Addr×List Str)):Zgb rs=ZdE (rs.map (·.2)):=by
 unfold Zgb ZdE
 rw[Qb,QC]
 rfl
theorem Zm7(R:List (List Str)):ZaP (ZdE R)=Z2 0 R.length:=by
 unfold ZaP ZdE
 rw[List.map_fst_zip]
 unfold Z2
 rw[Qb,Qb,QaQ]
 exact Qf _
theorem Ze1(R:List (List Str)):(ZaP (ZdE R)).Nodup:=by
 rw[Zm7]
 exact(Zib _).imp fun h=>by omega
theorem Zh1(R:List (List Str))(i:Nat):(ZdE R)[i]? = (R[i]?).map fun x=>((i:Int),(x,0)):=by
 unfold ZdE Z2
 rw[List.zip_eq_zipWith,List.getElem?_zipWith,Qj,Qj]
 by_cases h:i<R.length
 ·rw[Qa h,QaF h]
  simp
 ·rw[QN (by omega:R.length≤i)]
  simp
theorem ZiL{R:List (List Str)}{x:ZF}(h:x∈ZdE R):∃i:Nat,x.1=(i:Int)∧R[i]? = some x.2.1∧x.2.2=0:=by
 obtain⟨i,hi⟩:=Qae h
 rw[Zh1]at hi
 cases hR:R[i]? with
 | none=>rw[hR]at hi;cases hi
 | some d=>rw[hR]at hi;cases hi;exact⟨i,rfl,hR,rfl⟩
theorem ZkM(R:List (List Str)):Zbe (ZdE R)=(R.map List.length).sum:=by
 unfold Zbe ZdE
 have e:((Z2 0 R.length).zip (R.map fun x=>(x,0))).map (fun x:ZF=>x.2.1.length-x.2.2)=((((Z2 0 R.length).zip (R.map fun x=>(x,0))).map (·.2))).map (fun y:List Str×Nat=>y.1.length-y.2):=by rw[QC];rfl
 rw[e,List.map_snd_zip (by rw[Qb,ZaT];exact Qf _),QC]
 rfl
theorem Zm4{R:List (List Str)}(h:∀d∈R,sortedS d=true):ZiX (ZdE R):=fun x hx=>by
 obtain⟨i,_,hi,_⟩:=ZiL hx
 exact h _ (Qp hi)
def ZdG(R:List (List Int))(u:Zal):Int:=(R.getD u.1.toNat []).getD u.2.1 0
def Put(ss:List Str)(R:List (List Int))(out:List Int):Prop:=∃ (ts:List Zal) (P':List ZF),TkW (ZdE (R.map (ZbC ss))) ts P'∧ts.length=(R.map List.length).sum∧out=ts.map (ZdG R)
theorem Put.one{ss:List Str}{R:List (List Int)}{a b:List Int}(h:Put ss R a)(g:Put ss R b):a=b:=by
 obtain⟨ts,P1,h1,h2,h3⟩:=h
 obtain⟨us,P2,g1,g2,g3⟩:=g
 have:=(h1.one (Ze1 _) g1 (by rw[h2,g2])).1
 rw[h3,g3,this]
theorem ZiC(ss:List Str)(R:List (List Int)):((R.map (ZbC ss)).map List.length).sum=(R.map List.length).sum:=by
 rw[QC]
 congr 1
 refine QS fun d _=>?_
 show (ZbC ss d).length=d.length
 unfold ZbC
 rw[Qb]
theorem Zhf{ss:List Str}{R:List (List Int)}{u:Zal}{P':List ZF}{ts:List Zal}(h:TkW (ZdE (R.map (ZbC ss))) ts P')(hu:u∈ts):∃d,R[u.1.toNat]? = some d∧0≤u.1∧d[u.2.1]? = some (ZdG R u)∧ss.getD (ZdG R u).toNat "" = u.2.2:=by
 obtain⟨y,hy,e1,e2⟩:=h.at u hu
 obtain⟨i,hi,hR,_⟩:=ZiL hy
 rw[Qj]at hR
 cases hd:R[i]? with
 | none=>rw[hd]at hR;cases hR
 | some d =>
  rw[hd]at hR
  have hR':=Qm hR
  rw[← hR']at e2
  unfold ZbC at e2
  rw[Qj]at e2
  cases hn:d[u.2.1]? with
  | none=>rw[hn]at e2;cases e2
  | some n =>
   rw[hn]at e2
   have e2':=Qm e2
   have eu:u.1.toNat=i:=by rw[← e1,hi];rfl
   have ep:ZdG R u=n:=by
    unfold ZdG
    rw[eu,Qo,Qo,hd]
    show (d[u.2.1]?).getD 0=n
    rw[hn];rfl
   exact⟨d,by rw[eu];exact hd,by rw[← e1,hi];omega,by rw[ep];exact hn,by rw[ep];exact e2'⟩
theorem Put.ok{ss:List Str}{R:List (List Int)}{out:List Int}(h:Put ss R out)(hs:∀d∈R,sortedS (ZbC ss d)=true):out.length=(R.map List.length).sum∧(∀n∈out,∃d∈R,n∈d)∧sortedS (ZbC ss out)=true:=by
 obtain⟨ts,P1,h1,h2,rfl⟩:=h
 refine⟨by rw[Qb];exact h2,fun n hn=>?_,?_⟩
 ·obtain⟨u,hu,rfl⟩:=QB.mp hn
  obtain⟨d,hd,_,hg,_⟩:=Zhf h1 hu
  exact⟨d,Qp hd,Qp hg⟩
 ·have e:ZbC ss (ts.map (ZdG R))=ts.map (·.2.2):=by
   unfold ZbC
   rw[QC]
   refine QS fun u hu=>?_
   obtain⟨d,_,_,_,e⟩:=Zhf h1 hu
   exact e
  rw[e]
  have hR:∀d∈R.map (ZbC ss),sortedS d=true:=fun d hd=>by
   obtain⟨x,hx,rfl⟩:=QB.mp hd
   exact hs x hx
  exact(Zfx _).mpr (h1.srt (Ze1 _) (Zm4 hR)).2.2.1
mutual
inductive Ze0 (ss:List Str) (R:List (List Int)):PT→List Int→Prop where
 | leaf {i:Int}:Ze0 ss R (.leaf i) (R.getD i.toNat [])
 | node {l:List PT} {os:List (List Int)} {out:List Int}:ZaV ss R l os→Put ss os out→Ze0 ss R (.node l) out
inductive ZaV (ss:List Str) (R:List (List Int)):List PT→List (List Int)→Prop where
 | nil:ZaV ss R [] []
 | cons {t:PT} {o:List Int} {l:List PT} {os:List (List Int)}:Ze0 ss R t o→ZaV ss R l os→ZaV ss R (t::l) (o::os)
end
mutual
theorem Ze0.one{ss:List Str}{R:List (List Int)}:∀ {t:PT} {a b:List Int},Ze0 ss R t a→Ze0 ss R t b→a=b
 | _,_,_,.leaf,.leaf=>rfl
 | _,_,_,.node h p,.node g q=>by
  have:=ZaV.one h g
  subst this
  exact p.one q
theorem ZaV.one{ss:List Str}{R:List (List Int)}:∀ {l:List PT} {a b:List (List Int)},ZaV ss R l a→ZaV ss R l b→a=b
 | _,_,_,.nil,.nil=>rfl
 | _,_,_,.cons h hs,.cons g gs=>by rw[Ze0.one h g,ZaV.one hs gs]
end
theorem ZaV.app{ss:List Str}{R:List (List Int)}:∀ {l m:List PT} {a b:List (List Int)},ZaV ss R l a→ZaV ss R m b→ZaV ss R (l++m) (a++b)
 | _,_,_,_,.nil,g=>g
 | _,_,_,_,.cons h hs,g=>.cons h (hs.app g)
def wtR(R:List (List Int))(lv:List Int):Nat:=(lv.map fun i=>(R.getD i.toNat []).length).sum
theorem Zhu(R:List (List Int))(a b:List Int):wtR R (a++b)=wtR R a+wtR R b:=by unfold wtR;rw[Qe,Qah]
def ZfX(ss:List Str)(d:List Int):Prop:=(∀n∈d,0≤n∧n<(ss.length:Int))∧sortedS (ZbC ss d)=true
theorem Zpe(ss:List Str):ZfX ss []:=⟨fun n h=>(by cases h),rfl⟩
theorem Zq5{ss:List Str}{R:List (List Int)}(h:∀d∈R,ZfX ss d)(i:Nat):ZfX ss (R.getD i []):=by
 rw[Qo]
 cases hx:R[i]? with
 | none=>exact Zpe ss
 | some d=>exact h d (Qp hx)
mutual
theorem Ze0.ok{ss:List Str}{R:List (List Int)}(hR:∀d∈R,ZfX ss d):∀ {t:PT} {o:List Int},Ze0 ss R t o→ZfX ss o∧o.length=wtR R (tLv t)
 | .leaf i,_,.leaf=>⟨Zq5 hR _,by show _=((([i]:List Int).map fun i=>(R.getD i.toNat []).length).sum);simp⟩
 | .node l,o,.node h p=>by
  obtain⟨a,b⟩:=ZaV.ok hR h
  obtain⟨p1,p2,p3⟩:=p.ok fun d hd=>(a d hd).2
  refine⟨⟨fun n hn=>?_,p3⟩,by rw[p1,b];rfl⟩
  obtain⟨d,hd,hnd⟩:=p2 n hn
  exact(a d hd).1 n hnd
theorem ZaV.ok{ss:List Str}{R:List (List Int)}(hR:∀d∈R,ZfX ss d):∀ {l:List PT} {os:List (List Int)},ZaV ss R l os→(∀d∈os,ZfX ss d)∧(os.map List.length).sum=wtR R (Zbw l)
 | [],_,.nil=>⟨fun d h=>(by cases h),rfl⟩
 | t::l,_,.cons h hs=>by
  obtain⟨a,b⟩:=Ze0.ok hR h
  obtain⟨c,d⟩:=ZaV.ok hR hs
  refine⟨fun x hx=>?_,?_⟩
  ·rcases QO.mp hx with rfl|hx
   ·exact a
   ·exact c x hx
  ·rw[Qh,QL,b,d]
   show _=wtR R (tLv t++Zbw l)
   rw[Zhu]
end
theorem ZaG{H H':Hp}(s:Zw H H'):∀a xs,H a=some (.tup xs)→H' a=some (.tup xs):=fun a xs h=>s a _ h
theorem ZfA{K:PySem.W.Frag}{a:Addr}{xs:List V}{k:Nat}{D:Addr}{σ:L2.St}{H1:Hp}{g:TG}{te:TE}{Q:VK}(Pv:Nat→List V→L2.St→Hp→Prop)(h0:Pv 0 [] (σ++List.replicate k none) (upd H1 D (.lst [])))
  (hl:∀i ys σ H,Pv i ys σ H→SqT K H a xs)
  (hs:∀i x ys σ H,xs[i]? = some x→Pv i ys σ H→g x σ H fun σ4 H4=>te σ4 H4 fun y H6=>H6 D=some (.lst ys)∧ys.length<sizeLine∧Pv (i+1) (ys++[y]) σ4 (upd H6 D (.lst (ys++[y]))))
  (hd:∀ys σ H,Pv xs.length ys σ H→Q (.ref D) H):Zc8 (Itt K a) D k σ H1 g ZfQ te Q:=by
 refine⟨fun i m ys σ H=>m=xs.length-i∧i≤xs.length∧Pv i ys σ H,⟨xs.length,by simp,Qq _,h0⟩,?_⟩
 rintro i m ys σ H ⟨rfl,hi,p⟩
 have q1:=hl i ys σ H p
 by_cases hlt:i<xs.length
 ·refine .inr ⟨⟨xs,xs[i],q1,Qa hlt⟩,Pv (i+1),fun ys' σ' H' p'=>⟨xs.length-(i+1),by omega,rfl,hlt,p'⟩,fun x H' y=>?_⟩
  obtain⟨rfl,e⟩:=y
  simp only[ZfQ,↓reduceIte]
  exact hs i x ys σ _ (e xs q1) p
 ·have e:i=xs.length:=by omega
  exact .inl ⟨⟨xs,q1,by omega⟩,hd ys σ H (e ▸ p)⟩
theorem Ze7{ls:List Addr}{k:Int}{l:Addr}(h0:0≤k)(h:ls[k.toNat]? = some l):atI (ls.map V.ref) k=some (.ref l):=by
 have ek:k=((k.toNat:Nat):Int):=by omega
 rw[ek]
 exact Z3 (by rw[Qj,h];rfl)
theorem ZaV.len{ss:List Str}{R:List (List Int)}:∀ {l:List PT} {os:List (List Int)},ZaV ss R l os→os.length=l.length
 | _,_,.nil=>rfl
 | _,_,.cons _ h=>by rw[QE,QE,h.len]
theorem Ze9{w:Nat}:∀ {l:List PT} {i:Nat} {t:PT},Zcx w l→l[i]? = some t→tPl w t
 | [],i,t,_,h=>by simp at h
 | u::r,0,t,hp,h=>by simp at h;rw[← h];exact hp.1
 | u::r,i+1,t,hp,h=>Ze9 hp.2 (by simpa using h)
theorem Zfo:∀ {R:List (List Int)} {i:Nat} {d:List Int},R[i]? = some d→d.length≤(R.map List.length).sum
 | [],i,d,h=>by simp at h
 | u::r,0,d,h=>by simp at h;rw[← h,Qh,QL];omega
 | u::r,i+1,d,h=>by
  have:=Zfo (R:=r) (i:=i) (d:=d) (by simpa using h)
  rw[Qh,QL];omega
theorem ZmJ(R:List (List Int)):∀ {l:List PT} {i:Nat} {t:PT},l[i]? = some t→wtR R (tLv t)≤wtR R (Zbw l)
 | [],i,t,h=>by simp at h
 | u::r,0,t,h=>by
  simp at h
  rw[← h]
  show _≤wtR R (tLv u++Zbw r)
  rw[Zhu];omega
 | u::r,i+1,t,h=>by
  have:=ZmJ R (l:=r) (i:=i) (t:=t) (by simpa using h)
  show _≤wtR R (tLv u++Zbw r)
  rw[Zhu];omega
structure Zjm (H:Hp) (a r:Addr) (ss:List Str) (ls:List Addr) (R:List (List Int)):Prop where
 th:H a=some (.lst (ss.map V.str))
 s60:ss.length≤60
 key:∀s∈ss,s.length≤1000∧AZ s
 ru:H r=some (.lst (ls.map V.ref))
 rd:Rd H ls R
 rg:∀d∈R,ZfX ss d
theorem Zjm.same{H H':Hp}{a r:Addr}{ss:List Str}{ls:List Addr}{R:List (List Int)}(h:Zjm H a r ss ls R)(s:Zw H H'):Zjm H' a r ss ls R:=⟨s _ _ h.th,h.s60,h.key,s _ _ h.ru,Rd.mono (fun _ _ o ho=>s _ _ ho) h.rd,h.rg⟩
def ZpM(n:Nat):Sp:=fun vs H Q _=>∃ (a r:Addr) (ss:List Str) (ls:List Addr) (R:List (List Int)) (x:V) (t:PT),vs=[.ref a,.ref r,x]∧Zjm H a r ss ls R∧TV H x t∧tOk R.length t∧tPl 60 t∧wtR R (tLv t)≤100∧tDp t<n ∧
 ∀ (b:Addr) (out:List Int) (H':Hp),H b=none→H' b=some (.lst (out.map V.int))→Ze0 ss R t out→Zw H H'→Q (.ref b) H'
theorem ZoY(T:Zau K mg cRow cMerge)(f_is_number:Df P w K mg base 1 "is_number" ["thing"] Zo7)(f_merged:Df P w K mg base 16 "merged" ["rows"] Zix):∀n:Nat,Df P w K mg base (n+17) "merged_by" ["things", "runs", "tree"] (ZpM n)
 | 0=>by
  refine T.t_merged_by.df ZbP (fun vs H Q E h=>?_) (fun cdv f A outer s H vs Q E hr h=>?_)
  ·obtain⟨a,r,ss,ls,R,x,t,rfl,_⟩:=h
   rfl
  obtain⟨a,r,ss,ls,R,x,t,rfl,hI,hT,hok,hpl,hwt,hdp,q⟩:=h
  exact absurd hdp (by omega)
 | n+1=>by
  have f_merged_by:=ZoY T f_is_number f_merged n
  refine T.t_merged_by.df ZbP (fun vs H Q E h=>?_) (fun cdv f A outer s H vs Q E hr h=>?_)
  ·obtain⟨a,r,ss,ls,R,x,t,rfl,_⟩:=h
   rfl
  obtain⟨a,r,ss,ls,R,x,t,rfl,hI,hT,hok,hpl,hwt,hdp,q⟩:=h
  refine⟨_,#[Zf,#[Zag,#[ZdM,#[Zz,f_is_number,hr,#[Za,‹2›,#[Ze]],(by rfl)]],#[Zj,#[Zp,#[ZQ,(ZjE K),(by rfl),T.b.n_list,boot_list,#[Za,#[ZA,(ixL K),#[pv,1,(Or.inr (Or.inl rfl))],‹2›],#[Ze]]]]],#[ZD]],#[Zf,#[Zu,3,ZbP.nd,(Or.inr rfl),#[ZaE,Zlt,(@iT _ K _ _ _ ‹2› (by rfl)),(fun _ _ _ _=>#[cg,5,Zlt]),(fun _ _ _ _=>(@Zao _)),(fun _ _ _ _=>#[Zz,f_merged_by,hr,#[Za,#[cv,0,Zlt],#[Za,#[cv,1,Zlt],#[Za,#[cw,5,Zlt],#[Ze]]]],(ZaF Zlt rfl (by ac_rfl))])]],#[Zf,#[ZcM,4,ZbP.nd,Zqo,#[iL,K,#[pv,3,(Or.inr (Or.inl rfl))]],(fun _ _ _ _=>#[cg,5,Zqo]),(fun _ _ _ _=>(@Zao _)),(fun _ _ _ _=>#[ZaE,ZjN,#[iL,K,#[cw,5,Zqo]],(fun _ _ _ _=>#[cg,6,ZjN]),(fun _ _ _ _=>(@Zao _)),(fun _ _ _ _=>#[ZA,(ixL K),#[cv,0,ZjN],#[cw,6,ZjN]])])],#[Zj,#[Zp,#[ZaE,ZgG,#[iL,K,#[Zz,f_merged,hr,#[Za,‹4›,#[Ze]],(by rfl)]],(fun _ _ _ _=>#[gT,K,2,#[Zy,#[cg,5,ZgG],#[Zy,#[cg,6,ZgG],(@ZaY _)]]]),(fun _ _ _ _=>(@Zao _)),(fun _ _ _ _=>#[ZA,(ixL K),#[ZA,(ixL K),#[cv,3,ZgG],#[cw,5,ZgG]],#[cw,6,ZgG]])]]]]]],?_⟩
  have hR60:R.length=ls.length:=hI.rd.len.symm
  cases hT with
  | leaf k =>
   refine⟨_,rfl,.inl ⟨k,rfl,_,rfl,Zdj ?_⟩⟩
   have hk:0≤k∧k<(R.length:Nat):=hok
   obtain⟨l,hl⟩:∃l,ls[k.toNat]? = some l:=⟨_,Qa (by omega)⟩
   obtain⟨d,hd,hld⟩:=hI.rd.at hl
   refine⟨_,rfl,_,rfl,r,_,_,_,rfl,rfl,SqL.of hI.ru,Ze7 hk.1 hl,l,_,rfl,.inl (SqL.of hld),fun b hb=>?_⟩
   refine q b d _ hb Zc ?_ (Zh hb _)
   have e:R.getD k.toNat []=d:=by rw[Qo,hd];rfl
   rw[← e]
   exact .leaf
  | node htp hTs =>
   rename_i tp xs l
   refine⟨_,rfl,.inr ⟨tp,xs,rfl,htp,_,rfl,ZbM ?_⟩⟩
   have hxl:=hTs.len
   have hl60:l.length≤60:=hpl.2.1
   have hpls:Zcx 60 l:=hpl.2.2
   have hoks:Zcd R.length l:=hok
   have hwts:wtR R (Zbw l)≤100:=hwt
   have hdps:Zb2 l<n:=by have:Zb2 l+1<n+1:=hdp;omega
   refine⟨_,rfl,tp,rfl,⟨_,SqT.of htp⟩,fun D hD=>?_⟩
   refine ZfA (K:=K) (a:=tp) (xs:=xs) (fun i zs σ H2=>(∃v:Option V,σ=[some (.ref a),some (.ref r),some (.ref tp),none,none,v])∧(∃ (bs:List Addr) (os:List (List Int)),zs=bs.map V.ref∧Rd H2 bs os∧ZaV ss R (l.take i) os∧D ∉ bs)∧i≤xs.length∧H2 D=some (.lst zs)∧Zw H H2) ?_ (fun _ _ _ _ h=>SqT.of (h.2.2.2.2 _ _ htp)) ?_ ?_
   ·exact⟨⟨none,rfl⟩,⟨[],[],rfl,True.intro,.nil,fun h=>by cases h⟩,Qq _,Zc,Zh hD _⟩
   ·rintro i x zs σ H2 hx ⟨⟨v,rfl⟩,⟨bs,os,rfl,hrd,hpt,hDb⟩,hi,hD2,s2⟩
    obtain⟨t,ht,hTV⟩:=hTs.at hx
    have hil:i<xs.length:=(Qd.mp hx).1
    have hbl:bs.length=i:=by rw[hrd.len,hpt.len,Qy];omega
    refine⟨_,rfl,_,rfl,_,rfl,a,r,ss,ls,R,x,t,rfl,hI.same s2,hTV.mono (ZaG s2),Zfa _ _ _ _ hoks ht,Ze9 hpls ht,QM (ZmJ R ht) hwts,Q9 (Ze5 _ _ _ ht) hdps,fun b out H3 hb0 hb hp s3=>?_⟩
    have hD3:=s3 _ _ hD2
    have nbD:b≠D:=fun z=>by rw[z,hD2]at hb0;cases hb0
    refine⟨hD3,(by rw[Qb,hbl,sizeLine_eq];omega),⟨_,rfl⟩,⟨bs++[b],os++[out],by rw[Qe];rfl,?_,?_,?_⟩,hil,Zc,fun c o hc=>?_⟩
    ·refine Rd.app (Rd.mono (fun c hc o ho=>?_) hrd) ⟨by rw[Zd nbD];exact hb,True.intro⟩
     rw[Zd (fun z:c=D=>hDb (by rw[← z];exact hc))];exact s3 _ _ ho
    ·rw[QF,ht]
     exact hpt.app (.cons hp .nil)
    ·intro h
     rcases Qk.mp h with h|h
     ·exact hDb h
     ·exact nbD (Qi.mp h).symm
    ·rw[Zd (Zb hc hD)];exact s3 _ _ (s2 c o hc)
   rintro zs σ H2 ⟨⟨v,rfl⟩,⟨bs,os,rfl,hrd,hpt,_⟩,_,hD2,s2⟩
   rw[Qw (by omega)]at hpt
   obtain⟨hro,hso⟩:=ZaV.ok hI.rg hpt
   have hos:os.length=l.length:=hpt.len
   have hbo:=hrd.len
   refine⟨_,rfl,D,rfl,⟨_,SqL.of hD2⟩,fun D2 hD20=>?_⟩
   refine ZaX (K:=K) (a:=D) (xs:=bs.map V.ref) (fun i zs σ H3=>(∃v:Option V,σ=[some (.ref a),some (.ref r),some (.ref tp),some (.ref D),none,v])∧(∃rs:List (Addr×List Str),zs=(rs.map fun x=>V.ref x.1)∧rs.map (·.2)=(os.take i).map (ZbC ss)∧∀x∈rs,x.1≠D2∧H3 x.1=some (.lst (x.2.map V.str)))∧i≤bs.length∧H3 D2=some (.lst zs)∧Zw H2 H3) ?_ (fun _ _ _ _ h=>SqL.of (h.2.2.2.2 _ _ hD2)) ?_ ?_
   ·exact⟨⟨none,rfl⟩,⟨[],rfl,rfl,fun x h=>by cases h⟩,Qq _,Zc,Zh hD20 _⟩
   ·rintro i y zs σ H3 hy ⟨⟨v,rfl⟩,⟨rs,rfl,hrs,hrs3⟩,hi,hD3,s3⟩
    rw[Qj]at hy
    cases hb:bs[i]? with
    | none=>rw[hb]at hy;cases hy
    | some b =>
    rw[hb]at hy
    cases hy
    have hil:i<bs.length:=(Qd.mp hb).1
    obtain⟨d,hd,hbd⟩:=hrd.at hb
    have hrl:rs.length=i:=by
     have:=congrArg List.length hrs
     rw[Qb,Qb,Qy]at this
     omega
    have hdr:=(hro d (Qp hd)).1
    have hdl:d.length≤100:=QM (Zfo hd) (by rw[hso];exact hwts)
    have hb3:=s3 _ _ hbd
    refine⟨_,rfl,b,rfl,⟨_,SqL.of hb3⟩,fun E0 hE=>?_⟩
    have nED:D2≠E0:=Zb hD3 hE
    refine ZaX (K:=K) (a:=b) (xs:=d.map V.int) (fun j ys σ H5=>(∃v:Option V,σ=[some (.ref a),some (.ref r),some (.ref tp),some (.ref D),none,some (.ref b),v])∧ys=((ZbC ss d).take j).map V.str∧j≤d.length∧H5 E0=some (.lst ys)∧Zw H3 H5) ?_ (fun _ _ _ _ h=>SqL.of (h.2.2.2.2 _ _ hb3)) ?_ ?_
    ·exact⟨⟨none,rfl⟩,rfl,Qq _,Zc,Zh hE _⟩
    ·rintro j y ys σ H5 hy ⟨⟨v',rfl⟩,rfl,hj,hE5,s5⟩
     rw[Qj]at hy
     cases hn:d[j]? with
     | none=>rw[hn]at hy;cases hy
     | some nn =>
     rw[hn]at hy
     cases hy
     have hjl:j<d.length:=(Qd.mp hn).1
     obtain⟨n0,n1⟩:=hdr nn (Qp hn)
     refine⟨_,rfl,_,rfl,a,_,_,_,rfl,rfl,SqL.of (s5 _ _ (s3 _ _ (s2 _ _ hI.th))),ZfS n0 n1,hE5,(by rw[Qb,Qy,sizeLine_eq];omega),⟨_,rfl⟩,?_,hjl,Zc,fun c o hc=>?_⟩
     ·unfold ZbC
      rw[QF,Qj,hn,Qe];rfl
     ·rw[Zd (Zb hc hE)];exact s5 c o hc
    rintro ys σ H5 ⟨⟨v',rfl⟩,rfl,_,hE5,s5⟩
    rw[Qb,Qw (by unfold ZbC;rw[Qb];exact Qf _)]at hE5
    refine⟨s5 _ _ hD3,(by rw[Qb,hrl,sizeLine_eq];omega),⟨_,rfl⟩,⟨rs++[(E0,ZbC ss d)],by rw[Qe];rfl,?_,fun x hx=>?_⟩,hil,Zc,fun c o hc=>?_⟩
    ·rw[QF,hd,Qe,Qe,hrs];rfl
    ·rcases Qk.mp hx with hx|hx
     ·obtain⟨g1,g2⟩:=hrs3 x hx
      exact⟨g1,by rw[Zd g1];exact s5 _ _ g2⟩
     ·rw[Qi.mp hx]
      exact⟨nED.symm,by rw[Zd nED.symm];exact hE5⟩
    ·rw[Zd (Zb hc hD20)];exact s5 _ _ (s3 c o hc)
   rintro zs σ H3 ⟨⟨v,rfl⟩,⟨rs,rfl,hrs,hrs3⟩,_,hD3,s3⟩
   rw[Qb,Qw (by omega)]at hrs
   have hsrt:∀x∈rs,sortedS x.2=true:=fun x hx=>by
    have:x.2∈rs.map (·.2):=Qn (f:=fun x:Addr×List Str=>x.2) hx
    rw[hrs]at this
    obtain⟨d,hd,e⟩:=QB.mp this
    rw[← e]
    exact(hro d hd).2
   have hrl:rs.length=os.length:=by have:=congrArg List.length hrs;rwa [Qb,Qb]at this
   have R3:Zcb H3 D2 rs:=⟨hD3,by omega,fun x hx=>by
    have:x.2∈rs.map (·.2):=Qn (f:=fun x:Addr×List Str=>x.2) hx
    rw[hrs]at this
    obtain⟨d,hd,e⟩:=QB.mp this
    obtain⟨i,hi⟩:=Qae hd
    refine⟨(hrs3 x hx).2,?_,fun s hs=>?_⟩
    ·rw[← e]
     unfold ZbC
     rw[Qb]
     exact QM (Zfo hi) (by rw[hso];exact hwts)
    ·rw[← e]at hs
     unfold ZbC at hs
     obtain⟨nn,hnn,rfl⟩:=QB.mp hs
     obtain⟨n0,n1⟩:=(hro d hd).1 nn hnn
     rw[Qo,Qa (by omega)]
     exact hI.key _ (QV _)⟩
   refine⟨_,rfl,D2,rs,rfl,R3,hsrt,fun mt us P' k0 q0 H4 htk hln hmt hus _ _ s4=>?_⟩
   have htw:=htk.tk
   rw[ZqN,hrs]at htw
   have hln2:(us.map (·.2)).length=(os.map List.length).sum:=by
    rw[Qb,hln,← ZiC ss os,← hrs,QC];rfl
   have hD4:=s4 _ _ (s3 _ _ hD2)
   have s24:=s3.trans s4
   have hrd4:Rd H4 bs os:=Rd.mono (fun _ _ o ho=>s24 _ _ ho) hrd
   refine⟨mt,rfl,⟨_,SqL.of hmt⟩,fun O hO=>?_⟩
   refine ZaX (K:=K) (a:=mt) (xs:=us.map fun u=>V.ref u.1) (fun i zs σ H5=>(∃v1 v2:Option V,σ=[some (.ref a),some (.ref r),some (.ref tp),some (.ref D),some (.ref D2),v1,v2])∧zs=(((us.take i).map (·.2)).map (ZdG os)).map V.int∧i≤us.length∧H5 O=some (.lst zs)∧Zw H4 H5) ?_ (fun _ _ _ _ h=>SqL.of (h.2.2.2.2 _ _ hmt)) ?_ ?_
   ·exact⟨⟨none,none,rfl⟩,rfl,Qq _,Zc,Zh hO _⟩
   ·rintro i y zs σ H5 hy ⟨⟨v1,v2,rfl⟩,rfl,hi,hO5,s5⟩
    rw[Qj]at hy
    cases hz:us[i]? with
    | none=>rw[hz]at hy;cases hy
    | some u =>
    rw[hz]at hy
    cases hy
    have hil:i<us.length:=(Qd.mp hz).1
    have hum:=Qp hz
    obtain⟨d,hd,hu0,hdg,_⟩:=Zhf htw (Qn (f:=fun u:Addr×Zal=>u.2) hum)
    obtain⟨b,hb⟩:∃b,bs[u.2.1.toNat]? = some b:=⟨_,Qa (by rw[hbo];exact(Qd.mp hd).1)⟩
    have hbd:=hrd4.get hb hd
    have hul:=Qb (as:=us) (fun u:Addr×Zal=>u.2)
    refine⟨u.1,_,rfl,SqT.of (s5 _ _ (hus u hum)),rfl,_,_,rfl,_,_,rfl,rfl,?_⟩
    refine⟨_,rfl,_,rfl,D,_,_,_,rfl,rfl,SqL.of (s5 _ _ hD4),Ze7 hu0 hb,_,rfl,b,_,_,_,rfl,rfl,SqL.of (s5 _ _ hbd),Z3 (by rw[Qj,hdg];rfl),hO5,(by rw[Qb,Qb,Qb,Qy,sizeLine_eq];omega),⟨_,_,rfl⟩,?_,hil,Zc,fun c o hc=>?_⟩
    ·rw[QF,hz,Qe,Qe,Qe];rfl
    ·rw[Zd (Zb hc hO)];exact s5 c o hc
   rintro zs σ H5 ⟨⟨v1,v2,rfl⟩,rfl,_,hO5,s5⟩
   rw[Qb,Qw (Qf _)]at hO5
   have s05:=s2.trans (s24.trans s5)
   exact q O _ H5 ((s2.trans s24).free hO) hO5 (.node hpt ⟨_,_,htw,hln2,rfl⟩) s05
theorem ZpF{x y:Str}(h:cds x=cds y):x=y:=by
 obtain⟨x⟩:=x
 obtain⟨y⟩:=y
 have:x=y:=Array.ext' h
 rw[this]
theorem Zi2{K:PySem.W.Frag}{a:Addr}{xs:List V}{k:Nat}{D:Addr}{σ:L2.St}{H1:Hp}{g:TG}{tc:TT}{te:TE}{Q:VK}(Pv:Nat→List V→L2.St→Hp→Prop)(h0:Pv 0 [] (σ++List.replicate k none) (upd H1 D (.lst [])))
  (hl:∀i zs σ H,Pv i zs σ H→SqL K H a xs)
  (hs:∀i zs σ H x p,xs[i]? = some x→Pv i zs σ H→H p=none→g (.ref p) σ (upd H p (.tup [.int i,x])) fun σ4 H4=>tc σ4 H4 fun b H5=>if b=true then te σ4 H5 fun z H6=>H6 D=some (.lst zs)∧zs.length<sizeLine∧Pv (i+1) (zs++[z]) σ4 (upd H6 D (.lst (zs++[z]))) else Pv (i+1) zs σ4 H5)
  (hd:∀zs σ H,Pv xs.length zs σ H→Q (.ref D) H):Zc8 (Ite K a) D k σ H1 g tc te Q:=by
 refine⟨fun i m zs σ H=>m=xs.length-i∧i≤xs.length∧Pv i zs σ H,⟨xs.length,by simp,Qq _,h0⟩,?_⟩
 rintro i m zs σ H ⟨rfl,hi,p⟩
 have q1:=hl i zs σ H p
 by_cases hlt:i<xs.length
 ·refine .inr ⟨⟨xs,q1,hlt⟩,Pv (i+1),fun ys' σ' H' p'=>⟨xs.length-(i+1),by omega,rfl,hlt,p'⟩,fun x H' y=>?_⟩
  obtain⟨r,hr,rfl,e⟩:=y
  have e':=e xs q1 _ (Qa hlt)
  subst e'
  exact hs i zs σ H _ r (Qa hlt) p hr
 ·have e:i=xs.length:=by omega
  exact .inl ⟨⟨xs,q1,by omega⟩,hd zs σ H (e ▸ p)⟩
theorem ZqU(e:Str×Int):shape (kk e)=[false,true]:=rfl
def Zhz(E:List (Str×Int))(zs:List V)(H0 H:Hp):Prop:=∃ts:Zb1,zs=Zbo ts∧AtT H ts∧ts.map (·.2)=E.map kk∧∀t∈ts,H0 t.1=none
theorem Zmy{E:List (Str×Int)}{zs:List V}{H0 H H':Hp}{e:Str×Int}{n:Addr}(m:Zhz E zs H0 H)(k:∀a xs,H a=some (.tup xs)→H' a=some (.tup xs))(hn:H' n=some (.tup [.str e.1,.int e.2]))(h0:H0 n=none):Zhz (E++[e]) (zs++[.ref n]) H0 H':=by
 obtain⟨ts,rfl,ha,hE,hf⟩:=m
 refine⟨ts++[(n,kk e)],?_,fun t ht=>?_,?_,fun t ht=>?_⟩
 ·unfold Zbo;rw[Qe];rfl
 ·rcases Qk.mp ht with ht|ht
  ·exact k _ _ (ha t ht)
  ·rw[Qi.mp ht];exact hn
 ·rw[Qe,Qe,hE];rfl
 ·rcases Qk.mp ht with ht|ht
  ·exact hf t ht
  ·rw[Qi.mp ht];exact h0
theorem Zhz.keep{E:List (Str×Int)}{zs:List V}{H0 H H':Hp}(m:Zhz E zs H0 H)(k:∀a xs,H a=some (.tup xs)→H' a=some (.tup xs)):Zhz E zs H0 H':=by
 obtain⟨ts,e,ha,hE,hf⟩:=m
 exact⟨ts,e,fun t ht=>k _ _ (ha t ht),hE,hf⟩
theorem Zhz.shape{E:List (Str×Int)}{ts:Zb1}(hE:ts.map (·.2)=E.map kk):∀t∈ts,L2.shape t.2=[false,true]:=fun t ht=>by
 have:t.2∈E.map kk:=by rw[← hE];exact Qn ht
 obtain⟨e,_,he⟩:=QB.mp this
 rw[← he];rfl
theorem Znf{E:List (Str×Int)}{ts:Zb1}(hE:ts.map (·.2)=E.map kk){t:Addr×List Key}(ht:t∈ts)(hm:∀u∈ts,ZT u.2 t.2=false):∃e∈E,t.2=kk e∧∀u∈E,ZT (kk u) (kk e)=false:=by
 have:t.2∈E.map kk:=by rw[← hE];exact Qn ht
 obtain⟨e,he,h2⟩:=QB.mp this
 refine⟨e,he,h2.symm,fun u hu=>?_⟩
 have:kk u∈ts.map (·.2):=by rw[hE];exact Qn hu
 obtain⟨t',ht',e'⟩:=QB.mp this
 rw[← e',h2];exact hm t' ht'
theorem Zpt{a b:Str×Int}(h:ZT (kk b) (kk a)=false):ZG (cds a.1) (cds b.1)<0∨(a.1=b.1∧a.2≤b.2):=by
 by_cases e:a.1=b.1
 ·refine .inr ⟨e,?_⟩
  unfold kk at h
  rw[Zbb,if_pos (by rw[e]),Zbb]at h
  by_cases e2:a.2=b.2
  ·omega
  ·rw[if_neg (fun z=>e2 (Sum.inl.inj z).symm)]at h
   have:=of_decide_eq_false h
   exact Int.not_lt.mp this
 ·left
  unfold kk at h
  rw[Zbb,if_neg (fun z=>e (Sum.inr.inj z).symm)]at h
  have h1:¬ (cds b.1<cds a.1):=of_decide_eq_false h
  have h2:¬ ZG (cds b.1) (cds a.1)<0:=fun z=>h1 ((Zg3 _ _).mpr z)
  have h3:=Zbh (cds a.1) (cds b.1)
  have h4:ZG (cds a.1) (cds b.1)≠0:=fun z=>e (ZpF (Zek _ _ z))
  omega
def frE(ss:List Str)(Q:List (List Int)):Nat→List (Str×Int)
 | 0=>[]
 | i+1=>frE ss Q i++(match Q[i]? with|some (n::_)=>[(ss.getD n.toNat "",(i:Int))]|_=>[])
theorem Ze2{ss:List Str}{Q:List (List Int)}:∀ {i:Nat} {e:Str×Int},e∈frE ss Q i↔∃ (j:Nat) (n:Int) (tl:List Int),j<i∧Q[j]? = some (n::tl)∧e=(ss.getD n.toNat "",(j:Int))
 | 0,e=>⟨fun h=>(by cases h),fun h=>by obtain⟨j,n,tl,h,_⟩:=h;exact absurd h (by omega)⟩
 | i+1,e=>by
  unfold frE
  rw[List.mem_append,Ze2 (i:=i)]
  constructor
  ·rintro(⟨j,n,tl,h1,h2,h3⟩|h)
   ·exact⟨j,n,tl,by omega,h2,h3⟩
   ·cases hQ:Q[i]? with
    | none=>rw[hQ]at h;cases h
    | some d =>
     rw[hQ]at h
     cases d with
     | nil=>cases h
     | cons n tl=>exact⟨i,n,tl,by omega,hQ,Qi.mp h⟩
  ·rintro⟨j,n,tl,h1,h2,h3⟩
   by_cases hj:j<i
   ·exact .inl ⟨j,n,tl,hj,h2,h3⟩
   ·have:j=i:=by omega
    subst this
    rw[h2]
    exact .inr (List.mem_singleton.mpr h3)
structure Zd5 (ss:List Str) (R:List (List Int)) (ts:List Zal) (P:List ZF) (Q:List (List Int)):Prop where
 tk:TkW (ZdE (R.map (ZbC ss))) ts P
 ln:P.length=R.length
 lq:Q.length=R.length
 po:∀ (j:Nat) (x:ZF),P[j]? = some x→∃d,R[j]? = some d∧x.1=(j:Int)∧x.2.1=ZbC ss d∧Q[j]? = some (d.drop x.2.2)
theorem ZrF(ss:List Str)(R:List (List Int)):Zd5 ss R [] (ZdE (R.map (ZbC ss))) R:=by
 refine⟨.nil,?_,rfl,fun j x hx=>?_⟩
 ·unfold ZdE
  simp[ZaT]
 ·rw[Zh1,Qj]at hx
  cases hR:R[j]? with
  | none=>rw[hR]at hx;cases hx
  | some d=>rw[hR]at hx;cases hx;exact⟨d,rfl,rfl,rfl,rfl⟩
theorem Zd5.hd{ss:List Str}{R:List (List Int)}{ts:List Zal}{P:List ZF}{Q:List (List Int)}(h:Zd5 ss R ts P Q){j:Nat}{x:ZF}(hx:P[j]? = some x){n:Int}{tl:List Int}(hq:Q[j]? = some (n::tl)):x.2.1[x.2.2]? = some (ss.getD n.toNat "")∧∃d,R[j]? = some d∧d[x.2.2]? = some n∧d.drop (x.2.2+1)=tl:=by
 obtain⟨d,hd,e1,e2,e3⟩:=h.po j x hx
 rw[hq]at e3
 have e3':=Qm e3
 have hn:d[x.2.2]? = some n:=by
  have:=congrArg (fun l=>l[0]?) e3'
  simp at this
  exact this.symm
 refine⟨by rw[e2];unfold ZbC;rw[Qj,hn];rfl,d,hd,hn,?_⟩
 have:=congrArg List.tail e3'
 rw[List.tail_drop]at this
 exact this.symm
theorem Zd5.step{ss:List Str}{R:List (List Int)}{ts:List Zal}{P:List ZF}{Q:List (List Int)}(h:Zd5 ss R ts P Q){e:Str×Int}(he:e∈frE ss Q R.length)(hm:∀u∈frE ss Q R.length,ZT (kk u) (kk e)=false) :
  ∃ (j:Nat) (n:Int) (tl:List Int) (u:Zal) (P':List ZF),e.2=(j:Int)∧j<R.length∧Q[j]? = some (n::tl)∧ZdG R u=n∧Zd5 ss R (ts++[u]) P' (Q.set j tl):=by
 obtain⟨j,n,tl,hj,hq,rfl⟩:=Ze2.mp he
 obtain⟨x,hx⟩:∃x,P[j]? = some x:=⟨_,Qa (by rw[h.ln];exact hj)⟩
 obtain⟨d0,hd0,e1,e2,e3⟩:=h.po j x hx
 obtain⟨hz,d,hd,hn,htl⟩:=h.hd hx hq
 have hdd:d0=d:=Qm (hd0.symm.trans hd)
 subst hdd
 have nd:(ZaP P).Nodup:=by rw[h.tk.num];exact Ze1 _
 have hxm:=Qp hx
 have hw:Win (hdP P) (ZaP P) (some x.1):=by
  refine⟨Qn (f:=fun x:ZF=>x.1) hxm,cds (ss.getD n.toNat ""),by rw[ZfC nd hxm,hz];rfl,fun b hb y hy=>?_⟩
  obtain⟨v,hv,rfl⟩:=QB.mp hb
  rw[ZfC nd hv]at hy
  obtain⟨i,hi⟩:=Qae hv
  obtain⟨d2,hd2,f1,f2,f3⟩:=h.po i v hi
  have hil:i<R.length:=(Qd.mp hd2).1
  cases hq2:d2.drop v.2.2 with
  | nil =>
   rw[f2]at hy
   unfold ZbC at hy
   rw[Qj,QN (List.drop_eq_nil_iff.mp hq2)]at hy
   cases hy
  | cons m tl2 =>
   rw[hq2]at f3
   obtain⟨g1,_⟩:=h.hd hi f3
   rw[g1]at hy
   have hy':cds (ss.getD m.toNat "")=y:=Qm hy
   have hmm:=hm _ (Ze2.mpr ⟨i,m,tl2,hil,f3,rfl⟩)
   rw[f1,e1]
   by_cases hij:i=j
   ·exact .inl (by rw[hij])
   ·right
    rw[← hy']
    rcases Zpt hmm with k|⟨k1,k2⟩
    ·exact .inl k
    ·have k1':ss.getD n.toNat "" = ss.getD m.toNat "":=k1
     have k2':(j:Int)≤(i:Int):=k2
     rw[k1']
     exact .inr ⟨Zel _,by omega⟩
 refine⟨j,n,tl,(x.1,x.2.2,ss.getD n.toNat ""),Zbg P x.1,rfl,hj,hq,?_,⟨.snoc h.tk ⟨hxm,hz,hw⟩,by unfold Zbg;rw[Qb];exact h.ln,by rw[List.length_set];exact h.lq,fun i y hy=>?_⟩⟩
 ·unfold ZdG
  have:x.1.toNat=j:=by rw[e1];rfl
  rw[this,Qo,Qo,hd]
  show (d0[x.2.2]?).getD 0=n
  rw[hn];rfl
 ·unfold Zbg at hy
  rw[Qj]at hy
  cases hv:P[i]? with
  | none=>rw[hv]at hy;cases hy
  | some v =>
   rw[hv]at hy
   have hy':=Qm hy
   obtain⟨d2,hd2,f1,f2,f3⟩:=h.po i v hv
   by_cases hij:j=i
   ·subst hij
    have:v=x:=Qm (hv.symm.trans hx)
    subst this
    have ed:d2=d0:=Qm (hd2.symm.trans hd0)
    subst ed
    unfold ZbJ at hy'
    rw[if_pos rfl]at hy'
    rw[← hy']
    refine⟨d2,hd2,e1,e2,?_⟩
    rw[QaM (by rw[h.lq];exact hj)]
    show some tl=some (d2.drop (v.2.2+1))
    rw[htl]
   ·unfold ZbJ at hy'
    rw[if_neg (fun z=>hij (by rw[f1,e1]at z;omega))]at hy'
    rw[← hy',List.getElem?_set_ne hij]
    exact⟨d2,hd2,f1,f2,f3⟩
theorem Zd5.more{ss:List Str}{R:List (List Int)}{ts:List Zal}{P:List ZF}{Q:List (List Int)}(h:Zd5 ss R ts P Q)(hlt:ts.length<(R.map List.length).sum):frE ss Q R.length≠[]:=fun z=>by
 have hl:=h.tk.left (Ze1 _)
 rw[ZkM,ZiC]at hl
 have h0:Zbe P=0:=by
  unfold Zbe
  have:∀l:List Nat,(∀a∈l,a=0)→l.sum=0:=fun l hl=>by
   induction l with
   | nil=>rfl
   | cons b r ih=>rw[QL,hl b (by simp),ih fun a ha=>hl a (Qs _ ha)]
  refine this _ fun a ha=>?_
  obtain⟨x,hx,rfl⟩:=QB.mp ha
  obtain⟨j,hj⟩:=Qae hx
  obtain⟨d,hd,e1,e2,e3⟩:=h.po j x hj
  cases hq:d.drop x.2.2 with
  | nil =>
   have:=List.drop_eq_nil_iff.mp hq
   rw[e2]
   unfold ZbC
   rw[Qb];omega
  | cons n tl =>
   rw[hq]at e3
   have:(ss.getD n.toNat "",(j:Int))∈frE ss Q R.length:=Ze2.mpr ⟨j,n,tl,(Qd.mp hd).1,e3,rfl⟩
   rw[z]at this;cases this
 omega
theorem Rd.set{H:Hp}{b:Addr}{tl:List Int}:∀ {ms:List Addr} {Q:List (List Int)} {j:Nat},Rd H ms Q→ms.Nodup→ms[j]? = some b→Rd (upd H b (.lst (tl.map V.int))) ms (Q.set j tl)
 | [],_,j,_,_,h=>by simp at h
 | m::ms,[],j,h,_,_=>h.elim
 | m::ms,d::Q,0,h,nd,hb=>by
  have e:m=b:=by simpa using hb
  subst e
  refine⟨Zc,Rd.mono (fun c hc o ho=>?_) h.2⟩
  rw[Zd (fun z:c=m=>(QU.mp nd).1 (by rw[← z];exact hc))];exact ho
 | m::ms,d::Q,j+1,h,nd,hb=>by
  have hb':ms[j]? = some b:=by simpa using hb
  have hbm:=Qp hb'
  refine⟨?_,Rd.set h.2 (QU.mp nd).2 hb'⟩
  rw[Zd (fun z:m=b=>(QU.mp nd).1 (by rw[z];exact hbm))];exact h.1
theorem Zsh{n:Nat}:seqIndex? 0 (n+1)=some 0:=by unfold seqIndex?;simp
theorem sum_nat:∀R:List (List Int),(R.map fun d=>(d.length:Int)).sum=(((R.map List.length).sum:Nat):Int)
 | []=>rfl
 | x::r=>by rw[Qh,Qh,QL,QL,sum_nat r,Int.natCast_add]
def ZoU:Sp:=fun vs H Q _=>∃ (a r:Addr) (ss:List Str) (ls:List Addr) (R:List (List Int)),vs=[.ref a,.ref r]∧Zjm H a r ss ls R∧R.length≤60∧(R.map List.length).sum≤100 ∧
 ∀ (b:Addr) (out:List Int) (H':Hp),H b=none→H' b=some (.lst (out.map V.int))→Put ss R out→Zw H H'→Q (.ref b) H'
theorem Zqy(T:Zau K mg cRow cMerge):Df P w K mg base 1 "_law_put_in_one" ["_law_things_here", "_law_parts"] ZoU:=by
 refine T.t_l_put_in_one.df ZaN (fun vs H Q E h=>?_) (fun cdv f A outer s H vs Q E hr h=>?_)
 ·obtain⟨a,r,ss,ls,R,rfl,_⟩:=h
  rfl
 obtain⟨a,r,ss,ls,R,rfl,hI,hR,hS,q⟩:=h
 refine⟨_,#[Zf,#[ZcM,2,ZaN.nd,Zjx,#[iL,K,‹1›],(fun _ _ _ _=>#[cg,6,Zjx]),(fun _ _ _ _=>(@Zao _)),(fun _ _ _ _=>#[ZQ,(ZjE K),(ZaF Zjx rfl (by ac_rfl)),T.b.n_list,boot_list,#[Za,#[cw,6,Zjx],#[Ze]]])],#[Zf,#[Zu,3,ZaN.nd,(Or.inl rfl),#[Zah,#[Ze]]],#[Zf,#[Zcf,PassesOwn.never,#[Zbd,T.b.n_range,#[Za,#[Zk,(Zra K),(by rfl),T.b.n_sum,boot_sum,#[Za,#[ZaE,ZjH,#[iL,K,‹1›],(fun _ _ _ _=>#[cg,6,ZjH]),(fun _ _ _ _=>(@Zao _)),(fun _ _ _ _=>#[Zk,(Zbn K),(ZaF ZjH rfl (by ac_rfl)),T.b.n_len,Qx,#[Za,#[cw,6,ZjH],#[Ze]]])],#[Ze]]],#[Ze]]],#[ZN,4,ZaN.nd],#[Zf,#[ZcM,5,ZaN.nd,ZfT,#[iE,K,T.b.n_enumerate,#[Za,‹2›,#[Ze]]],(fun _ _ _ _=>#[gT,K,2,#[Zy,#[cg,6,ZfT],#[Zy,#[cg,7,ZfT],(@ZaY _)]]]),(fun _ _ _ _=>(@ZjO _ _ _ #[Zo,#[neD,K,hr],#[cw,7,ZfT],#[Zah,#[Ze]],(Zt _)])),(fun _ _ _ _=>#[Za1,#[Za,#[ZA,(ixL K),#[cv,0,ZfT],#[ZA,(ixL K),#[cw,7,ZfT],#[Zi]]],#[Za,#[cw,6,ZfT],#[Ze]]]])],#[Zj,#[Zam,#[ZbK,QA,QI,QJ,Zaj,‹3›,#[Za,#[ZbK,QA,PySem.F.slot_list_pop,PySem.F.type_list_pop,Zie,#[ZA,(ixL K),‹2›,#[ZA,(ixT K),#[Zk,(ZqR K hr),(by rfl),T.b.n_min,boot_min,#[Za,‹5›,#[Ze]]],#[Zi]]],#[Za,#[Zi],#[Ze]]],#[Ze]]]]]]],#[Zj,#[Zp,‹3›]]]]],?_⟩
 have hll:=hI.rd.len
 refine⟨_,rfl,r,rfl,⟨_,SqL.of hI.ru⟩,fun D hD=>?_⟩
 refine ZaX (K:=K) (a:=r) (xs:=ls.map V.ref) (fun i zs σ H2=>(∃v1 v2:Option V,σ=[some (.ref a),some (.ref r),none,none,none,none,v1])∧(∃ms:List Addr,zs=ms.map V.ref∧Rd H2 ms (R.take i)∧D ∉ ms∧ms.Nodup∧∀b∈ms,H b=none)∧i≤ls.length∧H2 D=some (.lst zs)∧Zw H H2) ?_ (fun _ _ _ _ h=>SqL.of (h.2.2.2.2 _ _ hI.ru)) ?_ ?_
 ·exact⟨⟨none,none,rfl⟩,⟨[],rfl,True.intro,fun h=>(by cases h),Qay,fun b h=>by cases h⟩,Qq _,Zc,Zh hD _⟩
 ·rintro i y zs σ H2 hy ⟨⟨v1,v2,rfl⟩,⟨ms,rfl,hrd,hDm,hnd,hfr⟩,hi,hD2,s2⟩
  rw[Qj]at hy
  cases hb:ls[i]? with
  | none=>rw[hb]at hy;cases hy
  | some b =>
  rw[hb]at hy
  cases hy
  have hil:i<ls.length:=(Qd.mp hb).1
  obtain⟨d,hd,hbd⟩:=hI.rd.at hb
  have hml:ms.length=i:=by rw[hrd.len,Qy];omega
  refine⟨_,rfl,b,_,rfl,.inl (SqL.of (s2 _ _ hbd)),fun c hc=>?_⟩
  have ncD:D≠c:=Zb hD2 hc
  have s3:=Zh hc (.lst (d.map V.int))
  refine⟨s3 _ _ hD2,(by rw[Qb,hml,sizeLine_eq];omega),⟨_,none,rfl⟩,⟨ms++[c],by rw[Qe];rfl,?_,?_,?_,?_⟩,hil,Zc,fun x o hx=>?_⟩
  ·rw[QF,hd]
   refine Rd.app (Rd.mono (fun x hx o ho=>?_) hrd) ⟨by rw[Zd ncD.symm];exact Zc,True.intro⟩
   rw[Zd (fun z:x=D=>hDm (by rw[← z];exact hx))];exact s3 _ _ ho
  ·intro h
   rcases Qk.mp h with h|h
   ·exact hDm h
   ·exact ncD (Qi.mp h)
  ·exact QT.mpr ⟨hnd,List.nodup_cons.mpr ⟨List.not_mem_nil,Qay⟩,fun x hx y hy=>by
    rw[Qi.mp hy]
    intro z
    exact(hrd.out hc) (by rw[← z];exact hx)⟩
  ·intro x hx
   rcases Qk.mp hx with hx|hx
   ·exact hfr x hx
   ·rw[Qi.mp hx];exact s2.free hc
  ·rw[Zd (Zb hx hD)];exact s3 _ _ (s2 x o hx)
 rintro zs σ H2 ⟨⟨v1,v2,rfl⟩,⟨ms,rfl,hrd,hDm,hnd,hfr⟩,_,hD2,s2⟩
 rw[Qb,Qw (by omega)]at hrd
 refine⟨(by show 0≤sizeLine;decide),fun fo hfo=>?_⟩
 have s3:=Zh hfo (.lst [])
 have hfo0:H fo=none:=s2.free hfo
 have nfD:fo≠D:=(Zb hD2 hfo).symm
 have nfm:fo ∉ ms:=hrd.out hfo
 have hr3:=s3 _ _ (s2 _ _ hI.ru)
 refine⟨_,rfl,r,rfl,⟨_,SqL.of hr3⟩,fun E1 hE1=>?_⟩
 refine ZaX (K:=K) (a:=r) (xs:=ls.map V.ref) (fun i zs σ H4=>(∃v1:Option V,σ=[some (.ref a),some (.ref r),some (.ref D),some (.ref fo),none,none,v1])∧zs=((R.take i).map fun d=>(d.length:Int)).map V.int∧i≤ls.length∧H4 E1=some (.lst zs)∧Zw (upd H2 fo (.lst [])) H4) ?_ (fun _ _ _ _ h=>SqL.of (h.2.2.2.2 _ _ hr3)) ?_ ?_
 ·exact⟨⟨none,rfl⟩,rfl,Qq _,Zc,Zh hE1 _⟩
 ·rintro i y zs σ H4 hy ⟨⟨v1,rfl⟩,rfl,hi,hE4,s4⟩
  rw[Qj]at hy
  cases hb:ls[i]? with
  | none=>rw[hb]at hy;cases hy
  | some b =>
  rw[hb]at hy
  cases hy
  have hil:i<ls.length:=(Qd.mp hb).1
  obtain⟨d,hd,hbd⟩:=hI.rd.at hb
  refine⟨_,rfl,b,_,rfl,.inl (SqL.of (s4 _ _ (s3 _ _ (s2 _ _ hbd)))),hE4,(by rw[Qb,Qb,Qy,sizeLine_eq];omega),⟨_,rfl⟩,?_,hil,Zc,fun x o hx=>?_⟩
  ·rw[QF,hd,Qe,Qe,Qb];rfl
  ·rw[Zd (Zb hx hE1)];exact s4 x o hx
 rintro zs σ H4 ⟨⟨v1,rfl⟩,rfl,_,hE4,s4⟩
 rw[Qb,Qw (by omega)]at hE4
 have hsm:(R.map fun d=>(d.length:Int)).sum=(((R.map List.length).sum:Nat):Int):=sum_nat R
 refine⟨E1,_,rfl,SqL.of hE4,by rw[Qb];omega,fun n hn=>?_,_,rfl,?_⟩
 ·obtain⟨d,hd,rfl⟩:=QB.mp hn
  obtain⟨i,hi⟩:=Qae hd
  have:=Zfo hi
  omega
 rw[hsm]
 refine⟨by omega,by omega,?_⟩
 have s24:=s3.trans s4
 have hfo4:=s4 _ _ (Zc (H:=H2) (a:=fo) (o:=.lst []))
 have hD4:=s24 _ _ hD2
 have hrd4:Rd H4 ms R:=Rd.mono (fun _ _ o ho=>s24 _ _ ho) hrd
 have s04:=s2.trans s24
 have hml:ms.length=R.length:=hrd.len
 clear s24 s3 s4 hE4 hr3 hE1 hfo hrd
 refine Zcz (fun i σ H5=>∃ (v4 v5:Option V) (ts:List Zal) (P:List ZF) (Q:List (List Int)),σ=[some (.ref a),some (.ref r),some (.ref D),some (.ref fo),v4,v5]∧Zd5 ss R ts P Q∧ts.length=i∧H5 D=some (.lst (ms.map V.ref))∧Rd H5 ms Q∧H5 fo=some (.lst ((ts.map (ZdG R)).map V.int))∧(∀d∈Q,∀n∈d,0≤n∧n<(ss.length:Int))∧Zw H H5) ⟨_,_,[],_,R,rfl,ZrF ss R,rfl,hD4,hrd4,hfo4,fun d hd=>(hI.rg d hd).1,s04⟩ ?_ ?_
 ·rintro i σ H5 hi ⟨v4,v5,ts,P,Q,rfl,hP,htl,hD5,hrd5,hfo5,hq,s5⟩
  have hlt:ts.length<(R.map List.length).sum:=by rw[htl];simpa using hi
  have hlq:=hP.lq
  refine⟨_,rfl,D,ms.map V.ref,rfl,SqL.of hD5,fun F hF=>?_⟩
  refine Zi2 (K:=K) (a:=D) (xs:=ms.map V.ref) (fun k zs σ H6=>(∃v1 v2:Option V,σ=[some (.ref a),some (.ref r),some (.ref D),some (.ref fo),some (.int (0+(i:Int))),v5,v1,v2])∧Zhz (frE ss Q k) zs H5 H6∧zs.length≤k∧k≤ms.length∧H6 F=some (.lst zs)∧Zw H5 H6) ?_ (fun _ _ _ _ h=>SqL.of (h.2.2.2.2.2 _ _ hD5)) ?_ ?_
  ·exact⟨⟨none,none,rfl⟩,⟨[],rfl,(fun t h=>by cases h),rfl,fun t h=>by cases h⟩,Qq _,Qq _,Zc,Zh hF _⟩
  ·rintro k zs σ H6 x p hx ⟨⟨v1,v2,rfl⟩,hMd,hzl,hk,hF6,s6⟩ hp
   rw[Qj]at hx
   cases hy:ms[k]? with
   | none=>rw[hy]at hx;cases hx
   | some b =>
   rw[hy]at hx
   cases hx
   have hkl:k<ms.length:=(Qd.mp hy).1
   obtain⟨d,hd,hbd⟩:=hrd5.at hy
   have sp:=Zh hp (.tup [.int k,.ref b])
   have hp3:(upd H6 p (.tup [.int k,.ref b])) p=some (.tup [.int k,.ref b]):=Zc
   have hF7:=sp _ _ hF6
   have s7:=s6.trans sp
   have hMd7:=hMd.keep (ZaG sp)
   generalize upd H6 p (.tup [.int k,.ref b])=H7 at hp3 hF7 s7 hMd7 ⊢
   refine⟨p,_,rfl,SqT.of hp3,rfl,_,_,rfl,_,_,rfl,rfl,?_⟩
   refine⟨_,rfl,(by show 0≤sizeLine;decide),fun nl hnl=>?_⟩
   have s8:=Zh hnl (.lst [])
   have hb8:=s8 _ _ (s7 _ _ hbd)
   refine⟨.list (d.map PyData.int),.list [],.lst (SqL.of hb8) (Zdn _),.lst (SqL.of Zc) .nil,Zbf _,rfl,_,rfl,?_⟩
   have s58:=s7.trans s8
   have hF8:=s8 _ _ hF7
   have hMd8:=hMd7.keep (ZaG s8)
   generalize upd H7 nl (.lst [])=H8 at s58 hF8 hMd8 hb8 ⊢
   cases d with
   | nil =>
    rw[show (if true=true then !PyData.eqv (.list (([]:List Int).map PyData.int)) (.list []) else PyData.eqv (.list (([]:List Int).map PyData.int)) (.list []))=false by decide]
    refine ZbM ⟨⟨_,_,rfl⟩,?_,by omega,hkl,hF8,s58⟩
    unfold frE
    rw[hd]
    simpa using hMd8
   | cons n tl =>
    rw[show (if true=true then !PyData.eqv (.list (((n::tl):List Int).map PyData.int)) (.list []) else PyData.eqv (.list (((n::tl):List Int).map PyData.int)) (.list []))=true by simp[PyData.eqv,PyData.eqvAll]]
    obtain⟨n0,n1⟩:=hq _ (Qp hd) n (by simp)
    refine Zdj ⟨_,rfl,_,rfl,b,_,_,_,rfl,rfl,SqL.of hb8,Z3 (j:=0) rfl,a,_,_,_,rfl,rfl,SqL.of (s58 _ _ (s5 _ _ hI.th)),ZfS n0 n1,_,rfl,(by show 2≤sizeLine;decide),fun nt hnt=>?_⟩
    have s9:=Zh hnt (.tup [.str (ss.getD n.toNat ""),.int (k:Int)])
    have hF9:=s9 _ _ hF8
    have nFn:F≠nt:=Zb hF8 hnt
    refine⟨hF9,(by rw[sizeLine_eq];omega),⟨_,_,rfl⟩,?_,by rw[Qg,Ql];omega,hkl,Zc,fun c o hc=>?_⟩
    ·unfold frE
     rw[hd]
     refine Zmy (e:=(ss.getD n.toNat "",(k:Int))) (hMd8.keep (ZaG s9)) (Zei hF9 _) ?_ (s58.free hnt)
     rw[Zd nFn.symm];exact Zc
    ·rw[Zd (Zb hc hF)];exact s9 _ _ (s58 c o hc)
  rintro zs σ H6 ⟨⟨v1,v2,rfl⟩,⟨us,rfl,hat,hE,_⟩,_,_,hF6,s6⟩
  rw[Qb,hml]at hE
  have hne:us≠[]:=fun z=>hP.more hlt (by
   rw[z]at hE
   exact List.map_eq_nil_iff.mp hE.symm)
  have hD6:=s6 _ _ hD5
  have hfo6:=s6 _ _ hfo5
  have hrd6:Rd H6 ms Q:=Rd.mono (fun _ _ o ho=>s6 _ _ ho) hrd5
  refine⟨_,rfl,.inl ⟨rfl,_,SqL.of hfo6⟩,_,rfl,_,rfl,F,us,[false,true],rfl,SqL.of hF6,hat,hne,Zhz.shape hE,fun tm htm hmin=>?_⟩
  obtain⟨e,he,et,hme⟩:=Znf hE htm hmin
  have htmH:=hat tm htm
  rw[et]at htmH
  obtain⟨j,n,tl,u,P',ej,hj,hqj,hpk,hP'⟩:=hP.step he hme
  obtain⟨b,hb⟩:∃b,ms[j]? = some b:=⟨_,Qa (by omega)⟩
  have hbd:=hrd6.get hb hqj
  have hbm:=Qp hb
  have nbf:b≠fo:=fun z=>nfm (by rw[← z];exact hbm)
  have nbD:b≠D:=fun z=>hDm (by rw[← z];exact hbm)
  refine⟨tm.1,_,_,_,rfl,rfl,SqT.of htmH,rfl,D,_,_,_,rfl,rfl,SqL.of hD6,Ze7 (show (0:Int)≤e.2 by omega) (by rw[ej];exact hb),show L2.tyV K "list" (.ref b) H6 from .inl ⟨rfl,_,SqL.of hbd⟩,b,_,0,0,_,rfl,rfl,hbd,by decide,by decide,Zsh,rfl,?_⟩
  refine⟨fo,_,_,rfl,rfl,by rw[Zd nbf.symm];exact hfo6,(by rw[Qb,Qb,sizeLine_eq];omega),?_⟩
  refine⟨_,_,ts++[u],P',Q.set j tl,rfl,hP',by rw[Qg,Ql];omega,?_,?_,?_,fun d hd m hm=>?_,fun c o hc=>?_⟩
  ·rw[Zd nfD.symm,Zd nbD.symm];exact hD6
  ·refine Rd.mono (fun c hc o ho=>?_) (hrd6.set hnd hb (tl:=tl))
   rw[Zd (fun z:c=fo=>nfm (by rw[← z];exact hc))];exact ho
  ·rw[Zc,Qe,Qe,← hpk];rfl
  ·rcases List.mem_or_eq_of_mem_set hd with hd|hd
   ·exact hq d hd m hm
   ·rw[hd]at hm
    exact hq _ (Qp hqj) m (Qs _ hm)
  ·rw[Zd (Zb hc hfo0),Zd (Zb hc (hfr b hbm))];exact s6 _ _ (s5 c o hc)
 ·rintro σ H5 ⟨v4,v5,ts,P,Q,rfl,hP,htl,hD5,hrd5,hfo5,hq,s5⟩
  exact⟨_,rfl,q fo _ H5 hfo0 hfo5 ⟨ts,P,hP.tk,by rw[htl];simp,rfl⟩ s5⟩
def spMBn(n:Nat):Sp:=ZpM n
theorem ZoW(T:Zau K mg cRow cMerge)(f_l_put_in_one:Df P w K mg base 1 "_law_put_in_one" ["_law_things_here", "_law_parts"] ZoU):∀n:Nat,Df P w K mg base (n+1) "_law_put_by" ["_law_things_here", "_law_lists_here", "_law_tree_here"] (ZpM n)
 | 0=>by
  refine T.t_l_put_by.df ZeU (fun vs H Q E h=>?_) (fun cdv f A outer s H vs Q E hr h=>?_)
  ·obtain⟨a,r,ss,ls,R,x,t,rfl,_⟩:=h
   rfl
  obtain⟨a,r,ss,ls,R,x,t,rfl,hI,hT,hok,hpl,hwt,hdp,q⟩:=h
  exact absurd hdp (by omega)
 | n+1=>by
  have f_l_put_by:=ZoW T f_l_put_in_one n
  refine T.t_l_put_by.df ZeU (fun vs H Q E h=>?_) (fun cdv f A outer s H vs Q E hr h=>?_)
  ·obtain⟨a,r,ss,ls,R,x,t,rfl,_⟩:=h
   rfl
  obtain⟨a,r,ss,ls,R,x,t,rfl,hI,hT,hok,hpl,hwt,hdp,q⟩:=h
  refine⟨_,#[Zf,#[Zag,(@Zjo _ _ _ _ #[ZdM,#[Zk,(ZdV K),(by rfl),T.b.n_isinstance,boot_isinstance,#[Za,‹2›,#[Za,#[ZbF,T.b.n_tuple,boot_tuple],#[Ze]]]]]),#[Zj,#[Zp,#[ZQ,(ZjE K),(by rfl),T.b.n_list,boot_list,#[Za,#[ZA,(ixL K),#[pv,1,(Or.inr (Or.inl rfl))],‹2›],#[Ze]]]]],#[ZD]],#[Zj,#[Zp,#[Zz,f_l_put_in_one,hr,#[Za,#[pv,0,(Or.inr (Or.inl rfl))],#[Za,#[ZaE,ZgH,(@iT _ K _ _ _ ‹2› (by rfl)),(fun _ _ _ _=>#[cg,3,ZgH]),(fun _ _ _ _=>(@Zao _)),(fun _ _ _ _=>#[Zz,f_l_put_by,hr,#[Za,#[cv,0,ZgH],#[Za,#[cv,1,ZgH],#[Za,#[cw,3,ZgH],#[Ze]]]],(ZaF ZgH rfl (by ac_rfl))])],#[Ze]]],(by rfl)]]]],?_⟩
  have hR60:R.length=ls.length:=hI.rd.len.symm
  cases hT with
  | leaf k =>
   refine⟨_,rfl,_, "tuple",_,_,rfl,.int k,ZgN K,_,rfl,Zdj ?_⟩
   have hk:0≤k∧k<(R.length:Nat):=hok
   obtain⟨l,hl⟩:∃l,ls[k.toNat]? = some l:=⟨_,Qa (by omega)⟩
   obtain⟨d,hd,hld⟩:=hI.rd.at hl
   refine⟨_,rfl,_,rfl,r,_,_,_,rfl,rfl,SqL.of hI.ru,Ze7 hk.1 hl,l,_,rfl,.inl (SqL.of hld),fun b hb=>?_⟩
   refine q b d _ hb Zc ?_ (Zh hb _)
   have e:R.getD k.toNat []=d:=by rw[Qo,hd];rfl
   rw[← e]
   exact .leaf
  | node htp hTs =>
   rename_i tp xs l
   refine⟨_,rfl,_, "tuple",_,_,rfl,.tup htp,ZdA K,_,rfl,ZbM ?_⟩
   have hxl:=hTs.len
   have hl60:l.length≤60:=hpl.2.1
   have hpls:Zcx 60 l:=hpl.2.2
   have hoks:Zcd R.length l:=hok
   have hwts:wtR R (Zbw l)≤100:=hwt
   have hdps:Zb2 l<n:=by have:Zb2 l+1<n+1:=hdp;omega
   refine⟨_,rfl,_,rfl,tp,rfl,⟨_,SqT.of htp⟩,fun D hD=>?_⟩
   refine ZfA (K:=K) (a:=tp) (xs:=xs) (fun i zs σ H2=>(∃v:Option V,σ=[some (.ref a),some (.ref r),some (.ref tp),v])∧(∃ (bs:List Addr) (os:List (List Int)),zs=bs.map V.ref∧Rd H2 bs os∧ZaV ss R (l.take i) os∧D ∉ bs)∧i≤xs.length∧H2 D=some (.lst zs)∧Zw H H2) ?_ (fun _ _ _ _ h=>SqT.of (h.2.2.2.2 _ _ htp)) ?_ ?_
   ·exact⟨⟨none,rfl⟩,⟨[],[],rfl,True.intro,.nil,fun h=>by cases h⟩,Qq _,Zc,Zh hD _⟩
   ·rintro i x zs σ H2 hx ⟨⟨v,rfl⟩,⟨bs,os,rfl,hrd,hpt,hDb⟩,hi,hD2,s2⟩
    obtain⟨t,ht,hTV⟩:=hTs.at hx
    have hil:i<xs.length:=(Qd.mp hx).1
    have hbl:bs.length=i:=by rw[hrd.len,hpt.len,Qy];omega
    refine⟨_,rfl,_,rfl,_,rfl,a,r,ss,ls,R,x,t,rfl,hI.same s2,hTV.mono (ZaG s2),Zfa _ _ _ _ hoks ht,Ze9 hpls ht,QM (ZmJ R ht) hwts,Q9 (Ze5 _ _ _ ht) hdps,fun b out H3 hb0 hb hp s3=>?_⟩
    have hD3:=s3 _ _ hD2
    have nbD:b≠D:=fun z=>by rw[z,hD2]at hb0;cases hb0
    refine⟨hD3,(by rw[Qb,hbl,sizeLine_eq];omega),⟨_,rfl⟩,⟨bs++[b],os++[out],by rw[Qe];rfl,?_,?_,?_⟩,hil,Zc,fun c o hc=>?_⟩
    ·refine Rd.app (Rd.mono (fun c hc o ho=>?_) hrd) ⟨by rw[Zd nbD];exact hb,True.intro⟩
     rw[Zd (fun z:c=D=>hDb (by rw[← z];exact hc))];exact s3 _ _ ho
    ·rw[QF,ht]
     exact hpt.app (.cons hp .nil)
    ·intro h
     rcases Qk.mp h with h|h
     ·exact hDb h
     ·exact nbD (Qi.mp h).symm
    ·rw[Zd (Zb hc hD)];exact s3 _ _ (s2 c o hc)
   rintro zs σ H2 ⟨⟨v,rfl⟩,⟨bs,os,rfl,hrd,hpt,_⟩,_,hD2,s2⟩
   rw[Qw (by omega)]at hpt
   obtain⟨hro,hso⟩:=ZaV.ok hI.rg hpt
   have hos:os.length=l.length:=hpt.len
   refine⟨a,D,ss,bs,os,rfl,⟨s2 _ _ hI.th,hI.s60,hI.key,hD2,hrd,hro⟩,by omega,by rw[hso];exact hwts,fun b out H3 hb0 hb hp s3=>?_⟩
   exact q b out H3 (s2.free hb0) hb (.node hpt hp) (s2.trans s3)
theorem Zkh{H:Hp}:∀ks:List Int,TVs H (ks.map V.int) (ks.map PT.leaf)
 | []=>.nil
 | k::r=>.cons (.leaf k) (Zkh r)
theorem Zjz{n:Nat}:∀ks:List Int,(∀v∈ks,0≤v∧v<n)→Zcd n (ks.map PT.leaf)∧ZdD (ks.map PT.leaf)∧Za2 (ks.map PT.leaf)=ks.length
 | [],_=>⟨trivial,trivial,rfl⟩
 | k::r,h=>by
  obtain⟨a,b,c⟩:=Zjz r fun v hv=>h v (Qs _ hv)
  refine⟨⟨h k (by simp),a⟩,⟨⟨Qf _,Qf _⟩,b⟩,?_⟩
  show 1+Za2 (r.map PT.leaf)=r.length+1
  omega
theorem ZhE:∀l:List PT,ZdD l→l.length≤Za2 l
 | [],_=>Qf _
 | t::r,h=>by have:=ZhE r h.2;have:=h.1.1;show r.length+1≤tLf t+Za2 r;omega
theorem ZlL{n:Nat}{l:List PT}{a m:Nat}(ok:Zcd n l)(gd:ZdD l)(h2:2≤m)(h:a+m≤l.length) :
  Zcd n (l.take a++[PT.node ((l.drop a).take m)]++l.drop (a+m))∧ZdD (l.take a++[PT.node ((l.drop a).take m)]++l.drop (a+m))∧Za2 (l.take a++[PT.node ((l.drop a).take m)]++l.drop (a+m))=Za2 l∧(l.take a++[PT.node ((l.drop a).take m)]++l.drop (a+m)).length<l.length:=by
 have e:l=l.take a++((l.drop a).take m++l.drop (a+m)):=by
  rw[← List.drop_drop,Qam,Qam]
 have ok':=ok
 have gd':=gd
 rw[e]at ok' gd'
 rw[Zde,Zde]at ok'
 rw[Zdf,Zdf]at gd'
 have ml:((l.drop a).take m).length=m:=by rw[Qy,QP];omega
 refine⟨?_,?_,?_,?_⟩
 ·rw[Zde,Zde];exact⟨⟨ok'.1,ok'.2.1,trivial⟩,ok'.2.2⟩
 ·rw[Zdf,Zdf];exact⟨⟨gd'.1,Zl7 gd'.2.1 (by omega),trivial⟩,gd'.2.2⟩
 ·have e2:Za2 l=Za2 (l.take a)+(Za2 ((l.drop a).take m)+Za2 (l.drop (a+m))):=by rw[← Zdc,← Zdc,← e]
  rw[Zdc,Zdc,e2]
  show Za2 (l.take a)+(Za2 ((l.drop a).take m)+0)+_=_
  omega
 ·rw[Qg,Qg,Qy,QP,Ql];omega
theorem Zju:∀ks:List Int,Zbw (ks.map PT.leaf)=ks∧Zcx 60 (ks.map PT.leaf)
 | []=>⟨rfl,trivial⟩
 | k::r=>by
  obtain⟨a,b⟩:=Zju r
  exact⟨by show [k]++Zbw (r.map PT.leaf)=k::r;rw[a];rfl,trivial,b⟩
theorem ZpD{l:List PT}{a m:Nat}(hp:Zcx 60 l)(h2:2≤m)(h60:m≤60)(h:a+m≤l.length):Zbw (l.take a++[PT.node ((l.drop a).take m)]++l.drop (a+m))=Zbw l∧Zcx 60 (l.take a++[PT.node ((l.drop a).take m)]++l.drop (a+m)):=by
 have e:l=l.take a++((l.drop a).take m++l.drop (a+m)):=by
  rw[← List.drop_drop,Qam,Qam]
 have ml:((l.drop a).take m).length=m:=by rw[Qy,QP];omega
 have hp':=hp
 rw[e,Zc0,Zc0]at hp'
 refine⟨?_,?_⟩
 ·conv=>rhs;rw[e]
  rw[Zc3,Zc3,Zc3,Zc3]
  show Zbw (l.take a)++(Zbw ((l.drop a).take m)++[])++_=_
  rw[Qag,Qax]
 ·rw[Zc0,Zc0]
  exact⟨⟨hp'.1,⟨by omega,by omega,hp'.2.1⟩,trivial⟩,hp'.2.2⟩
def Zsg:Sp:=fun vs H Q _=>∃ (p:Addr) (c w:Int) (n:Nat),vs=[.ref p,.int 0,.int n,.int w]∧Zak H p c∧c<2 ^ 40∧2≤w∧w≤8∧1≤n∧n≤60 ∧
 ∀ (x:V) (t:PT) (c':Int) (H':Hp),TV H' x t→tOk n t→tGd t→tPl 60 t→tLv t=Z2 0 n→tLf t=n→Zak H' p c'→c≤c'→c'≤c+130→But p H H'→Q x H'
theorem Zos(T:Zau K mg cRow cMerge)(f_l_pick:Df P w K mg base 2 "_law_pick" ["_law_left_here", "_law_many"] Zda):Df P w K mg base 3 "_law_tree" ["_law_left_here", "_law_begin", "_law_end", "_law_ways"] Zsg:=by
 refine T.t_l_tree.df Zdq (fun vs H Q E h=>?_) (fun cdv f A outer s H vs Q E hr h=>?_)
 ·obtain⟨p,c,wy,n,rfl,_⟩:=h
  rfl
 obtain⟨p,c,wy,n,rfl,hL,c1,w2,w8,n1,n60,q⟩:=h
 refine⟨_,#[Zf,#[Zu,4,Zdq.nd,(Or.inl rfl),#[ZQ,ZlG,(by rfl),T.b.n_list,boot_list,#[Za,#[ZQ,ZsF,(by rfl),T.b.n_range,boot_range,#[Za,‹1›,#[Za,‹2›,#[Ze]]]],#[Ze]]]],#[Zf,(@Zcu _ _ _ _ _ _ PassesOwn.never #[Zo,ZfW,#[Zk,(Zbn K),(by rfl),T.b.n_len,Qx,#[Za,‹4›,#[Ze]]],#[Zi],(Zt _)] #[Zf,#[Zu,5,Zdq.nd,(Or.inl rfl),#[Zk,(Zdx rfl),(by rfl),T.b.n_min,boot_min,#[Za,#[Zk,(Zbn K),(by rfl),T.b.n_len,Qx,#[Za,‹4›,#[Ze]]],#[Za,#[ZI,ZaD,#[Zi],#[Zz,f_l_pick,hr,#[Za,‹0›,#[Za,#[ZI,Zev,‹3›,#[Zi]],#[Ze]]],(by rfl)]],#[Ze]]]]],#[Zf,#[Zu,6,Zdq.nd,(Or.inl rfl),#[Zz,f_l_pick,hr,#[Za,‹0›,#[Za,#[ZI,ZaD,#[ZI,Zev,#[Zk,(Zbn K),(by rfl),T.b.n_len,Qx,#[Za,‹4›,#[Ze]]],‹5›],#[Zi]],#[Ze]]],(by rfl)]],#[Zj,#[Zbs,#[Zah,#[Za,#[ZQ,(ZrT K),(by rfl),T.b.n_tuple,boot_tuple,#[Za,#[Zc4,(slL K),‹4›,(@ZbN _ _ _ ‹6›),(@ZbN _ _ _ #[ZI,ZaD,‹6›,‹5›])],#[Ze]]],#[Ze]]],(@Zmi _ _ _ _ _ _ _ _ _ ‹4› (@ZbN _ _ _ ‹6›) (@ZbN _ _ _ #[ZI,ZaD,‹6›,‹5›]) (by intro _;rfl))]]]]),#[Zj,#[Zp,#[ZA,(ixL K),‹4›,#[Zi]]]]]],?_⟩
 have c0:=hL.ge
 have hks:∀v∈Z2 0 n,0≤v∧v<(n:Nat):=fun v hv=>by
  unfold Z2 at hv
  obtain⟨m,hm,rfl⟩:=QB.mp hv
  have:=Qab.mp hm
  omega
 have hkl:(Z2 0 n).length=n:=ZaT 0 n
 obtain⟨i1,i2,i3⟩:=Zjz (Z2 0 n) hks
 obtain⟨i4,i5⟩:=Zju (Z2 0 n)
 refine⟨_,rfl,_,rfl,0,(n:Int),rfl,fun rg hrg=>⟨rg,0,_,rfl,Zc,by omega,by omega,by omega,by omega,by omega,fun b hb=>?_⟩⟩
 rw[show ((((n:Nat):Int)-0).toNat)=n by omega]
 have s1:=(Zh hrg (.rng 0 (n:Int))).trans (Zh hb (.lst ((Z2 0 n).map V.int)))
 have hb1:(upd (upd H rg (.rng 0 (n:Int))) b (.lst ((Z2 0 n).map V.int))) b=some (.lst ((Z2 0 n).map V.int)):=Zc
 have hbH:H b=none:=(Zh hrg (.rng 0 (n:Int))).free hb
 have npb:p≠b:=by obtain⟨o,ho⟩:=hL.here;exact Zb ho hbH
 have hL1:=hL.same s1
 generalize upd (upd H rg (.rng 0 (n:Int))) b (.lst ((Z2 0 n).map V.int))=H1 at s1 hb1 hL1 ⊢
 refine⟨fun m σ H2=>∃ (xs:List V) (l:List PT) (v3 v4:Option V) (c2:Int),σ=[some (.ref p),some (.int 0),some (.int n),some (.int wy),some (.ref b),v3,v4]∧H2 b=some (.lst xs)∧TVs H2 xs l∧Zcd n l∧ZdD l∧Zcx 60 l∧Zbw l=Z2 0 n∧Za2 l=n∧1≤l.length∧Zak H2 p c2∧c≤c2∧c2+2*l.length≤c+2*n∧(∀d o,H d=some o→d≠p→H2 d=some o)∧m=l.length,
  ⟨_,(Z2 0 n).map V.int,(Z2 0 n).map PT.leaf,none,none,c,rfl,hb1,Zkh _,i1,i2,i5,i4,by rw[i3];exact hkl,by rw[Qb,hkl];exact n1,hL1,Int.le_refl _,by rw[Qb,hkl];omega,fun d o h _=>s1 _ _ h,rfl⟩,?_⟩
 clear i1 i2 i3 i4 i5 hks hkl s1 hb1 hL1
 rintro m σ H2 ⟨xs,l,v3,v4,c2,rfl,hb2,hT,ok,gd,pl,lv,lf,l1,L2,b1,b2,B2,rfl⟩
 have hxl:=hT.len
 have hll:=ZhE l gd
 have c20:=L2.ge
 refine⟨_,rfl,b,_,rfl,.inl (SqL.of hb2),_,_,rfl,rfl,_,rfl,Za9 (fun d=>?_) (fun d=>?_)⟩
 ·have d':(1:Int)<((xs.length:Nat):Int):=of_decide_eq_true d
  refine⟨_,fun σ' H' h=>h,?_⟩
  refine⟨_,rfl,b,_,rfl,.inl (SqL.of hb2),_,rfl,_,rfl,_,_,rfl,rfl,p,c2,_,rfl,L2,by omega,by omega,by omega,fun d1 H3 d10 d11 L3 B3=>⟨_,_,rfl,rfl,_,_,rfl,?_⟩⟩
  have hb3:=B3 b _ hb2 npb.symm
  obtain⟨m',hm',h2m,hmx,hm60⟩:∃m':Nat,(if 2+d1<((xs.length:Nat):Int) then 2+d1 else ((xs.length:Nat):Int))=(m':Int)∧2≤m'∧m'≤xs.length∧m'≤60:=by
   split
   ·exact⟨(2+d1).toNat,by omega,by omega,by omega,by omega⟩
   ·exact⟨xs.length,rfl,by omega,by omega,by omega⟩
  simp only[hm']
  refine⟨_,rfl,_,rfl,b,_,rfl,.inl (SqL.of hb3),_,rfl,_,_,rfl,rfl,_,_,rfl,rfl,p,c2+1,_,rfl,L3,by omega,by omega,by omega,fun at' H4 a0 a1 L4 B4=>?_⟩
  obtain⟨a,ha⟩:∃a:Nat,at'=(a:Int):=⟨at'.toNat,by omega⟩
  subst ha
  have hb4:=B4 b _ hb3 npb.symm
  have ham:a+m'≤xs.length:=by omega
  have sum:((a:Int)+(m':Int))=((a+m':Nat):Int):=by omega
  refine⟨_,rfl,_,rfl,_,rfl,_,rfl,_,rfl,_,_,rfl,rfl,_,rfl,b,_,rfl,SqL.of hb4,fun sl hsl=>?_⟩
  rw[sum,ZlD xs a (a+m') (by omega) (by omega),Nat.add_sub_cancel_left]
  refine⟨sl,_,rfl,.inl ⟨SqL.of Zc,fun tt htt=>⟨(by show 1≤sizeLine;decide),fun g hg=>?_⟩⟩⟩
  have s5:Zw H4 (upd (upd (upd H4 sl (.lst ((xs.drop a).take m'))) tt (.tup ((xs.drop a).take m'))) g (.lst [.ref tt])):=((Zh hsl _).trans (Zh htt _)).trans (Zh hg _)
  have ht5:(upd (upd (upd H4 sl (.lst ((xs.drop a).take m'))) tt (.tup ((xs.drop a).take m'))) g (.lst [.ref tt])) tt=some (.tup ((xs.drop a).take m')):=Zh hg _ _ _ Zc
  have hg5:(upd (upd (upd H4 sl (.lst ((xs.drop a).take m'))) tt (.tup ((xs.drop a).take m'))) g (.lst [.ref tt])) g=some (.lst [.ref tt]):=Zc
  have nbg:b≠g:=Zb (((Zh hsl (.lst ((xs.drop a).take m'))).trans (Zh htt (.tup ((xs.drop a).take m')))) _ _ hb4) hg
  generalize upd (upd (upd H4 sl (.lst ((xs.drop a).take m'))) tt (.tup ((xs.drop a).take m'))) g (.lst [.ref tt])=H5 at s5 ht5 hg5 ⊢
  refine⟨_,rfl,_,rfl,_,rfl,_,rfl,_,rfl,_,_,rfl,rfl,_,rfl,b,g,xs,[.ref tt],a,((a+m':Nat):Int),rfl,rfl,rfl,by rw[sum],s5 _ _ hb4,hg5,nbg,by omega,by omega,by omega,(Zb5 (by show xs.length+1≤1000;omega)),?_⟩
  rw[Qaf,Qaf]
  obtain⟨j1,j2,j3,j4⟩:=ZlL (a:=a) (m:=m') ok gd h2m (by omega)
  obtain⟨j5,j6⟩:=ZpD (a:=a) (m:=m') pl h2m hm60 (by omega)
  have tup5:∀a' ys,H2 a'=some (.tup ys)→H5 a'=some (.tup ys):=fun a' ys h=>by
   have np:a'≠p:=by
    intro e
    obtain⟨x1,x2,hp,_⟩:=L2
    rw[e,hp]at h;cases h
   exact s5 _ _ (B4 _ _ (B3 _ _ h np) np)
  have tup6:∀ (o:List V) a' ys,H5 a'=some (.tup ys)→(upd H5 b (.lst o)) a'=some (.tup ys):=fun o a' ys h=>by
   have nb:a'≠b:=by
    intro e
    rw[e,s5 _ _ hb4]at h;cases h
   rw[Zd nb];exact h
  refine⟨_,?_,_,_,_,_,c2+1+1,rfl,Zc,?_,j1,j2,j6,by rw[j5];exact lv,by rw[j3];exact lf,?_,(L4.same s5).at npb,by omega,?_,fun d o h n=>?_,rfl⟩
  ·exact j4
  ·have hT5:=hT.mono tup5
   refine((hT5.take a).app (.cons (.node ht5 ((hT5.drop a).take m')) .nil)).app (hT5.drop (a+m')) |>.mono (tup6 _)
  ·rw[Qg,Qg,Ql];omega
  ·omega
  ·rw[Zd (Zb h hbH)];exact s5 _ _ (B4 _ _ (B3 _ _ (B2 d o h n) n) n)
 ·have d':¬ (1:Int)<((xs.length:Nat):Int):=fun z=>d (decide_eq_true z)
  have x1:xs.length=1:=by omega
  have hx0:xs[0]? = some xs[0]:=Qa (by omega)
  obtain⟨t,ht,hv⟩:=hT.at hx0
  have el:l=[t]:=by
   cases l with
   | nil=>simp at ht
   | cons u r =>
    have:r=[]:=Qad (by rw[hxl,QE]at x1;omega)
    subst this
    simp at ht;rw[ht]
  subst el
  refine⟨_,rfl,b,_,_,_,rfl,rfl,SqL.of hb2,Z3 (j:=0) hx0,q _ t c2 H2 hv ok.1 gd.1 pl.1 ?_ (by have:tLf t+0=n:=lf;omega) L2 b1 (by omega) B2⟩
  have:tLv t++[]=Z2 0 n:=lv
  rwa [Qag]at this
theorem ZnV{ns:List Int}{k:Int}(h0:0≤k)(h:k<(ns.length:Nat)):atI (ns.map V.int) k=some (.int (ns.getD k.toNat 0)):=by
 have hk:k.toNat<ns.length:=by omega
 have ek:k=((k.toNat:Nat):Int):=by omega
 have q:atI (ns.map V.int) ((k.toNat:Nat):Int)=some (.int ns[k.toNat]):=Z3 (by rw[Qj,Qa hk]<;>rfl)
 rw[← ek]at q
 rw[q,Qo,Qa hk];rfl
mutual
def Zb9(ks:List Int):PT→PT
 | .leaf k=>.leaf (ks.getD k.toNat 0)
 | .node l=>.node (Za5 ks l)
def Za5(ks:List Int):List PT→List PT
 | []=>[]
 | t::r=>Zb9 ks t::Za5 ks r
end
theorem Zdo(ks:List Int):∀l:List PT,(Za5 ks l).length=l.length
 | []=>rfl
 | t::r=>by show (Za5 ks r).length+1=r.length+1;rw[Zdo ks r]
mutual
theorem Zj3(ks:List Int):∀t:PT,tLv (Zb9 ks t)=(tLv t).map fun k=>ks.getD k.toNat 0
 | .leaf k=>rfl
 | .node l=>ZhA ks l
theorem ZhA(ks:List Int):∀l:List PT,Zbw (Za5 ks l)=(Zbw l).map fun k=>ks.getD k.toNat 0
 | []=>rfl
 | t::r=>by show tLv (Zb9 ks t)++Zbw (Za5 ks r)=(tLv t++Zbw r).map _;rw[Zj3 ks t,ZhA ks r,Qe]
end
mutual
theorem ZjA(ks:List Int):∀t:PT,tDp (Zb9 ks t)=tDp t
 | .leaf k=>rfl
 | .node l=>by show Zb2 (Za5 ks l)+1=Zb2 l+1;rw[Zik ks l]
theorem Zik(ks:List Int):∀l:List PT,Zb2 (Za5 ks l)=Zb2 l
 | []=>rfl
 | t::r=>by show max (tDp (Zb9 ks t)) (Zb2 (Za5 ks r))=max (tDp t) (Zb2 r);rw[ZjA ks t,Zik ks r]
end
mutual
theorem Zkf(ks:List Int):∀t:PT,tNo (Zb9 ks t)=tNo t
 | .leaf k=>rfl
 | .node l=>by show Zct (Za5 ks l)+1=Zct l+1;rw[ZhV ks l]
theorem ZhV(ks:List Int):∀l:List PT,Zct (Za5 ks l)=Zct l
 | []=>rfl
 | t::r=>by show tNo (Zb9 ks t)+Zct (Za5 ks r)=tNo t+Zct r;rw[Zkf ks t,ZhV ks r]
end
mutual
theorem Zkk(ks:List Int):∀t:PT,tPl 60 t→tPl 60 (Zb9 ks t)
 | .leaf k,_=>trivial
 | .node l,h=>⟨by rw[Zdo];exact h.1,by rw[Zdo];exact h.2.1,Zh0 ks l h.2.2⟩
theorem Zh0(ks:List Int):∀l:List PT,Zcx 60 l→Zcx 60 (Za5 ks l)
 | [],_=>trivial
 | t::r,h=>⟨Zkk ks t h.1,Zh0 ks r h.2⟩
end
mutual
theorem ZjJ{ks:List Int}{n:Nat}(hk:∀k∈ks,0≤k∧k<(n:Nat)):∀t:PT,tOk ks.length t→tOk n (Zb9 ks t)
 | .leaf k,h=>by
  have h':0≤k∧k<(ks.length:Nat):=h
  show 0≤ks.getD k.toNat 0∧ks.getD k.toNat 0<(n:Nat)
  rw[Qo,Qa (by omega)]
  exact hk _ (QV _)
 | .node l,h=>ZhZ hk l h
theorem ZhZ{ks:List Int}{n:Nat}(hk:∀k∈ks,0≤k∧k<(n:Nat)):∀l:List PT,Zcd ks.length l→Zcd n (Za5 ks l)
 | [],_=>trivial
 | t::r,h=>⟨ZjJ hk t h.1,ZhZ hk r h.2⟩
end
theorem ZdO(ks:List Int):∀ (l:List PT) (i:Nat),Za5 ks (l.take i)=(Za5 ks l).take i
 | [],i=>by rw[List.take_nil];show []=List.take i [];rw[List.take_nil]
 | t::r,0=>rfl
 | t::r,i+1=>by show Zb9 ks t::Za5 ks (r.take i)=Zb9 ks t::(Za5 ks r).take i;rw[ZdO ks r i]
theorem Zh2(ks:List Int):∀ {l:List PT} {i:Nat} {t:PT},l[i]? = some t→(Za5 ks l)[i]? = some (Zb9 ks t)
 | [],i,t,h=>by simp at h
 | u::r,0,t,h=>by simp at h;rw[← h];rfl
 | u::r,i+1,t,h=>by
  have:=Zh2 ks (l:=r) (i:=i) (t:=t) (by simpa using h)
  show (Zb9 ks u::Za5 ks r)[i+1]? = _
  rw[List.getElem?_cons_succ];exact this
def Zrd(n:Nat):Sp:=fun vs H Q _=>∃ (x:V) (b:Addr) (t:PT) (ks:List Int),vs=[x,.ref b]∧TV H x t∧H b=some (.lst (ks.map V.int))∧tOk ks.length t∧tPl 60 t∧tDp t<n ∧
 ∀ (y:V) (H':Hp),TV H' y (Zb9 ks t)→Zw H H'→Q y H'
theorem ZmL(T:Zau K mg cRow cMerge):∀n:Nat,Df P w K mg base (n+1) "_law_renumbered" ["_law_tree_here", "_law_names"] (Zrd n)
 | 0=>by
  refine T.t_l_renumbered.df ZcP (fun vs H Q E h=>?_) (fun cdv f A outer s H vs Q E hr h=>?_)
  ·obtain⟨x,b,t,ks,rfl,_⟩:=h
   rfl
  obtain⟨x,b,t,ks,rfl,hT,hb,hok,hpl,hdp,q⟩:=h
  exact absurd hdp (by omega)
 | n+1=>by
  have f_l_renumbered:=ZmL T n
  refine T.t_l_renumbered.df ZcP (fun vs H Q E h=>?_) (fun cdv f A outer s H vs Q E hr h=>?_)
  ·obtain⟨x,b,t,ks,rfl,_⟩:=h
   rfl
  obtain⟨x,b,t,ks,rfl,hT,hb,hok,hpl,hdp,q⟩:=h
  refine⟨_,#[Zf,#[Zag,(@Zjo _ _ _ _ #[ZdM,#[Zk,(ZdV K),(by rfl),T.b.n_isinstance,boot_isinstance,#[Za,‹0›,#[Za,#[ZbF,T.b.n_tuple,boot_tuple],#[Ze]]]]]),#[Zj,#[Zp,#[ZA,(ixL K),#[pv,1,(Or.inr (Or.inl rfl))],‹0›]]],#[ZD]],#[Zj,#[Zp,#[ZQ,(ZrT K),(by rfl),T.b.n_tuple,boot_tuple,#[Za,#[ZaE,ZiF,(@iT _ K _ _ _ ‹0› (by rfl)),(fun _ _ _ _=>#[cg,2,ZiF]),(fun _ _ _ _=>(@Zao _)),(fun _ _ _ _=>#[Zz,f_l_renumbered,hr,#[Za,#[cw,2,ZiF],#[Za,#[cv,1,ZiF],#[Ze]]],(ZaF ZiF rfl (by ac_rfl))])],#[Ze]]]]]],?_⟩
  cases hT with
  | leaf k =>
   refine⟨_,rfl,_, "tuple",_,_,rfl,.int k,ZgN K,_,rfl,Zdj ?_⟩
   have hk:0≤k∧k<(ks.length:Nat):=hok
   exact⟨_,rfl,_,rfl,b,_,_,_,rfl,rfl,SqL.of hb,ZnV hk.1 hk.2,q _ H (.leaf _) (Zw.refl _)⟩
  | node htp hTs =>
   rename_i tp xs l
   refine⟨_,rfl,_, "tuple",_,_,rfl,.tup htp,ZdA K,_,rfl,ZbM ?_⟩
   have hxl:=hTs.len
   have hl60:l.length≤60:=hpl.2.1
   have hpls:Zcx 60 l:=hpl.2.2
   have hoks:Zcd ks.length l:=hok
   have hdps:Zb2 l<n:=by have:Zb2 l+1<n+1:=hdp;omega
   refine⟨_,rfl,tp,rfl,⟨_,SqT.of htp⟩,fun D hD=>?_⟩
   refine ZfA (K:=K) (a:=tp) (xs:=xs) (fun i zs σ H2=>(∃v:Option V,σ=[some (.ref tp),some (.ref b),v])∧TVs H2 zs (Za5 ks (l.take i))∧i≤xs.length∧H2 D=some (.lst zs)∧Zw H H2) ?_ (fun _ _ _ _ h=>SqT.of (h.2.2.2.2 _ _ htp)) ?_ ?_
   ·exact⟨⟨none,rfl⟩,.nil,Qq _,Zc,Zh hD _⟩
   ·rintro i x zs σ H2 hx ⟨⟨v,rfl⟩,hZ,hi,hD2,s2⟩
    obtain⟨t,ht,hTV⟩:=hTs.at hx
    have hil:i<xs.length:=(Qd.mp hx).1
    have hzl:zs.length=i:=by rw[hZ.len,Zdo,Qy];omega
    refine⟨_,rfl,_,rfl,x,b,t,ks,rfl,hTV.mono (ZaG s2),s2 _ _ hb,Zfa _ _ _ _ hoks ht,Ze9 hpls ht,Q9 (Ze5 _ _ _ ht) hdps,fun y H3 hy s3=>?_⟩
    have hD3:=s3 _ _ hD2
    refine⟨hD3,(by rw[hzl,sizeLine_eq];omega),⟨_,rfl⟩,?_,hil,Zc,fun c o hc=>?_⟩
    ·rw[ZdO,QF,Zh2 ks ht,← ZdO]
     exact((hZ.mono (ZaG s3)).app (.cons hy .nil)).mono (Zei hD3 _)
    ·rw[Zd (Zb hc hD)];exact s3 _ _ (s2 c o hc)
   rintro zs σ H2 ⟨⟨v,rfl⟩,hZ,_,hD2,s2⟩
   rw[Qw (by omega)]at hZ
   refine⟨D,_,rfl,.inl ⟨SqL.of hD2,fun tt htt=>?_⟩⟩
   have s3:=Zh htt (.tup zs)
   exact q _ _ (.node Zc (hZ.mono (ZaG s3))) (s2.trans s3)
theorem Zfz{ss:List Str}{g:List Int}{n:Int}(h:Ris ss g)(hl:∀x,g.getLast? = some x→ZT (kk (ks ss x)) (kk (ks ss n))=true):Ris ss (g++[n]):=fun p x y hx hy=>by
 have hpl:=(Qd.mp hy).1
 rw[Qg,Ql]at hpl
 rw[QW (by omega)]at hx
 by_cases e:p+1<g.length
 ·rw[QW e]at hy
  exact h p x y hx hy
 ·rw[QY (by omega),show p+1-g.length=0 by omega]at hy
  cases hy
  refine hl x ?_
  rw[List.getLast?_eq_getElem?,show g.length-1=p by omega]
  exact hx
theorem Zk4{ss:List Str}{n:Int}{c:Nat}(hn:n<c)(h:¬ ltK ss (c:Int) n):ZT (kk (ks ss n)) (kk (ks ss (c:Int)))=true:=by
 cases hb:ZT (kk (ks ss n)) (kk (ks ss (c:Int))) with
 | true=>rfl
 | false =>
  have h2:ZT (kk (ks ss (c:Int))) (kk (ks ss n))=false:=by
   unfold kk
   rw[Zbb]
   by_cases e:(Sum.inr (ks ss (c:Int)).1:Key)=Sum.inr (ks ss n).1
   ·rw[if_pos e,Zbb,if_neg (by intro z;have:=Sum.inl.inj z;show False;simp only[ks]at this;omega)]
    exact decide_eq_false (by show ¬ ((c:Int)<n);omega)
   ·rw[if_neg e]
    exact decide_eq_false h
  have:=Zg9 (Za8 _ _ hb h2)
  have:=congrArg Prod.snd this
  simp only[ks]at this
  omega
def Zg8(ss:List Str)(d:List Int):Prop:=d≠[]∧Ris ss d∧∀n∈d,0≤n∧n<ss.length
theorem ZfJ{ss:List Str}{A B:List Int}{n:Int}(hl:ZeP ss A n)(nd:(A++B).Nodup):∀a∈A.erase n,ZT (kk (ks ss n)) (kk (ks ss a))=true:=fun a ha=>by
 have hA:=(QT.mp nd).1
 have hne:a≠n:=((List.Nodup.mem_erase_iff hA).mp ha).1
 cases hb:ZT (kk (ks ss n)) (kk (ks ss a)) with
 | true=>rfl
 | false=>exact absurd (congrArg Prod.snd (Zg9 (Za8 _ _ (hl.2 a (QR ha)) hb))) hne
theorem ZfI{A B:List Int}{n:Int}(nd:(A++B).Nodup):(A.erase n++B).Nodup:=by
 have h:=QT.mp nd
 exact QT.mpr ⟨h.1.erase n,h.2.1,fun x hx y hy=>h.2.2 x (QR hx) y hy⟩
theorem ZlO{ss:List Str}{A B:List Int}{c:Nat}{gone:List Int}{done R:List (List Int)}(h:Res ss A B c gone done R):(A++B).Nodup→(∀n∈A++B,0≤n∧n<(c:Int))→c≤ss.length→(∀d∈done,Zg8 ss d)→Ris ss gone→(∀n∈gone,0≤n∧n<ss.length)→(∀x,gone.getLast? = some x→∀a∈A,ZT (kk (ks ss x)) (kk (ks ss a))=true)→(A=[]→B≠[]→gone≠[])→∀d∈R,Zg8 ss d:=by
 induction h with
 | stop0=>intro _ _ _ hd _ _ _ _;exact hd
 | stop =>
  intro _ _ _ hd hr hm _ _ d hdm
  rcases Qk.mp hdm with h|h
  ·exact hd d h
  ·rw[Qi.mp h];exact⟨by simp,hr,hm⟩
 | switch _ ih =>
  intro nd mem hc hd hr hm _ go
  refine ih (by simpa using nd) (by simpa using mem) hc (fun d hdm=>?_) (fun p x y hx=>by simp at hx) (fun n hn=>by cases hn) (fun x hx=>by simp at hx) (fun z=>by cases z)
  rcases Qk.mp hdm with h|h
  ·exact hd d h
  ·rw[Qi.mp h];exact⟨go rfl (by simp),hr,hm⟩
 | stepN l hcN _ ih =>
  intro nd mem hc hd hr hm last go
  have hn:=mem _ (QD _ l.1)
  refine ih (ZfI nd) (fun m hm'=>mem m ?_) hc hd (Zfz hr (fun x hx=>last x hx _ l.1)) (fun m hm'=>?_) (fun x hx=>?_) (fun _ _=>by simp)
  ·rcases Qk.mp hm' with h|h
   ·exact QD _ (QR h)
   ·exact Qz _ h
  ·rcases Qk.mp hm' with h|h
   ·exact hm m h
   ·rw[Qi.mp h];omega
  ·rw[List.getLast?_concat]at hx
   cases hx
   exact ZfJ l nd
 | @stepA A B c gone done R n l hcN hlt _ ih =>
  intro nd mem hc hd hr hm last go
  have hn:=mem _ (QD _ l.1)
  refine ih ?_ (fun m hm'=>?_) hcN hd (Zfz hr (fun x hx=>last x hx _ l.1)) (fun m hm'=>?_) (fun x hx=>?_) (fun _ _=>by simp)
  ·have e:=QT.mp (ZfI (n:=n) nd)
   refine QT.mpr ⟨QT.mpr ⟨e.1,by simp,fun x hx y hy=>?_⟩,e.2.1,fun x hx y hy=>?_⟩
   ·have:=mem x (QD _ (QR hx));rw[Qi.mp hy];omega
   ·rcases Qk.mp hx with hx|hx
    ·exact e.2.2 x hx y hy
    ·have:=mem y (Qz _ hy);rw[Qi.mp hx];omega
  ·have:m∈A++B∨m=(c:Int):=by
    simp only[List.mem_append,List.mem_singleton]at hm' ⊢
    rcases hm' with(h|h)|h
    ·exact .inl (.inl (QR h))
    ·exact .inr h
    ·exact .inl (.inr h)
   rcases this with h|h
   ·have:=mem m h;omega
   ·omega
  ·rcases Qk.mp hm' with h|h
   ·exact hm m h
   ·rw[Qi.mp h];omega
  ·rw[List.getLast?_concat]at hx
   cases hx
   intro a ha
   rcases Qk.mp ha with ha|ha
   ·exact ZfJ l nd a ha
   ·rw[Qi.mp ha];exact Zk4 hn.2 hlt
 | @stepB A B c gone done R n l hcN hlt _ ih =>
  intro nd mem hc hd hr hm last go
  have hn:=mem _ (QD _ l.1)
  refine ih ?_ (fun m hm'=>?_) hcN hd (Zfz hr (fun x hx=>last x hx _ l.1)) (fun m hm'=>?_) (fun x hx=>?_) (fun _ _=>by simp)
  ·have e:=QT.mp (ZfI (n:=n) nd)
   refine QT.mpr ⟨e.1,QT.mpr ⟨e.2.1,by simp,fun x hx y hy=>?_⟩,fun x hx y hy=>?_⟩
   ·have:=mem x (Qz _ hx);rw[Qi.mp hy];omega
   ·rcases Qk.mp hy with hy|hy
    ·exact e.2.2 x hx y hy
    ·have:=mem x (QD _ (QR hx));rw[Qi.mp hy];omega
  ·have:m∈A++B∨m=(c:Int):=by
    simp only[List.mem_append,List.mem_singleton]at hm' ⊢
    rcases hm' with h|h|h
    ·exact .inl (.inl (QR h))
    ·exact .inl (.inr h)
    ·exact .inr h
   rcases this with h|h
   ·have:=mem m h;omega
   ·omega
  ·rcases Qk.mp hm' with h|h
   ·exact hm m h
   ·rw[Qi.mp h];omega
  ·rw[List.getLast?_concat]at hx
   cases hx
   exact ZfJ l nd
theorem ZmZ(n:Nat):(first n).Nodup:=by
 unfold first Z2
 refine QaR _ (fun a b h=>?_) List.nodup_range
 intro z
 exact h (by omega)
theorem ZkA{ss:List Str}{k:Nat}(hk:k≤ss.length){R:List (List Int)}(h:Res ss (first k) [] k [] [] R):∀d∈R,Zg8 ss d :=
 ZlO h (by rw[Qag];exact ZmZ k) (by rw[Qag];exact fun n hn=>Zeq hn) hk (fun d h=>by cases h) (fun p x y hx=>by simp at hx) (fun n h=>by cases h) (fun x hx=>by simp at hx) (fun _ z=>absurd rfl z)
theorem Ris.far{ss:List Str}{ns:List Int}(h:Ris ss ns):∀ (d p:Nat) (x y:Int),ns[p]? = some x→ns[p+d+1]? = some y→ZT (kk (ks ss x)) (kk (ks ss y))=true
 | 0,p,x,y,hx,hy=>h p x y hx hy
 | d+1,p,x,y,hx,hy=>by
  have hl:p+d+1<ns.length:=by have:=(Qd.mp hy).1;omega
  have hz:=Qa hl
  exact Zb0 _ _ _ (h.far d p x _ hx hz) (h (p+d+1) _ _ hz hy)
theorem Ris.pw{ss:List Str}{ns:List Int}(h:Ris ss ns):ns.Pairwise fun x y=>ZT (kk (ks ss x)) (kk (ks ss y))=true:=by
 refine List.pairwise_iff_getElem.mpr fun i j hi hj hij=>?_
 exact h.far (j-i-1) i _ _ (Qa hi) (by rw[show i+(j-i-1)+1=j by omega];exact Qa hj)
theorem Zn9{ss:List Str}{x y:Int}(h:ZT (kk (ks ss x)) (kk (ks ss y))=true):LeS (ss.getD x.toNat "") (ss.getD y.toNat ""):=by
 by_cases e:ss.getD x.toNat "" = ss.getD y.toNat ""
 ·rw[e];exact LeS.refl _
 ·unfold kk at h
  rw[Zbb,if_neg (show ¬ (Sum.inr (ks ss x).1:Key)=Sum.inr (ks ss y).1 from fun z=>e (Sum.inr.inj z))]at h
  have h':cds (ss.getD x.toNat "")<cds (ss.getD y.toNat ""):=of_decide_eq_true h
  have:=(Zg3 _ _).mp h'
  exact ZiW (by omega)
theorem Zmu{ss:List Str}{d:List Int}(h:d.Pairwise fun x y=>ZT (kk (ks ss x)) (kk (ks ss y))=true):sortedS (ZbC ss d)=true:=(Zfx _).mpr (List.pairwise_map.mpr (h.imp fun h=>Zn9 h))
theorem Zn4{ss:List Str}{A B:List Int}{c:Nat}{gone:List Int}{done R:List (List Int)}(h:Res ss A B c gone done R):c≤ss.length→(R.map List.length).sum≤(done.map List.length).sum+gone.length+A.length+B.length+(ss.length-c):=by
 induction h with
 | stop0=>intro _;omega
 | stop=>intro _;rw[Qe,Qah,Qh,Qat,QL,List.sum_nil];omega
 | switch _ ih =>
  intro hc
  have:=ih hc
  rw[Qe,Qah,Qh,Qat,QL,List.sum_nil,List.length_nil]at this
  rw[List.length_nil]
  omega
 | stepN l _ _ ih =>
  intro hc
  have:=ih hc
  rw[Qg,Ql,Qap l.1]at this
  have:=Q6 l.1
  omega
 | stepA l hcl _ _ ih =>
  intro hc
  have:=ih (by omega)
  rw[Qg,Qg,Ql,Ql,Qap l.1]at this
  have:=Q6 l.1
  omega
 | stepB l hcl _ _ ih =>
  intro hc
  have:=ih (by omega)
  rw[Qg,Qg,Ql,Ql,Qap l.1]at this
  have:=Q6 l.1
  omega
theorem ZmM{ss:List Str}{k:Nat}(hk:k≤ss.length){R:List (List Int)}(h:Res ss (first k) [] k [] [] R):(R.map List.length).sum≤ss.length:=by
 have:=Zn4 h hk
 rw[Zdz,List.length_nil]at this
 simp at this
 omega
theorem ZjB:∀ {Q:List (List Int)} {j:Nat} {d e:List Int},Q[j]? = some d→((Q.set j e).map List.length).sum+d.length=(Q.map List.length).sum+e.length
 | [],j,d,e,h=>by simp at h
 | u::r,0,d,e,h=>by
  have:u=d:=by simpa using h
  subst this
  rw[List.set_cons_zero,Qh,QL,Qh,QL];omega
 | u::r,j+1,d,e,h=>by
  have:=ZjB (Q:=r) (j:=j) (d:=d) (e:=e) (by simpa using h)
  rw[List.set_cons_succ,Qh,QL,Qh,QL];omega
theorem Zj0:∀R:List (List Int),(∀d∈R,d≠[])→R.length≤(R.map List.length).sum
 | [],_=>Qf _
 | d::R,h=>by
  have:=Zj0 R fun x hx=>h x (Qs _ hx)
  have:=List.length_pos_iff.mpr (h d (by simp))
  rw[Qh,QL,QE]
  omega
def ZoG:Sp:=fun vs H Q _=>∃ (p a:Addr) (c:Int) (ss:List Str),vs=[.ref p,.ref a]∧Zak H p c∧c<2 ^ 30∧p≠a∧H a=some (.lst (ss.map V.str))∧ss.length≤60∧(∀s∈ss,s.length≤1000∧AZ s) ∧
 ∀ (r:Addr) (ls:List Addr) (R:List (List Int)) (c':Int) (H':Hp),H r=none→H' r=some (.lst (ls.map V.ref))→Rd H' ls R→(∀l∈ls,l≠p)→(∀d∈R,ZfX ss d)→(R.map List.length).sum≤60→R.length≤60→Zak H' p c'→c≤c'→c'≤c+100→But p H H'→Q (.ref r) H'
theorem Zl6(T:Zau K mg cRow cMerge)(f_l_pick:Df P w K mg base 2 "_law_pick" ["_law_left_here", "_law_many"] Zda)(f_l_room:Df P w K mg base 3 "_law_room" ["_law_left_here"] Zi8)(f_l_rounds_due:Df P w K mg base 1 "_law_rounds_due" ["_law_things_here", "_law_room_here"] (ZiY K))(f_l_in_order:Df P w K mg base 1 "_law_in_order" ["_law_things_here"] (ZeI K)):Df P w K mg base 4 "_law_lists" ["_law_left_here", "_law_things_here"] ZoG:=by
 refine T.t_l_lists.df ZdW (fun vs H Q E h=>?_) (fun cdv f A outer s H vs Q E hr h=>?_)
 ·obtain⟨p,a,c,ss,rfl,_⟩:=h
  rfl
 obtain⟨p,a,c,ss,rfl,hL,hc,npa,ha,h60,hk,q⟩:=h
 refine⟨_,#[Zf,#[Zag,#[Zo,ZfW,#[Zz,f_l_pick,hr,#[Za,‹0›,#[Za,#[Zi],#[Ze]]],(by rfl)],#[Zi],(Zt _)],#[Zj,#[Zp,#[Zz,f_l_rounds_due,hr,#[Za,‹1›,#[Za,#[Zk,(Zgz rfl),(by rfl),T.b.n_max,boot_max,#[Za,#[Zz,f_l_room,hr,#[Za,‹0›,#[Ze]],(by rfl)],#[Za,#[ZI,ZaD,#[Zi],#[ZI,Zd4,#[Zk,(Zbn K),(by rfl),T.b.n_len,Qx,#[Za,‹1›,#[Ze]]],#[Zi]]],#[Ze]]]],#[Ze]]],(by rfl)]]],#[ZD]],#[Zf,#[ZcM,2,ZdW.nd,Zo0,#[Zbd,T.b.n_range,#[Za,#[ZI,ZaD,#[Zi],#[Zz,f_l_pick,hr,#[Za,‹0›,#[Za,#[Zi],#[Ze]]],(by rfl)]],#[Ze]]],(fun _ _ _ _=>#[cg,4,Zo0]),(fun _ _ _ _=>(@Zao _)),(fun _ _ _ _=>#[Zah,#[Ze]])],#[Zf,#[Zcf,PassesOwn.never,#[iL,K,#[Zz,f_l_in_order,hr,#[Za,‹1›,#[Ze]],(by rfl)]],#[ZN,3,ZdW.nd],#[Zj,#[Zam,#[ZbK,QA,QI,QJ,Zaj,#[ZA,(ixL K),‹2›,#[Zz,f_l_pick,hr,#[Za,‹0›,#[Za,#[Zk,(Zbn K),(by rfl),T.b.n_len,Qx,#[Za,‹2›,#[Ze]]],#[Ze]]],(by rfl)]],#[Za,‹3›,#[Ze]]]]]],#[Zj,#[Zp,#[ZaE,ZjQ,#[iL,K,‹2›],(fun _ _ _ _=>#[cg,4,ZjQ]),(fun _ _ _ _=>(@ZjO _ _ _ #[Zo,#[neD,K,hr],#[cw,4,ZjQ],#[Zah,#[Ze]],(Zt _)])),(fun _ _ _ _=>#[cw,4,ZjQ])]]]]]],?_⟩
 have c0:=hL.ge
 refine⟨_,rfl,p,c,_,rfl,hL,by omega,by decide,by decide,fun pk H1 pk0 pk1 L1 B1=>⟨_,_,rfl,rfl,_,rfl,Za9 (fun d=>?_) (fun d=>?_)⟩⟩
 ·refine⟨_,rfl,_,rfl,p,c+1,rfl,L1,by omega,fun v c2 H2 v1 v16 L2 b1 b2 B2=>?_⟩
  have ha2:H2 a=some (.lst (ss.map V.str)):=B2 _ _ (B1 _ _ ha npa.symm) npa.symm
  have hln:((ss.map V.str).length:Int)=(ss.length:Int):=by rw[Qb]
  refine⟨_,rfl,a,_,rfl,.inl (SqL.of ha2),_,_,rfl,rfl,⟨by decide,by decide⟩,_,_,rfl,rfl,_,_,rfl,?_⟩
  obtain⟨rm,hrm,rm1,rm2⟩:∃rm:Nat,(if 1+((ss.map V.str).length:Int) / 8>v then 1+((ss.map V.str).length:Int) / 8 else v)=(rm:Int)∧1≤rm∧rm≤100:=by
   split
   ·exact⟨(1+((ss.map V.str).length:Int) / 8).toNat,by omega,by omega,by omega⟩
   ·exact⟨v.toNat,by omega,by omega,by omega⟩
  simp only[hrm]
  refine⟨a,ss,rm,rfl,SqL.of ha2,h60,fun s hs=>(hk s hs).1,rm2,fun r ls R H3 hr0 hr3 hrl hls hrd hres _ _ s3=>?_⟩
  have hgood:=ZkA (Nat.min_le_right _ _) hres
  have hsum:=ZmM (Nat.min_le_right _ _) hres
  have hB:But p H H3:=(B1.trans B2).trans (But.same s3)
  have hL3:=L2.same s3
  obtain⟨op,hop⟩:=L2.here
  refine q r ls R c2 H3 (Zb7 (B1.trans B2) (Zb hop hr0) hr0) hr3 hrd (fun l hl z=>?_) (fun d hd=>⟨(hgood d hd).2.2,Zmu (hgood d hd).2.1.pw⟩) (by omega) (QM (Zj0 R fun d hd=>(hgood d hd).1) (by omega)) hL3 (by omega) (by omega) hB
  rw[← z,hls l hl]at hop;cases hop
 ·have ha1:=B1 _ _ ha npa.symm
  refine⟨_,rfl,p,c+1,_,rfl,L1,by omega,by decide,by decide,fun pk2 H2 pk20 pk21 Lb B2=>⟨_,_,rfl,rfl,_,rfl,by omega,by omega,fun D hD=>?_⟩⟩
  have ha2:=B2 _ _ ha1 npa.symm
  have B02:=B1.trans B2
  obtain⟨op,hop⟩:=Lb.here
  have npD:p≠D:=Zb hop hD
  have hDH:H D=none:=Zb7 B02 npD hD
  refine ZcO (fun i zs σ H3=>(∃v:Option V,σ=[some (.ref p),some (.ref a),none,none,v])∧(∃ms:List Addr,zs=ms.map V.ref∧Rd H3 ms (List.replicate i [])∧D ∉ ms∧ms.Nodup∧∀b∈ms,b≠p∧H b=none)∧H3 D=some (.lst zs)∧Zw H2 H3) ?_ ?_ ?_
  ·exact⟨⟨none,rfl⟩,⟨[],rfl,True.intro,fun h=>(by cases h),Qay,fun b h=>by cases h⟩,Zc,Zh hD _⟩
  ·rintro i zs σ H3 hi ⟨⟨v,rfl⟩,⟨ms,rfl,hrd,hDm,hnd,hfr⟩,hD3,s3⟩
   have hml:ms.length=i:=by rw[hrd.len,Q7]
   refine⟨(by show 0≤sizeLine;decide),fun nl hnl=>?_⟩
   have s4:=Zh hnl (.lst [])
   have nDn:D≠nl:=Zb hD3 hnl
   have npn:p≠nl:=Zb (s3 _ _ hop) hnl
   refine⟨s4 _ _ hD3,(by rw[Qb,hml,sizeLine_eq];omega),⟨_,rfl⟩,⟨ms++[nl],by rw[Qe];rfl,?_,?_,?_,?_⟩,Zc,fun x o hx=>?_⟩
   ·rw[List.replicate_succ']
    refine Rd.app (Rd.mono (fun x hx o ho=>?_) hrd) ⟨by rw[Zd nDn.symm];exact Zc,True.intro⟩
    rw[Zd (fun z:x=D=>hDm (by rw[← z];exact hx))];exact s4 _ _ ho
   ·intro h
    rcases Qk.mp h with h|h
    ·exact hDm h
    ·exact nDn (Qi.mp h)
   ·exact QT.mpr ⟨hnd,List.nodup_cons.mpr ⟨List.not_mem_nil,Qay⟩,fun x hx y hy=>by
     rw[Qi.mp hy]
     intro z
     exact(hrd.out hnl) (by rw[← z];exact hx)⟩
   ·intro x hx
    rcases Qk.mp hx with hx|hx
    ·exact hfr x hx
    ·rw[Qi.mp hx];exact⟨npn.symm,Zb7 B02 npn (s3.free hnl)⟩
   ·rw[Zd (Zb hx hD)];exact s4 _ _ (s3 x o hx)
  rintro zs σ H3 ⟨⟨v,rfl⟩,⟨ms,rfl,hrd,hDm,hnd,hfr⟩,hD3,s3⟩
  have L3:=Lb.same s3
  have ha3:=s3 _ _ ha2
  refine⟨_,rfl,a,ss,rfl,SqL.of ha3,h60,fun io ns H4 hio0 hio hnl hnr hris s4=>?_⟩
  have hioD:io≠D:=(Zb hD3 hio0).symm
  have hiom:io ∉ ms:=hrd.out hio0
  have hiop:io≠p:=(Zb (s3 _ _ hop) hio0).symm
  have hml:ms.length=(1+pk2).toNat:=by rw[hrd.len,Q7]
  have B04:∀b o,H b=some o→b≠p→H4 b=some o:=fun b o hb hn=>s4 _ _ (s3 _ _ (B02 b o hb hn))
  refine⟨io,rfl,⟨_,SqL.of hio⟩,?_⟩
  have hnsl:(ns.map V.int).length=ns.length:=Qb _
  refine Zfq (K:=K) (a:=io) (xs:=ns.map V.int) (fun i σ H5=>∃ (v3:Option V) (Q:List (List Int)),σ=[some (.ref p),some (.ref a),some (.ref D),v3]∧i≤ns.length∧Rd H5 ms Q∧(∀d∈Q,d.Sublist (ns.take i))∧(Q.map List.length).sum=i∧H5 D=some (.lst (ms.map V.ref))∧H5 io=some (.lst (ns.map V.int))∧Zak H5 p (c+1+1+(i:Int))∧∀b o,H b=some o→b≠p→H5 b=some o) ?_ (fun _ _ _ _ h=>by obtain⟨_,_,_,_,_,_,_,_,h,_⟩:=h;exact SqL.of h) ?_ ?_
  ·exact⟨none,_,rfl,Qq _,Rd.mono (fun _ _ o ho=>s4 _ _ ho) hrd,fun d hd=>by rw[(List.mem_replicate.mp hd).2];exact List.nil_sublist _,by simp,s4 _ _ hD3,hio,by simpa using L3.same s4,B04⟩
  ·rintro i x σ H5 hx ⟨v3,Q,rfl,hi,hrd5,hsub,hsum,hD5,hio5,L5,B5⟩
   rw[Qj]at hx
   cases hn:ns[i]? with
   | none=>rw[hn]at hx;cases hx
   | some n =>
   rw[hn]at hx
   cases hx
   have hil:i<ns.length:=(Qd.mp hn).1
   have hmr:(ms.map V.ref).length=ms.length:=Qb _
   refine⟨_,rfl,_,rfl,_,rfl,D,_,rfl,.inl (SqL.of hD5),p,_,_,rfl,L5,by omega,by omega,by omega,fun pk3 H6 pk30 pk31 L6 B6=>?_⟩
   obtain⟨j,rfl⟩:∃j:Nat,pk3=(j:Int):=⟨pk3.toNat,by omega⟩
   have hjl:j<ms.length:=by omega
   obtain⟨b,hb⟩:∃b,ms[j]? = some b:=⟨_,Qa hjl⟩
   have hbm:=Qp hb
   obtain⟨nbp,hb0⟩:=hfr b hbm
   obtain⟨d,hd,hbd⟩:=hrd5.at hb
   have hD6:=B6 _ _ hD5 npD.symm
   have hbd6:=B6 _ _ hbd nbp
   have hrd6:Rd H6 ms Q:=Rd.mono (fun x hx o ho=>B6 _ _ ho (hfr x hx).1) hrd5
   have hio6:=B6 _ _ hio5 hiop
   have hdl:=Zfo hd
   have nbD:b≠D:=fun z=>hDm (by rw[← z];exact hbm)
   have nbi:b≠io:=fun z=>hiom (by rw[← z];exact hbm)
   refine⟨D,_,_,_,rfl,rfl,SqL.of hD6,Z3 (by rw[Qj,hb];rfl),show L2.tyV K "list" (.ref b) H6 from .inl ⟨rfl,_,SqL.of hbd6⟩,_,rfl,b,_,_,rfl,rfl,hbd6,(by rw[Qb,sizeLine_eq];omega),?_⟩
   refine⟨_,Q.set j (d++[n]),rfl,hil,?_,fun e he=>?_,?_,by rw[Zd nbD.symm];exact hD6,by rw[Zd nbi.symm];exact hio6,?_,fun x o hx hnx=>?_⟩
   ·have:=hrd6.set hnd hb (tl:=d++[n])
    rw[Qe]at this
    exact this
   ·rw[QF,hn]
    rcases List.mem_or_eq_of_mem_set he with he|he
    ·exact(hsub e he).trans (List.sublist_append_left _ _)
    ·rw[he]
     exact(hsub d (Qp hd)).append (List.Sublist.refl _)
   ·have:=ZjB (e:=d++[n]) hd
    rw[Qg,Ql]at this
    omega
   ·obtain⟨a1,a2,hp6,c6⟩:=L6
    exact⟨a1,a2,by rw[Zd nbp.symm];have:=hp6;rw[show c+1+1+((i+1:Nat):Int)=c+1+1+(i:Int)+1 by omega];exact this,by omega⟩
   ·rw[Zd (Zb hx hb0)];exact B6 _ _ (B5 x o hx hnx) hnx
  ·rintro σ H5 ⟨v3,Q,rfl,hi,hrd5,hsub,hsum,hD5,hio5,L5,B5⟩
   rw[hnsl]at hsum L5 hsub
   rw[Qw (Qf _)]at hsub
   have hpw:=hris.pw
   have hrg:∀d∈Q,ZfX ss d:=fun d hd=>⟨fun n hn=>hnr n ((hsub d hd).subset hn),Zmu (hpw.sublist (hsub d hd))⟩
   refine⟨_,rfl,D,rfl,⟨_,SqL.of hD5⟩,fun F hF=>?_⟩
   have hlq:=hrd5.len
   refine ZiP (K:=K) (a:=D) (xs:=ms.map V.ref) (fun i zs σ H6=>(∃v:Option V,σ=[some (.ref p),some (.ref a),some (.ref D),v3,v])∧(∃ (ls:List Addr) (R:List (List Int)),zs=ls.map V.ref∧Rd H6 ls R∧(∀l∈ls,l∈ms)∧(∀d∈R,d∈Q)∧(R.map List.length).sum≤((Q.take i).map List.length).sum∧R.length≤i)∧i≤ms.length∧H6 F=some (.lst zs)∧Zw H5 H6) ?_ (fun _ _ _ _ h=>SqL.of (h.2.2.2.2 _ _ hD5)) ?_ ?_
   ·exact⟨⟨none,rfl⟩,⟨[],[],rfl,True.intro,(fun l h=>by cases h),(fun d h=>by cases h),Qf _,Qf _⟩,Qq _,Zc,Zh hF _⟩
   ·rintro i y zs σ H6 hy ⟨⟨v,rfl⟩,⟨ls,R,rfl,hrd6,hls,hRQ,hsR,hRl⟩,hi6,hF6,s6⟩
    rw[Qj]at hy
    cases hb:ms[i]? with
    | none=>rw[hb]at hy;cases hy
    | some b =>
    rw[hb]at hy
    cases hy
    have hil:i<ms.length:=(Qd.mp hb).1
    obtain⟨d,hd,hbd⟩:=hrd5.at hb
    refine⟨_,rfl,(by show 0≤sizeLine;decide),fun nl hnl=>?_⟩
    have s8:=Zh hnl (.lst [])
    have hb8:=s8 _ _ (s6 _ _ hbd)
    refine⟨.list (d.map PyData.int),.list [],.lst (SqL.of hb8) (Zdn _),.lst (SqL.of Zc) .nil,Zbf _,rfl,_,rfl,?_⟩
    have s58:=s6.trans s8
    have hF8:=s8 _ _ hF6
    have hrd8:Rd (upd H6 nl (.lst [])) ls R:=Rd.mono (fun _ _ o ho=>s8 _ _ ho) hrd6
    have hts:((Q.take (i+1)).map List.length).sum=((Q.take i).map List.length).sum+d.length:=by rw[QF,hd,Qe,Qah];simp
    generalize upd H6 nl (.lst [])=H8 at s58 hF8 hrd8 hb8 ⊢
    cases d with
    | nil =>
     rw[show (if true=true then !PyData.eqv (.list (([]:List Int).map PyData.int)) (.list []) else PyData.eqv (.list (([]:List Int).map PyData.int)) (.list []))=false by decide]
     exact ZbM ⟨⟨_,rfl⟩,⟨ls,R,rfl,hrd8,hls,hRQ,by omega,by omega⟩,hil,hF8,s58⟩
    | cons n tl =>
     rw[show (if true=true then !PyData.eqv (.list (((n::tl):List Int).map PyData.int)) (.list []) else PyData.eqv (.list (((n::tl):List Int).map PyData.int)) (.list []))=true by simp[PyData.eqv,PyData.eqvAll]]
     have hrl:=hrd8.len
     have hFl:F ∉ ls++[b]:=fun h=>by
      rcases Qk.mp h with h|h
      ·obtain⟨k,hk'⟩:=Qae (hls F h)
       obtain⟨d',_,h'⟩:=hrd5.at hk'
       rw[hF]at h';cases h'
      ·rw[Qi.mp h,hbd]at hF;cases hF
     refine Zdj ⟨_,rfl,hF8,(by rw[Qb,hrl,sizeLine_eq];omega),⟨_,rfl⟩,⟨ls++[b],R++[n::tl],by rw[Qe];rfl,?_,fun l hl=>?_,fun e he=>?_,?_,by rw[Qg,Ql];omega⟩,hil,Zc,fun x o hx=>?_⟩
     ·refine Rd.mono (fun x hx o ho=>?_) (Rd.app hrd8 ⟨hb8,True.intro⟩)
      rw[Zd (fun z:x=F=>hFl (by rw[← z];exact hx))];exact ho
     ·rcases Qk.mp hl with hl|hl
      ·exact hls l hl
      ·rw[Qi.mp hl];exact Qp hb
     ·rcases Qk.mp he with he|he
      ·exact hRQ e he
      ·rw[Qi.mp he];exact Qp hd
     ·rw[Qe,Qah,hts,Qh,Qat,QL,List.sum_nil];omega
     ·rw[Zd (Zb hx hF)];exact s58 x o hx
   rintro zs σ H6 ⟨⟨v,rfl⟩,⟨ls,R,rfl,hrd6,hls,hRQ,hsR,hRl⟩,_,hF6,s6⟩
   rw[Qb]at hsR hRl
   rw[Qw (by omega)]at hsR
   have hB:But p H H6:=fun b o hb hn=>s6 _ _ (B5 b o hb hn)
   obtain⟨op5,hop5⟩:=L5.here
   refine q F ls R _ H6 ?_ hF6 hrd6 (fun l hl=>(hfr l (hls l hl)).1) (fun d hd=>hrg d (hRQ d hd)) (by omega) (by omega) (L5.same s6) (by omega) (by omega) hB
   cases e:H F with
   | none=>rfl
   | some o=>have:=B5 F o e (fun z=>by rw[z,hop5]at hF;cases hF);rw[this]at hF;cases hF
theorem ZhP:∀ns:List Int,(∀v∈ns,0≤v∧v≤10000000000)→PyData.canLayAll0 (ns.map PyData.int)=true∧PyData.depthAll (ns.map PyData.int)=0∧PyData.weightAll (ns.map PyData.int)≤41*ns.length∧PyData.intsShortAll 13 (ns.map PyData.int)=true∧PyData.showableAll (ns.map PyData.int)=true
 | [],_=>⟨rfl,rfl,Qq _,rfl,rfl⟩
 | v::r,h=>by
  obtain⟨a',b',c',d',e'⟩:=ZhP r fun x hx=>h x (Qs _ hx)
  obtain⟨h0,h1⟩:=h v (by simp)
  obtain⟨a,b,c⟩:=ZgY h0 h1
  refine⟨by simp[PyData.canLayAll0,PyData.canLay0,a'],by simp[PyData.depthAll,PyData.depth,b'],?_,by simp[PyData.intsShortAll,a,d'],by simp[PyData.showableAll,b,e']⟩
  show (PyData.int v).weight+1+PyData.weightAll (r.map PyData.int)≤41*(r.length+1)
  omega
theorem ZhS:∀ss:List Str,(∀s∈ss,s.length≤28∧AZ s)→PyData.weightAll (ss.map PyData.str)≤30*ss.length∧PyData.intsShortAll 13 (ss.map PyData.str)=true∧PyData.showableAll (ss.map PyData.str)=true
 | [],_=>⟨Qq _,rfl,rfl⟩
 | s::r,h=>by
  obtain⟨a,b,c⟩:=ZhS r fun x hx=>h x (Qs _ hx)
  refine⟨?_,by simp[PyData.intsShortAll,PyData.intsShort,b],by simp[PyData.showableAll,PyData.showable,c]⟩
  have:=(h s (by simp)).1
  have e:s.length=s.cps.size:=rfl
  simp only[List.map_cons,PyData.weightAll,PyData.weight,List.length_cons]
  omega
theorem ZeB:∀R:List (List Int),(∀d∈R,∀v∈d,0≤v∧v≤10000000000)→PyData.canLayAll0 (R.map fun d=>PyData.list (d.map PyData.int))=true∧PyData.depthAll (R.map fun d=>PyData.list (d.map PyData.int))≤1∧PyData.weightAll (R.map fun d=>PyData.list (d.map PyData.int))≤41*(R.map List.length).sum+10*R.length∧PyData.intsShortAll 13 (R.map fun d=>PyData.list (d.map PyData.int))=true∧PyData.showableAll (R.map fun d=>PyData.list (d.map PyData.int))=true
 | [],_=>⟨rfl,by simp[PyData.depthAll],Qq _,rfl,rfl⟩
 | d::R,h=>by
  obtain⟨a',b',c',d',e'⟩:=ZeB R fun x hx=>h x (Qs _ hx)
  obtain⟨a,b,c,dd,e⟩:=ZhP d (h d (by simp))
  refine⟨by simp[PyData.canLayAll0,PyData.canLay0,a,a'],?_,?_,by simp[PyData.intsShortAll,PyData.intsShort,dd,d'],by simp[PyData.showableAll,PyData.showable,e,e']⟩
  ·rw[Qh]
   simp only[PyData.depthAll,PyData.depth,b]
   omega
  ·rw[Qh,Qh,QL,QE]
   simp only[PyData.weightAll,PyData.weight]
   omega
def Zk2(ss:List Str)(R:List (List Int))(t:PT):PyData:=.list [.list (ss.map PyData.str),.list (R.map fun d=>.list (d.map PyData.int)),toD t]
theorem Zly{ss:List Str}{R:List (List Int)}{t:PT}(h1:∀s∈ss,s.length≤28∧AZ s)(hn:ss.length≤60)(hR:∀d∈R,∀v∈d,0≤v∧v≤10000000000)(hs:(R.map List.length).sum≤60)(hl:R.length≤60)(ht:tOk R.length t)(hd:tDp t≤59)(hm:tNo t≤200) :
  PyData.layable0 (Zk2 ss R t)=true∧(Zk2 ss R t).intsShort 13=true∧(Zk2 ss R t).showable=true:=by
 obtain⟨a,b,c⟩:=ZhS ss h1
 have a0:=ZfU ss fun s hs=>(h1 s hs).2
 have a1:=ZdS ss
 obtain⟨a',b',c',d',e'⟩:=ZeB R hR
 obtain⟨a2,b2,c2,d2,e2⟩:=Zim (n:=R.length) (by omega) t ht
 unfold Zk2
 refine⟨?_,by simp[PyData.intsShort,PyData.intsShortAll,b,d',d2],by simp[PyData.showable,PyData.showableAll,c,e',e2]⟩
 unfold PyData.layable0
 rw[QX,QX]
 refine⟨⟨by simp[PyData.canLay0,PyData.canLayAll0,a0,a',a2],decide_eq_true ?_⟩,decide_eq_true ?_⟩
 ·simp only[PyData.depth,PyData.depthAll,a1,b2];omega
 ·simp only[PyData.weight,PyData.weightAll];omega
theorem Zfj{K:PySem.W.Frag}{H:Hp}:∀ {ls:List Addr} {R:List (List Int)},Rd H ls R→DVs K H (ls.map V.ref) (R.map fun d=>PyData.list (d.map PyData.int))
 | [],[],_=>.nil
 | [],_::_,h=>h.elim
 | _::_,[],h=>h.elim
 | l::ls,d::R,h=>.cons (.lst (SqL.of h.1) (Zdn d)) (Zfj h.2)
theorem Zis{K:PySem.W.Frag}{H:Hp}:∀ss:List Str,DVs K H (ss.map V.str) (ss.map PyData.str)
 | []=>.nil
 | s::r=>.cons (.str s) (Zis r)
theorem Zhi{R:List (List Int)}(h:∀d∈R,∀v∈d,0≤v∧v≤10000000000):SeqAt.shaped (.list (R.map fun d=>PyData.list (d.map PyData.int)))=true:=by
 obtain⟨a,b,_⟩:=ZeB R h
 simp only[SeqAt.shaped,PyData.canLay0,PyData.depth,a,Bool.true_and]
 exact decide_eq_true (by omega)
theorem Zmr:∀ (l:List Int) (j:Nat),(l.map V.int).eraseIdx j=(l.eraseIdx j).map V.int
 | [],j=>by simp
 | a::l,0=>rfl
 | a::l,j+1=>by rw[Qh,QaL,QaL,Qh,Zmr l j]
theorem ZjM:∀ (l:List Int) (j:Nat) (h:j<l.length),(l[j]::l.eraseIdx j).Perm l
 | [],j,h=>absurd h (by simp)
 | a::l,0,h=>QaU _
 | a::l,j+1,h=>by
  have:=ZjM l j (by simpa using h)
  rw[QaL,List.getElem_cons_succ]
  exact(List.Perm.swap a _ _).trans (this.cons a)
theorem ZjG{H:Hp}{n:Nat}:∀ns:List Int,F2 (IsD H (n+1)) (ns.map V.int) (ns.map V.int)
 | []=>.nil
 | k::ks=>.cons (Zoj k) (ZjG ks)
theorem Zsx{n j:Nat}(h:j<n):seqIndex? (j:Int) n=some j:=by
 unfold seqIndex?
 simp
 omega
theorem Zme:∀ks:List Int,(Z2 0 ks.length).map (fun k=>ks.getD k.toNat 0)=ks:=fun ks=>by
 refine List.ext_getElem? fun i=>?_
 unfold Z2
 rw[Qj,Qj]
 by_cases h:i<ks.length
 ·rw[QaF h,Qa h]
  simp[List.getD_eq_getElem?_getD,List.getElem?_eq_getElem h]
 ·rw[QN (by rw[QaQ];omega),QN (by omega)]
  rfl
theorem Zqa(R:List (List Int)):wtR R (Z2 0 R.length)=(R.map List.length).sum:=by
 unfold wtR
 congr 1
 refine List.ext_getElem? fun i=>?_
 unfold Z2
 rw[Qj,Qj,Qj]
 by_cases h:i<R.length
 ·rw[QaF h,Qa h]
  simp[List.getD_eq_getElem?_getD,List.getElem?_eq_getElem h]
 ·rw[QN (by rw[QaQ];omega),QN (by omega)]
  rfl
theorem Zn2(R:List (List Int)){a b:List Int}(h:a.Perm b):wtR R a=wtR R b:=by
 unfold wtR
 exact(h.map _).sum_nat
theorem ZoB{n:Nat}{v:Int}(h:v∈Z2 0 n):0≤v∧v<(n:Nat):=by
 unfold Z2 at h
 obtain⟨m,hm,rfl⟩:=QB.mp h
 have:=Qab.mp hm
 omega
theorem Zk7(ls:List Addr)(R:List (List Int)):(if true=true then !PyData.eqv (.list (R.map fun d=>PyData.list (d.map PyData.int))) (.list []) else PyData.eqv (.list (R.map fun d=>PyData.list (d.map PyData.int))) (.list [])) = !R.isEmpty:=by
 cases R with
 | nil=>decide
 | cons t r=>simp[PyData.eqv,PyData.eqvAll]
def ZjW(K:PySem.W.Frag):Sp:=fun vs H Q _=>∃ (a:Addr) (ns:List Int),vs=[.ref a]∧SqL K H a (ns.map V.int)∧ns.length≤63∧∀H',Q (.bl true) H'
theorem Zqg{f:Addr}{fd:FuncData}(F:Fun K "law" "law" Zce f fd)(T:Zau K mg cRow cMerge):ZdC P w K mg base CX0 90 f fd ["_law_script"] (ZjW K):=by
 have f_l_mix:Df P w K mg base 1 "_law_mix" ["_law_cell", "_law_k"] ZlP:=Zqt T
 have f_l_left:Df P w K mg base 1 "_law_left" ["_law_script", "_law_k"] (Znb K):=ZnI T
 have f_l_pick:Df P w K mg base 2 "_law_pick" ["_law_left_here", "_law_many"] Zda:=ZoF T f_l_mix
 have f_l_stems:Df P w K mg base 3 "_law_stems" ["_law_left_here"] Zhn:=ZmR T f_l_pick
 have f_l_key:Df P w K mg base 3 "_law_key" ["_law_left_here", "_law_stems_here"] ZlI:=Zp2 T f_l_pick
 have f_alike_from:Df P w K mg base 1 "alike_from" ["one", "other", "far"] Zb6:=Zf7 T
 have f_alike:Df P w K mg base 2 "alike" ["one", "other"] Ze4:=ZlJ T f_alike_from
 have f_order_at:Df P w K mg base 1 "order_at" ["one", "other", "at"] Ze8:=Znm T
 have f_liken:Df P w K mg base 3 "liken" ["one", "other"] Zhp:=Znx T f_alike f_order_at
 have f_liken_from:Df P w K mg base 2 "liken_from" ["one", "other", "far"] ZcV:=Zf6 T f_alike_from f_order_at
 have f_first_break:Df P w K mg base 4 "first_break" ["keys"] (Zmx K):=Znj T f_liken
 have f_refuse_break:Df P w K mg base 5 "refuse_break" ["number", "keys"] (ZfH K):=Zk3 T f_first_break
 have f_alikes:Df P w K mg base 3 "alikes" ["row"] (Zfc K):=ZkK T f_alike
 have f_halves:Df P w K mg base 1 "halves" ["numbers"] (ZdZ K true):=ZkJ T
 have f_Row_to_go:=Zol T (P:=P) (w:=w) (base:=base)
 have f_Row_head:=Zou T f_Row_to_go
 have f_Row_init:=Zi4 T f_alikes
 have f_Merge_meet:=Zn3 T f_Row_head f_liken_from
 have f_Merge_play:=ZjU T f_Row_head f_halves f_Merge_meet 8
 have f_Merge_play_all:=Zij T f_Merge_play
 have f_Merge_init:=Zf1 T f_refuse_break f_Row_init f_Merge_play_all
 have f_Merge_coming:=Zlr T f_Row_head
 have f_way_up:Df P w K mg base 2 "way_up" ["numbers", "n"] Zne:=Zp0 T f_halves
 have f_matches_up:=Zi7 T f_way_up
 have f_Merge_play_again:=ZlA T f_Merge_meet
 have f_Merge_send_out:=ZnO T f_Row_head f_matches_up f_Merge_play_again
 have f_Merge_take:=ZnN T f_Merge_coming f_Merge_send_out
 have f_Merge_take_few:=Zph T f_Merge_take
 have f_how_many:=ZhW T (P:=P) (w:=w) (base:=base)
 have f_merged:=Zlg T f_Merge_init f_Merge_take_few f_how_many
 have f_is_number:=ZpL T (P:=P) (w:=w) (base:=base)
 have f_merged_by:=ZoY T f_is_number f_merged 61
 have f_l_things:Df P w K mg base 4 "_law_things" ["_law_left_here"] Zii:=Zk6 T f_l_pick f_l_stems f_l_key
 have f_l_room:Df P w K mg base 3 "_law_room" ["_law_left_here"] Zi8:=Zoh T f_l_pick
 have f_l_rounds_due:Df P w K mg base 1 "_law_rounds_due" ["_law_things_here", "_law_room_here"] (ZiY K):=ZoJ T
 have f_l_in_order:Df P w K mg base 1 "_law_in_order" ["_law_things_here"] (ZeI K):=Zh4 T
 have f_l_lists:=Zl6 T f_l_pick f_l_room f_l_rounds_due f_l_in_order
 have f_l_tree:=Zos T f_l_pick
 have f_l_renumbered:=ZmL T (P:=P) (w:=w) (base:=base) 61
 have f_l_put_in_one:=Zqy T (P:=P) (w:=w) (base:=base)
 have f_l_put_by:=ZoW T f_l_put_in_one 61
 have f_l_same:Df P w K mg base 5 "_law_same" ["_law_found", "_law_due"] (Zmj 4):=Zkm T 4
 refine F.ok Zbp (fun vs H Q E h=>?_) (fun cdv A outer s H vs Q E hr h=>?_)
 ·obtain⟨a,ns,rfl,_⟩:=h
  rfl
 obtain⟨a,sc,rfl,hS,h63,q⟩:=h
 refine⟨_,#[Zf,#[Zcf,PassesOwn.never,#[Zbd,T.b.n_range,#[Za,#[ZI,ZaD,#[Zi],#[Zk,(Zdx rfl),(by rfl),T.b.n_min,boot_min,#[Za,#[Zi],#[Za,#[Zk,(Zbn K),(by rfl),T.b.n_len,Qx,#[Za,‹0›,#[Ze]]],#[Ze]]]]],#[Ze]]],#[ZN,1,Zbp.nd],#[Zf,#[Zu,2,Zbp.nd,(Or.inr rfl),#[Zz,f_l_left,hr,#[Za,‹0›,#[Za,‹1›,#[Ze]]],(by rfl)]],#[Zf,#[Zu,3,Zbp.nd,(Or.inl rfl),#[Zz,f_l_things,hr,#[Za,#[pv,2,(Or.inr (Or.inl rfl))],#[Ze]],(by rfl)]],#[Zf,#[Zu,4,Zbp.nd,(Or.inl rfl),#[Zz,f_l_lists,hr,#[Za,#[pv,2,(Or.inr (Or.inl rfl))],#[Za,‹3›,#[Ze]]],(by rfl)]],#[Zj,#[Zag,#[Zo,#[neD,K,hr],‹4›,#[Zah,#[Ze]],(Zt _)],#[Zf,#[Zu,5,Zbp.nd,(Or.inl rfl),#[Zz,f_l_tree,hr,#[Za,#[pv,2,(Or.inr (Or.inl rfl))],#[Za,#[Zi],#[Za,#[Zk,(Zbn K),(by rfl),T.b.n_len,Qx,#[Za,‹4›,#[Ze]]],#[Za,#[ZI,ZaD,#[Zi],#[Zz,f_l_pick,hr,#[Za,#[pv,2,(Or.inr (Or.inl rfl))],#[Za,#[Zi],#[Ze]]],(by rfl)]],#[Ze]]]]],(by rfl)]],#[Zf,#[Zu,6,Zbp.nd,(Or.inr rfl),#[ZQ,ZlG,(by rfl),T.b.n_list,boot_list,#[Za,#[ZQ,ZqQ,(by rfl),T.b.n_range,boot_range,#[Za,#[Zk,(Zbn K),(by rfl),T.b.n_len,Qx,#[Za,‹4›,#[Ze]]],#[Ze]]],#[Ze]]]],(@Zn1 _ _ _ _ _ #[Zag,#[Zo,Zbj,#[Zz,f_l_pick,hr,#[Za,#[pv,2,(Or.inr (Or.inl rfl))],#[Za,#[Zi],#[Ze]]],(by rfl)],#[Zi],(Zt _)],#[Zj,#[Zu,6,Zbp.nd,(Or.inr rfl),#[ZaE,ZfE,#[Zbd,T.b.n_range,#[Za,#[Zk,(Zbn K),(by rfl),T.b.n_len,Qx,#[Za,‹4›,#[Ze]]],#[Ze]]],(fun _ _ _ _=>#[cg,11,ZfE]),(fun _ _ _ _=>(@Zao _)),(fun _ _ _ _=>(@Zqs K _ _ _ _ _ _ _ _ _ _ _ _ QA PySem.F.slot_list_pop PySem.F.type_list_pop Zie #[cv,6,ZfE] #[Za,#[Zz,f_l_pick,hr,#[Za,#[cv,2,ZfE],#[Za,#[Zk,(Zbn K),(ZaF ZfE rfl (by ac_rfl)),T.b.n_len,Qx,#[Za,#[cv,6,ZfE],#[Ze]]],#[Ze]]],(ZaF ZfE rfl (by ac_rfl))],#[Ze]] (by rfl) (by rfl) (by rfl) (by rfl) (by rfl) (by rfl)))]]],#[ZD]] #[Zf,#[Zu,5,Zbp.nd,(Or.inl rfl),#[Zz,f_l_renumbered,hr,#[Za,‹5›,#[Za,#[pv,6,(Or.inr (Or.inl rfl))],#[Ze]]],(by rfl)]],#[Zf,#[Zu,7,Zbp.nd,(Or.inl rfl),#[ZQ,(Zrh K hr),(by rfl),T.b.n_str,boot_str,#[Za,#[Zah,#[Za,‹3›,#[Za,‹4›,#[Za,‹5›,#[Ze]]]]],#[Ze]]]],#[Zf,#[Zu,8,Zbp.nd,(Or.inl rfl),#[Zz,f_l_put_by,hr,#[Za,‹3›,#[Za,‹4›,#[Za,‹5›,#[Ze]]]],(by rfl)]],#[Zj,#[Zcf,PassesOwn.never,#[Zbd,T.b.n_range,#[Za,#[Zi],#[Ze]]],#[ZN,9,Zbp.nd],#[Zf,#[Zu,10,Zbp.nd,(Or.inl rfl),#[Zz,f_merged_by,hr,#[Za,‹3›,#[Za,‹4›,#[Za,‹5›,#[Ze]]]],(by rfl)]],#[Zf,#[Zag,(@PW.pt _ _ _ (@Zj4 _ _ _ _ _ _ _ (@Zjo _ _ _ _ #[ZdM,#[Zz,f_l_same,hr,#[Za,‹10›,#[Za,‹8›,#[Ze]]],(by rfl)]]) (@Zhg _ _ _ _ #[Zo,Zm6,#[ZQ,(Zrh K hr),(by rfl),T.b.n_str,boot_str,#[Za,#[Zah,#[Za,‹3›,#[Za,‹4›,#[Za,‹5›,#[Ze]]]]],#[Ze]]],‹7›,(Zt _)]))),#[Zj,#[Zp,(@Zl5 _ _ _ _)]],#[ZD]],#[Zf,#[Zam,#[ZbK,QA,QI,QJ,Zaj,‹10›,#[Za,(@ZgD _ _ _ _ _ _ ZeG #[Zi]),#[Ze]]]],#[Zj,#[Zam,(@Zns _ _ _ _ _ _ _ _ _ QA PySem.F.slot_list_reverse PySem.F.type_list_reverse Zfe ‹10› (by rfl) (by rfl))]]]]]]]]]])]],#[ZD]]]]]]],#[Zj,#[Zp,(@Zl5 _ _ _ _)]]],?_⟩
 clear f_l_mix f_l_left f_l_pick f_l_stems f_l_key f_alike_from f_alike f_order_at f_liken f_liken_from f_first_break f_refuse_break f_alikes f_halves f_Row_to_go f_Row_head f_Row_init f_Merge_meet f_Merge_play f_Merge_play_all f_Merge_init f_Merge_coming f_way_up f_matches_up f_Merge_play_again f_Merge_send_out f_Merge_take f_Merge_take_few f_how_many f_merged f_is_number f_merged_by f_l_things f_l_room f_l_rounds_due f_l_in_order f_l_lists f_l_tree f_l_renumbered f_l_put_in_one f_l_put_by f_l_same
 have hlen:(sc.map V.int).length=sc.length:=by rw[Qb]
 refine⟨_,rfl,a,_,rfl,.inl hS,_,_,rfl,_,_,rfl,rfl,_,rfl,by split<;>omega,by split<;>omega,?_⟩
 refine Zcz (fun i σ H2=>∃v1 v2 v3 v4 v5 v6 v7 v8 v9 v10:Option V,σ=[some (.ref a),v1,v2,v3,v4,v5,v6,v7,v8,v9,v10]∧Zw H H2) ⟨_,_,_,_,_,_,_,_,_,_,rfl,Zw.refl _⟩ ?_ ?_
 ·rintro ii σ H2 hi ⟨v1,v2,v3,v4,v5,v6,v7,v8,v9,v10,rfl,s2⟩
  have hi8:(ii:Int)<65:=by split at hi<;>omega
  clear hi
  refine⟨_,rfl,_,rfl,a,sc,_,rfl,s2.seq hS,h63,by omega,by omega,fun p H3 hp L3 s3=>?_⟩
  have nHp:H p=none:=s2.free hp
  refine⟨_,rfl,p,0,rfl,L3,by decide,fun th ss c4 H4 hth0 hth h60 h28 L4 a1 a2 B4=>?_⟩
  have npth:p≠th:=by obtain⟨o,ho⟩:=L3.here;exact Zb ho hth0
  have hk1000:∀s∈ss,s.length≤1000∧AZ s:=fun s hs=>⟨by have:=(h28 s hs).1;omega,(h28 s hs).2⟩
  refine⟨_,rfl,_,rfl,p,th,c4,ss,rfl,L4,by omega,npth,hth,h60,hk1000,fun r ls R c5 H5 hr0 hr hrd hlp hrg hsum hRl L5 b1 b2 B5=>?_⟩
  have hth5:=B5 _ _ hth npth.symm
  have npr:p≠r:=by obtain⟨o,ho⟩:=L4.here;exact Zb ho hr0
  have B05:∀b o,H b=some o→H5 b=some o:=fun b o hb=>B5 _ _ (B4 b o (s3 b o (s2 b o hb)) (Zb hb nHp)) (Zb hb nHp)
  refine⟨_,rfl,(by show 0≤sizeLine;decide),fun nl hnl=>?_⟩
  have s6:=Zh hnl (.lst [])
  have hrd6:Rd (upd H5 nl (.lst [])) ls R:=Rd.mono (fun _ _ o ho=>s6 _ _ ho) hrd
  have hvs:∀d∈R,∀v∈d,0≤v∧v≤10000000000:=fun d hd v hv=>by have:=(hrg d hd).1 v hv;omega
  refine⟨.list (R.map fun d=>.list (d.map PyData.int)),.list [],.lst (SqL.of (s6 _ _ hr)) (Zfj hrd6),.lst (SqL.of Zc) .nil,Zhi hvs,rfl,_,rfl,?_⟩
  rw[Zk7 ls R]
  have hth6:=s6 _ _ hth5
  have hr6:=s6 _ _ hr
  have L6:=L5.same s6
  have B06:∀b o,H b=some o→(upd H5 nl (.lst [])) b=some o:=fun b o hb=>s6 _ _ (B05 b o hb)
  generalize upd H5 nl (.lst [])=H6 at hrd6 hth6 hr6 L6 B06 ⊢
  clear B05 s6 hrd hr hth5 L5 B5 hnl hr0 L4 B4 hth hth0 L3 s3 s2 hp
  cases hRe:R.isEmpty with
  | true=>exact ZbM ⟨_,_,_,_,_,_,_,_,_,_,rfl,B06⟩
  | false =>
  have hR1:1≤R.length:=by cases R with|nil=>cases hRe|cons _ _=>exact QaB (Qq _)
  refine Zdj ?_
  have hrn:(ls.map V.ref).length=R.length:=by rw[Qb];exact hrd6.len
  refine⟨_,rfl,_,rfl,r,_,rfl,.inl (SqL.of hr6),_,rfl,p,c5,_,rfl,L6,by omega,by decide,by decide,fun pk H7 pk0 pk1 L7 B7=>⟨_,_,rfl,rfl,p,c5+1,_,(ls.map V.ref).length,rfl,L7,by omega,by omega,by omega,by omega,by omega,fun x t c8 H8 hTV hok hgd hpl hlv hlf L8 b3 b4 B8=>?_⟩⟩
  rw[hrn]at hok hlv hlf
  have B68:=B7.trans B8
  have hth8:=B68 _ _ hth6 npth.symm
  have hr8:=B68 _ _ hr6 npr.symm
  have hrd8:Rd H8 ls R:=Rd.mono (fun l hl o ho=>B68 _ _ ho (hlp l hl)) hrd6
  have B08:∀b o,H b=some o→H8 b=some o:=fun b o hb=>B68 _ _ (B06 b o hb) (Zb hb nHp)
  refine⟨_,rfl,r,_,rfl,.inl (SqL.of hr8),_,rfl,fun rg hrg0=>⟨rg,0,_,rfl,Zc,by omega,by omega,by omega,by omega,by omega,fun nm hnm=>?_⟩⟩
  rw[show ((((ls.map V.ref).length:Nat):Int)-0).toNat=R.length by rw[hrn];omega]
  have s9:=(Zh hrg0 (.rng 0 (((ls.map V.ref).length:Nat):Int))).trans (Zh hnm (.lst ((Z2 0 R.length).map V.int)))
  have hnm9:(upd (upd H8 rg (.rng 0 (((ls.map V.ref).length:Nat):Int))) nm (.lst ((Z2 0 R.length).map V.int))) nm=some (.lst ((Z2 0 R.length).map V.int)):=Zc
  have hnm8:H8 nm=none:=(Zh hrg0 (.rng 0 (((ls.map V.ref).length:Nat):Int))).free hnm
  generalize upd (upd H8 rg (.rng 0 (((ls.map V.ref).length:Nat):Int))) nm (.lst ((Z2 0 R.length).map V.int))=H9 at s9 hnm9 ⊢
  clear hnm hrg0
  have L9:=L8.same s9
  have npm:p≠nm:=by obtain⟨o,ho⟩:=L8.here;exact Zb ho hnm8
  refine⟨fun σ H10=>∃ (nn:Addr) (ks:List Int),σ=[some (.ref a),some (.int (0+(ii:Int))),some (.ref p),some (.ref th),some (.ref r),some x,some (.ref nn),v7,v8,v9,v10]∧H10 nn=some (.lst (ks.map V.int))∧ks.Perm (Z2 0 R.length)∧∀b o,H8 b=some o→b≠p→H10 b=some o,?_,?_⟩
  ·refine⟨_,rfl,p,c8,_,rfl,L9,by omega,by decide,by decide,fun pk2 H10 pk20 pk21 L10 B10=>⟨rfl,_,rfl,Za9 (fun d=>?_) (fun d=>?_)⟩⟩
   ·have hr10:=B10 _ _ (s9 _ _ hr8) npr.symm
    have hnm10:=B10 _ _ hnm9 npm.symm
    refine⟨_,rfl,r,_,rfl,.inl (SqL.of hr10),_,rfl,by omega,by omega,fun F hF=>?_⟩
    have npF:p≠F:=by obtain⟨o,ho⟩:=L10.here;exact Zb ho hF
    have nmF:nm≠F:=Zb hnm10 hF
    have hF8:H8 F=none:=s9.free (Zb7 B10 npF hF)
    refine ZcO (fun i zs σ H11=>(∃v:Option V,σ=[some (.ref a),some (.int (0+(ii:Int))),some (.ref p),some (.ref th),some (.ref r),some x,some (.ref nm),v7,v8,v9,v10,v])∧(∃ps qs:List Int,zs=ps.map V.int∧H11 nm=some (.lst (qs.map V.int))∧(ps++qs).Perm (Z2 0 R.length)∧ps.length=i)∧H11 F=some (.lst zs)∧Zak H11 p (c8+1+(i:Int))∧∀b o,H8 b=some o→b≠p→H11 b=some o) ?_ ?_ ?_
    ·refine⟨⟨none,rfl⟩,⟨[],Z2 0 R.length,rfl,by rw[Zd nmF];exact hnm10,QaU _,rfl⟩,Zc,?_,fun b o hb hn=>?_⟩
     ·have:=L10.new hF (o:=.lst [])
      simpa using this
     ·rw[Zd (Zb hb hF8)];exact B10 _ _ (s9 _ _ hb) hn
    ·rintro i zs σ H11 hi ⟨⟨v,rfl⟩,⟨ps,qs,rfl,hq11,hpm,hpl⟩,hF11,L11,B11⟩
     have hql:qs.length+i=R.length:=by have:=hpm.length_eq;rw[Qg,ZaT]at this;omega
     have hi':i<R.length:=by have:=hi;rw[show ((((ls.map V.ref).length:Nat):Int)).toNat=R.length by rw[hrn];omega]at this;exact this
     have hqm:(qs.map V.int).length=qs.length:=Qb _
     have c80:=L8.ge
     refine⟨_,rfl,show L2.tyV K "list" (.ref nm) H11 from .inl ⟨rfl,_,SqL.of hq11⟩,_,rfl,_,rfl,nm,_,rfl,.inl (SqL.of hq11),p,_,_,rfl,L11,by omega,by omega,by omega,fun pk3 H12 pk30 pk31 L12 B12=>?_⟩
     obtain⟨j,rfl⟩:∃j:Nat,pk3=(j:Int):=⟨pk3.toNat,by omega⟩
     have hj:j<qs.length:=by omega
     have hq12:=B12 _ _ hq11 npm.symm
     have hF12:=B12 _ _ hF11 npF.symm
     refine⟨nm,_,(j:Int),j,_,rfl,rfl,hq12,by omega,by omega,Zsx (by omega),by rw[Qj,Qa hj];rfl,?_⟩
     refine⟨by rw[Zd nmF.symm];exact hF12,(by rw[Qb,sizeLine_eq];omega),⟨_,rfl⟩,⟨ps++[qs[j]],qs.eraseIdx j,by rw[Qe];rfl,?_,?_,by rw[Qg,Ql];omega⟩,Zc,?_,fun b o hb hn=>?_⟩
     ·rw[Zd nmF,Zc,Zmr]
     ·refine List.Perm.trans ?_ hpm
      rw[Qax]
      exact(ZjM qs j hj).append_left ps
     ·obtain⟨a1',a2',hp12,c12⟩:=L12
      exact⟨a1',a2',by rw[Zd npF,Zd npm,show c8+1+((i+1:Nat):Int)=c8+1+(i:Int)+1 by omega];exact hp12,by omega⟩
     ·rw[Zd (Zb hb hF8),Zd (Zb hb hnm8)];exact B12 _ _ (B11 b o hb hn) hn
    rintro zs σ H11 ⟨⟨v,rfl⟩,⟨ps,qs,rfl,_,hpm,hpl⟩,hF11,_,B11⟩
    have hpl':ps.length=R.length:=by rw[hpl,hrn];omega
    have hq0:qs=[]:=by
     have:=hpm.length_eq
     rw[Qg,ZaT]at this
     exact Qad (by omega)
    rw[hq0,Qag]at hpm
    exact⟨F,ps,rfl,hF11,hpm,B11⟩
   ·exact⟨nm,_,rfl,B10 _ _ hnm9 npm.symm,QaU _,fun b o hb hn=>B10 _ _ (s9 _ _ hb) hn⟩
  ·rintro σ H10 ⟨nn,ks,rfl,hks,hpm,B10⟩
   have hkl:ks.length=R.length:=by rw[hpm.length_eq,ZaT]
   have hkm:∀k∈ks,0≤k∧k<(R.length:Nat):=fun k hk=>ZoB (hpm.mem_iff.mp hk)
   have hTV10:TV H10 x t:=hTV.mono fun b xs hb=>B10 _ _ hb fun z=>by
    obtain⟨x1,x2,hp8,_⟩:=L8
    rw[z,hp8]at hb;cases hb
   have hth10:=B10 _ _ hth8 npth.symm
   have hr10:=B10 _ _ hr8 npr.symm
   have hrd10:Rd H10 ls R:=Rd.mono (fun l hl o ho=>B10 _ _ ho (hlp l hl)) hrd8
   have B010:∀b o,H b=some o→H10 b=some o:=fun b o hb=>B10 _ _ (B08 b o hb) (Zb hb nHp)
   have hdp:tDp t≤59:=by have:=hgd.1;omega
   have hno:tNo t≤200:=by have:=hgd.2;omega
   refine⟨_,rfl,_,rfl,x,nn,t,ks,rfl,hTV10,hks,by rw[hkl];exact hok,hpl,by omega,fun y H11 hy s11=>?_⟩
   have ok':tOk R.length (Zb9 ks t):=ZjJ hkm t (by rw[hkl];exact hok)
   have pl':tPl 60 (Zb9 ks t):=Zkk ks t hpl
   have dp':tDp (Zb9 ks t)≤59:=by rw[ZjA];exact hdp
   have no':tNo (Zb9 ks t)≤200:=by rw[Zkf];exact hno
   have lv':tLv (Zb9 ks t)=ks:=by rw[Zj3,hlv,← hkl];exact Zme ks
   have wt':wtR R (tLv (Zb9 ks t))≤60:=by rw[lv',Zn2 R hpm,Zqa];exact hsum
   generalize Zb9 ks t=t' at ok' pl' dp' no' lv' wt' hy ⊢
   have I11:Zjm H11 th r ss ls R:=⟨s11 _ _ hth10,h60,hk1000,s11 _ _ hr10,Rd.mono (fun _ _ o ho=>s11 _ _ ho) hrd10,hrg⟩
   have s011:Zw H H11:=fun b o hb=>s11 _ _ (B010 b o hb)
   obtain⟨g1,g2,g3⟩:=Zly h28 h60 hvs hsum hRl ok' dp' no'
   have dvA:∀ {H':Hp} (dl:Addr),Zjm H' th r ss ls R→TV H' y t'→H' dl=some (.lst [.ref th,.ref r,y])→DV K H' (.ref dl) (Zk2 ss R t'):=fun dl I T' h=>.lst (SqL.of h) (.cons (.lst (SqL.of I.th) (Zis ss)) (.cons (.lst (SqL.of I.ru) (Zfj I.rd)) (.cons T'.dv .nil)))
   clear hTV10 hth10 hr10 hrd10 B010 hks B10 hTV hok hgd hpl hlv hlf B08 hrd8 hr8 hth8 L8 L9 B8 B7 L7 B68 hrd6 hth6 hr6 L6 B06 hnm9 hnm8 s9
   refine⟨_,rfl,_,rfl,_,rfl,(by show 3≤sizeLine;decide),fun dl hdl=>?_⟩
   have s12:=Zh hdl (.lst [.ref th,.ref r,y])
   have I12:=I11.same s12
   have hy12:=hy.mono (ZaG s12)
   refine⟨_,_,rfl,dvA dl I12 hy12 Zc,g1,g2,g3,?_⟩
   have s012:=s011.trans s12
   generalize upd H11 dl (.lst [.ref th,.ref r,y])=H12 at I12 hy12 s012 ⊢
   refine⟨_,rfl,_,rfl,_,rfl,th,r,ss,ls,R,y,t',rfl,I12,hy12,ok',pl',by omega,by omega,fun b out H13 hb0 hb hp13 s13=>?_⟩
   have I13:=I12.same s13
   have hy13:=hy12.mono (ZaG s13)
   have hol:=(Ze0.ok hrg hp13).2
   refine⟨_,rfl,by decide,by decide,?_⟩
   refine Zcz (fun i σ H14=>∃v9 v10:Option V,σ=[some (.ref a),some (.int (0+(ii:Int))),some (.ref p),some (.ref th),some (.ref r),some y,some (.ref nn),some (.str (Zpn (Zk2 ss R t'))),some (.ref b),v9,v10]∧Zw H13 H14) ⟨_,_,rfl,Zw.refl _⟩ ?_ ?_
   ·rintro jj σ H14 hj ⟨v9',v10',rfl,s14⟩
    have I14:=I13.same s14
    have hy14:=hy13.mono (ZaG s14)
    refine⟨_,rfl,_,rfl,_,rfl,th,r,ss,ls,R,y,t',rfl,I14,hy14,ok',pl',by omega,by omega,fun fo out' H15 hfo0 hfo hp15 s15=>?_⟩
    have eo:out'=out:=hp15.one hp13
    subst eo
    have I15:=I14.same s15
    have hy15:=hy14.mono (ZaG s15)
    refine⟨_,rfl,_,rfl,_,_,rfl,Zog hfo (s15 _ _ (s14 _ _ hb)) (by rw[Qb];omega) (ZjG _),fun H16 s16=>⟨_,rfl,ZbM ?_⟩⟩
    refine⟨_,rfl,_,rfl,_,rfl,(by show 3≤sizeLine;decide),fun dl2 hdl2=>?_⟩
    have s17:=Zh hdl2 (.lst [.ref th,.ref r,y])
    have I17:=(I15.same s16).same s17
    have hy17:=hy15.mono (ZaG (s16.trans s17))
    refine⟨_,_,rfl,dvA dl2 I17 hy17 Zc,g1,g2,g3,_,rfl,rfl,_,rfl,ZfM rfl ?_⟩
    have hfo17:=s17 _ _ (s16 _ _ hfo)
    have s1417:=s15.trans (s16.trans s17)
    generalize upd H16 dl2 (.lst [.ref th,.ref r,y])=H17 at hfo17 s1417 ⊢
    refine⟨_,rfl,.inl ⟨rfl,_,SqL.of hfo17⟩,_,rfl,fo,_,_,rfl,rfl,hfo17,(by rw[Qb,sizeLine_eq];omega),?_⟩
    refine⟨_,rfl,.inl ⟨rfl,_,SqL.of Zc⟩,fo,_,rfl,rfl,Zc,?_⟩
    exact⟨_,_,rfl,fun c o hc=>by
     have hc14:=s14 c o hc
     rw[Zd (Zb hc14 hfo0),Zd (Zb hc14 hfo0)]
     exact s1417 _ _ hc14⟩
   ·rintro σ H14 ⟨v9',v10',rfl,s14⟩
    exact⟨_,_,_,_,_,_,_,_,_,_,rfl,s012.trans (s13.trans s14)⟩
 ·rintro σ H2 ⟨v1,v2,v3,v4,v5,v6,v7,v8,v9,v10,rfl,s2⟩
  exact q H2
end
theorem ZU{K:PySem.W.Frag}{h:Heap}{mg:Str→Option Value}{x:Str}{st:Stmt}{ps:List Str}{f:Addr}{od an:Option Addr}{sl:Array (Option Value)}{oc kV dc pm cd ct:Value}(X:K.In h)(G:h.Ns mainGlobals mg)
  (a:PySem.W.nsIn K mainGlobals x=some (some (.ref f))) (l:K.lookup f=some ⟨oc,od,.func (PySem.W.fnOf x x (Zq st) (Zm st) (Zg st) .none kV dc pm an cd ct),sl⟩) (c:PySem.W.codeIn K cd x=true) (k:PySem.W.keepIn K (.ref f)=true)
  (hb:∀ (kV doc pm:Value) (an:Option Addr) (cdv ct:Value) (us:List Value),us.length=ps.length→bindArgs (PySem.W.fnOf x x (Zq st) (Zm st) (Zg st) .none kV doc pm an cdv ct) ⟨us,[]⟩=pure (ps.zip us)):Top K mg x st ps :=
 ⟨_,_,ZV (st:=st) l c k,PySem.W.mg_of X G a,(ZV (st:=st) l c k).binds hb⟩
theorem ZdF:∀us:List Value,us.length=1→∃a0,us=[a0]
 | [a0],_=>⟨a0,rfl⟩
theorem ZcC:∀us:List Value,us.length=2→∃a0 a1,us=[a0,a1]
 | [a0,a1],_=>⟨a0,a1,rfl⟩
theorem ZkU:∀us:List Value,us.length=3→∃a0 a1 a2,us=[a0,a1,a2]
 | [a0,a1,a2],_=>⟨a0,a1,a2,rfl⟩
theorem ZqX:∀us:List Value,us.length=4→∃a0 a1 a2 a3,us=[a0,a1,a2,a3]
 | [a0,a1,a2,a3],_=>⟨a0,a1,a2,a3,rfl⟩
theorem all_mk{l:PySem.W.OpenLaw}{w:World}{K:PySem.W.Frag}{h:Heap}{mg:Str→Option Value}{fa:Addr}(X:K.In h)(G:h.Ns mainGlobals mg)(hfa:mg "law" = some (.ref fa))
  {cRow:Addr}
  {cMerge:Addr}
  (aCRow:#[Xns,K,"Row",cRow]) (pgRow:PySem.W.plainGet K cRow Str.empty=true) (hdRow:PySem.W.hasDictIn K cRow=true) (poRow:PySem.W.plainOver K cRow=true) (saRow:PySem.W.findIn K (.ref cRow) "__setattr__" = some (some (.builtin "object.__setattr__"))) (mkRow:PySem.W.makesIn K cRow=true) (kcRow:#[Xki,K,cRow])
  (nARow_all_keys:PySem.W.findIn K (.ref cRow) "all_keys" = some none)
  (nARow_fars:PySem.W.findIn K (.ref cRow) "fars" = some none)
  (nARow_gone:PySem.W.findIn K (.ref cRow) "gone" = some none)
  (aCMerge:#[Xns,K,"Merge",cMerge]) (pgMerge:PySem.W.plainGet K cMerge Str.empty=true) (hdMerge:PySem.W.hasDictIn K cMerge=true) (poMerge:PySem.W.plainOver K cMerge=true) (saMerge:PySem.W.findIn K (.ref cMerge) "__setattr__" = some (some (.builtin "object.__setattr__"))) (mkMerge:PySem.W.makesIn K cMerge=true) (kcMerge:#[Xki,K,cMerge])
  (nAMerge_best:PySem.W.findIn K (.ref cMerge) "best" = some none)
  (nAMerge_likened:PySem.W.findIn K (.ref cMerge) "likened" = some none)
  (nAMerge_looked:PySem.W.findIn K (.ref cMerge) "looked" = some none)
  (nAMerge_next_number:PySem.W.findIn K (.ref cMerge) "next_number" = some none)
  (nAMerge_rows:PySem.W.findIn K (.ref cMerge) "rows" = some none)
  (nAMerge_stays:PySem.W.findIn K (.ref cMerge) "stays" = some none)
  (a0:#[Xns,K,"is_number",f0]) (l0:#[Xlk,K,f0,oc0,od0,"is_number","is_number",Zbi,kV0,dc0,pm0,an0,cd0,ct0,sl0]) (c0:#[Xci,K,cd0,"is_number"]) (k0:#[Xki,K,f0])
  (a1:#[Xns,K,"alike",f1]) (l1:#[Xlk,K,f1,oc1,od1,"alike","alike",Zdi,kV1,dc1,pm1,an1,cd1,ct1,sl1]) (c1:#[Xci,K,cd1,"alike"]) (k1:#[Xki,K,f1])
  (a2:#[Xns,K,"liken",f2]) (l2:#[Xlk,K,f2,oc2,od2,"liken","liken",Zc7,kV2,dc2,pm2,an2,cd2,ct2,sl2]) (c2:#[Xci,K,cd2,"liken"]) (k2:#[Xki,K,f2])
  (a3:#[Xns,K,"liken_from",f3]) (l3:#[Xlk,K,f3,oc3,od3,"liken_from","liken_from",Za4,kV3,dc3,pm3,an3,cd3,ct3,sl3]) (c3:#[Xci,K,cd3,"liken_from"]) (k3:#[Xki,K,f3])
  (a4:#[Xns,K,"alike_from",f4]) (l4:#[Xlk,K,f4,oc4,od4,"alike_from","alike_from",Za3,kV4,dc4,pm4,an4,cd4,ct4,sl4]) (c4:#[Xci,K,cd4,"alike_from"]) (k4:#[Xki,K,f4])
  (a5:#[Xns,K,"order_at",f5]) (l5:#[Xlk,K,f5,oc5,od5,"order_at","order_at",Zbx,kV5,dc5,pm5,an5,cd5,ct5,sl5]) (c5:#[Xci,K,cd5,"order_at"]) (k5:#[Xki,K,f5])
  (a6:#[Xns,K,"halves",f6]) (l6:#[Xlk,K,f6,oc6,od6,"halves","halves",Zck,kV6,dc6,pm6,an6,cd6,ct6,sl6]) (c6:#[Xci,K,cd6,"halves"]) (k6:#[Xki,K,f6])
  (a7:#[Xns,K,"way_up",f7]) (l7:#[Xlk,K,f7,oc7,od7,"way_up","way_up",ZcB,kV7,dc7,pm7,an7,cd7,ct7,sl7]) (c7:#[Xci,K,cd7,"way_up"]) (k7:#[Xki,K,f7])
  (a8:#[Xns,K,"first_break",f8]) (l8:#[Xlk,K,f8,oc8,od8,"first_break","first_break",ZaR,kV8,dc8,pm8,an8,cd8,ct8,sl8]) (c8:#[Xci,K,cd8,"first_break"]) (k8:#[Xki,K,f8])
  (a9:#[Xns,K,"alikes",f9]) (l9:#[Xlk,K,f9,oc9,od9,"alikes","alikes",Zcl,kV9,dc9,pm9,an9,cd9,ct9,sl9]) (c9:#[Xci,K,cd9,"alikes"]) (k9:#[Xki,K,f9])
  (a10:#[Xns,K,"refuse_break",f10]) (l10:#[Xlk,K,f10,oc10,od10,"refuse_break","refuse_break",ZaM,kV10,dc10,pm10,an10,cd10,ct10,sl10]) (c10:#[Xci,K,cd10,"refuse_break"]) (k10:#[Xki,K,f10])
  (a11:#[Xns,K,"matches_up",f11]) (l11:#[Xlk,K,f11,oc11,od11,"matches_up","matches_up",Za6,kV11,dc11,pm11,an11,cd11,ct11,sl11]) (c11:#[Xci,K,cd11,"matches_up"]) (k11:#[Xki,K,f11])
  (a12:#[Xns,K,"merged",f12]) (l12:#[Xlk,K,f12,oc12,od12,"merged","merged",ZbS,kV12,dc12,pm12,an12,cd12,ct12,sl12]) (c12:#[Xci,K,cd12,"merged"]) (k12:#[Xki,K,f12])
  (a13:#[Xns,K,"how_many",f13]) (l13:#[Xlk,K,f13,oc13,od13,"how_many","how_many",Zbc,kV13,dc13,pm13,an13,cd13,ct13,sl13]) (c13:#[Xci,K,cd13,"how_many"]) (k13:#[Xki,K,f13])
  (a14:#[Xns,K,"merged_by",f14]) (l14:#[Xlk,K,f14,oc14,od14,"merged_by","merged_by",Zav,kV14,dc14,pm14,an14,cd14,ct14,sl14]) (c14:#[Xci,K,cd14,"merged_by"]) (k14:#[Xki,K,f14])
  (a15:#[Xns,K,"_law_mix",f15]) (l15:#[Xlk,K,f15,oc15,od15,"_law_mix","_law_mix",ZcZ,kV15,dc15,pm15,an15,cd15,ct15,sl15]) (c15:#[Xci,K,cd15,"_law_mix"]) (k15:#[Xki,K,f15])
  (a16:#[Xns,K,"_law_left",f16]) (l16:#[Xlk,K,f16,oc16,od16,"_law_left","_law_left",Zcg,kV16,dc16,pm16,an16,cd16,ct16,sl16]) (c16:#[Xci,K,cd16,"_law_left"]) (k16:#[Xki,K,f16])
  (a17:#[Xns,K,"_law_pick",f17]) (l17:#[Xlk,K,f17,oc17,od17,"_law_pick","_law_pick",Zcp,kV17,dc17,pm17,an17,cd17,ct17,sl17]) (c17:#[Xci,K,cd17,"_law_pick"]) (k17:#[Xki,K,f17])
  (a18:#[Xns,K,"_law_stems",f18]) (l18:#[Xlk,K,f18,oc18,od18,"_law_stems","_law_stems",Zbt,kV18,dc18,pm18,an18,cd18,ct18,sl18]) (c18:#[Xci,K,cd18,"_law_stems"]) (k18:#[Xki,K,f18])
  (a19:#[Xns,K,"_law_key",f19]) (l19:#[Xlk,K,f19,oc19,od19,"_law_key","_law_key",Zch,kV19,dc19,pm19,an19,cd19,ct19,sl19]) (c19:#[Xci,K,cd19,"_law_key"]) (k19:#[Xki,K,f19])
  (a20:#[Xns,K,"_law_things",f20]) (l20:#[Xlk,K,f20,oc20,od20,"_law_things","_law_things",ZbD,kV20,dc20,pm20,an20,cd20,ct20,sl20]) (c20:#[Xci,K,cd20,"_law_things"]) (k20:#[Xki,K,f20])
  (a21:#[Xns,K,"_law_room",f21]) (l21:#[Xlk,K,f21,oc21,od21,"_law_room","_law_room",Zcr,kV21,dc21,pm21,an21,cd21,ct21,sl21]) (c21:#[Xci,K,cd21,"_law_room"]) (k21:#[Xki,K,f21])
  (a22:#[Xns,K,"_law_rounds_due",f22]) (l22:#[Xlk,K,f22,oc22,od22,"_law_rounds_due","_law_rounds_due",Zar,kV22,dc22,pm22,an22,cd22,ct22,sl22]) (c22:#[Xci,K,cd22,"_law_rounds_due"]) (k22:#[Xki,K,f22])
  (a23:#[Xns,K,"_law_in_order",f23]) (l23:#[Xlk,K,f23,oc23,od23,"_law_in_order","_law_in_order",Zax,kV23,dc23,pm23,an23,cd23,ct23,sl23]) (c23:#[Xci,K,cd23,"_law_in_order"]) (k23:#[Xki,K,f23])
  (a24:#[Xns,K,"_law_tree",f24]) (l24:#[Xlk,K,f24,oc24,od24,"_law_tree","_law_tree",Zco,kV24,dc24,pm24,an24,cd24,ct24,sl24]) (c24:#[Xci,K,cd24,"_law_tree"]) (k24:#[Xki,K,f24])
  (a25:#[Xns,K,"_law_put_in_one",f25]) (l25:#[Xlk,K,f25,oc25,od25,"_law_put_in_one","_law_put_in_one",Z1,kV25,dc25,pm25,an25,cd25,ct25,sl25]) (c25:#[Xci,K,cd25,"_law_put_in_one"]) (k25:#[Xki,K,f25])
  (a26:#[Xns,K,"_law_put_by",f26]) (l26:#[Xlk,K,f26,oc26,od26,"_law_put_by","_law_put_by",Zba,kV26,dc26,pm26,an26,cd26,ct26,sl26]) (c26:#[Xci,K,cd26,"_law_put_by"]) (k26:#[Xki,K,f26])
  (a27:#[Xns,K,"_law_same",f27]) (l27:#[Xlk,K,f27,oc27,od27,"_law_same","_law_same",ZbU,kV27,dc27,pm27,an27,cd27,ct27,sl27]) (c27:#[Xci,K,cd27,"_law_same"]) (k27:#[Xki,K,f27])
  (a28:#[Xns,K,"_law_lists",f28]) (l28:#[Xlk,K,f28,oc28,od28,"_law_lists","_law_lists",Za7,kV28,dc28,pm28,an28,cd28,ct28,sl28]) (c28:#[Xci,K,cd28,"_law_lists"]) (k28:#[Xki,K,f28])
  (a29:#[Xns,K,"_law_renumbered",f29]) (l29:#[Xlk,K,f29,oc29,od29,"_law_renumbered","_law_renumbered",Zaq,kV29,dc29,pm29,an29,cd29,ct29,sl29]) (c29:#[Xci,K,cd29,"_law_renumbered"]) (k29:#[Xki,K,f29])
  (a30:#[Xns,K,"law",f30]) (l30:#[Xlk,K,f30,oc30,od30,"law","law",Zce,kV30,dc30,pm30,an30,cd30,ct30,sl30]) (c30:#[Xci,K,cd30,"law"]) (k30:#[Xki,K,f30])
  (a31:#[Xfi,K,cRow,"__init__",f31]) (i31:#[Xif,K,f31]) (l31:#[Xlk,K,f31,oc31,od31,"__init__","Row.__init__",ZaS,kV31,dc31,pm31,an31,cd31,ct31,sl31]) (c31:#[Xci,K,cd31,"Row.__init__"]) (k31:#[Xki,K,f31])
  (a32:#[Xfi,K,cRow,"to_go",f32]) (i32:#[Xif,K,f32]) (l32:#[Xlk,K,f32,oc32,od32,"to_go","Row.to_go",ZaI,kV32,dc32,pm32,an32,cd32,ct32,sl32]) (c32:#[Xci,K,cd32,"Row.to_go"]) (k32:#[Xki,K,f32])
  (a33:#[Xfi,K,cRow,"head",f33]) (i33:#[Xif,K,f33]) (l33:#[Xlk,K,f33,oc33,od33,"head","Row.head",ZaU,kV33,dc33,pm33,an33,cd33,ct33,sl33]) (c33:#[Xci,K,cd33,"Row.head"]) (k33:#[Xki,K,f33])
  (a34:#[Xfi,K,cMerge,"__init__",f34]) (i34:#[Xif,K,f34]) (l34:#[Xlk,K,f34,oc34,od34,"__init__","Merge.__init__",ZaC,kV34,dc34,pm34,an34,cd34,ct34,sl34]) (c34:#[Xci,K,cd34,"Merge.__init__"]) (k34:#[Xki,K,f34])
  (a35:#[Xfi,K,cMerge,"coming",f35]) (i35:#[Xif,K,f35]) (l35:#[Xlk,K,f35,oc35,od35,"coming","Merge.coming",Zad,kV35,dc35,pm35,an35,cd35,ct35,sl35]) (c35:#[Xci,K,cd35,"Merge.coming"]) (k35:#[Xki,K,f35])
  (a36:#[Xfi,K,cMerge,"take",f36]) (i36:#[Xif,K,f36]) (l36:#[Xlk,K,f36,oc36,od36,"take","Merge.take",Zaz,kV36,dc36,pm36,an36,cd36,ct36,sl36]) (c36:#[Xci,K,cd36,"Merge.take"]) (k36:#[Xki,K,f36])
  (a37:#[Xfi,K,cMerge,"take_few",f37]) (i37:#[Xif,K,f37]) (l37:#[Xlk,K,f37,oc37,od37,"take_few","Merge.take_few",ZY,kV37,dc37,pm37,an37,cd37,ct37,sl37]) (c37:#[Xci,K,cd37,"Merge.take_few"]) (k37:#[Xki,K,f37])
  (a38:#[Xfi,K,cMerge,"looks",f38]) (i38:#[Xif,K,f38]) (l38:#[Xlk,K,f38,oc38,od38,"looks","Merge.looks",ZaH,kV38,dc38,pm38,an38,cd38,ct38,sl38]) (c38:#[Xci,K,cd38,"Merge.looks"]) (k38:#[Xki,K,f38])
  (a39:#[Xfi,K,cMerge,"play_all",f39]) (i39:#[Xif,K,f39]) (l39:#[Xlk,K,f39,oc39,od39,"play_all","Merge.play_all",ZZ,kV39,dc39,pm39,an39,cd39,ct39,sl39]) (c39:#[Xci,K,cd39,"Merge.play_all"]) (k39:#[Xki,K,f39])
  (a40:#[Xfi,K,cMerge,"play",f40]) (i40:#[Xif,K,f40]) (l40:#[Xlk,K,f40,oc40,od40,"play","Merge.play",ZaA,kV40,dc40,pm40,an40,cd40,ct40,sl40]) (c40:#[Xci,K,cd40,"Merge.play"]) (k40:#[Xki,K,f40])
  (a41:#[Xfi,K,cMerge,"send_out",f41]) (i41:#[Xif,K,f41]) (l41:#[Xlk,K,f41,oc41,od41,"send_out","Merge.send_out",ZX,kV41,dc41,pm41,an41,cd41,ct41,sl41]) (c41:#[Xci,K,cd41,"Merge.send_out"]) (k41:#[Xki,K,f41])
  (a42:#[Xfi,K,cMerge,"play_again",f42]) (i42:#[Xif,K,f42]) (l42:#[Xlk,K,f42,oc42,od42,"play_again","Merge.play_again",ZM,kV42,dc42,pm42,an42,cd42,ct42,sl42]) (c42:#[Xci,K,cd42,"Merge.play_again"]) (k42:#[Xki,K,f42])
  (a43:#[Xfi,K,cMerge,"meet",f43]) (i43:#[Xif,K,f43]) (l43:#[Xlk,K,f43,oc43,od43,"meet","Merge.meet",Zaw,kV43,dc43,pm43,an43,cd43,ct43,sl43]) (c43:#[Xci,K,cd43,"Merge.meet"]) (k43:#[Xki,K,f43])
  (z0:PySem.W.nsIn K mainGlobals "abs" = some none) (z1:PySem.W.nsIn K mainGlobals "all" = some none) (z2:PySem.W.nsIn K mainGlobals "bool" = some none) (z3:PySem.W.nsIn K mainGlobals "enumerate" = some none) (z4:PySem.W.nsIn K mainGlobals "int" = some none) (z5:PySem.W.nsIn K mainGlobals "isinstance" = some none) (z6:PySem.W.nsIn K mainGlobals "len" = some none) (z7:PySem.W.nsIn K mainGlobals "list" = some none) (z8:PySem.W.nsIn K mainGlobals "max" = some none) (z9:PySem.W.nsIn K mainGlobals "min" = some none) (z10:PySem.W.nsIn K mainGlobals "range" = some none) (z11:PySem.W.nsIn K mainGlobals "sorted" = some none) (z12:PySem.W.nsIn K mainGlobals "str" = some none) (z13:PySem.W.nsIn K mainGlobals "sum" = some none) (z14:PySem.W.nsIn K mainGlobals "tuple" = some none) (z15:PySem.W.nsIn K mainGlobals "zip" = some none) :
  ∃fd:FuncData,(∀ (s:Shared) (v:Value),BindsTo s fd ⟨[v],[]⟩ [("_law_script",v)])∧∀base:Heap,K.In base→base.Ns mainGlobals mg→ZdC l.prog w K mg base CX0 90 fa fd ["_law_script"] (ZjW K):=by
 have e:=hfa.symm.trans (PySem.W.mg_of X G a30)
 cases e
 have T:Zau K mg cRow cMerge:=⟨⟨QK X G z0,QK X G z1,QK X G z2,QK X G z3,QK X G z4,QK X G z5,QK X G z6,QK X G z7,QK X G z8,QK X G z9,QK X G z10,QK X G z11,QK X G z12,QK X G z13,QK X G z14,QK X G z15⟩,ZU X G a0 l0 c0 k0 (fun _ _ _ _ _ _ us hl=>by obtain⟨_,rfl⟩:=ZdF us hl;exact rfl),ZU X G a1 l1 c1 k1 (fun _ _ _ _ _ _ us hl=>by obtain⟨_,_,rfl⟩:=ZcC us hl;exact rfl),ZU X G a2 l2 c2 k2 (fun _ _ _ _ _ _ us hl=>by obtain⟨_,_,rfl⟩:=ZcC us hl;exact rfl),ZU X G a3 l3 c3 k3 (fun _ _ _ _ _ _ us hl=>by obtain⟨_,_,_,rfl⟩:=ZkU us hl;exact rfl),ZU X G a4 l4 c4 k4 (fun _ _ _ _ _ _ us hl=>by obtain⟨_,_,_,rfl⟩:=ZkU us hl;exact rfl),ZU X G a5 l5 c5 k5 (fun _ _ _ _ _ _ us hl=>by obtain⟨_,_,_,rfl⟩:=ZkU us hl;exact rfl),ZU X G a6 l6 c6 k6 (fun _ _ _ _ _ _ us hl=>by obtain⟨_,rfl⟩:=ZdF us hl;exact rfl),ZU X G a7 l7 c7 k7 (fun _ _ _ _ _ _ us hl=>by obtain⟨_,_,rfl⟩:=ZcC us hl;exact rfl),ZU X G a8 l8 c8 k8 (fun _ _ _ _ _ _ us hl=>by obtain⟨_,rfl⟩:=ZdF us hl;exact rfl),ZU X G a9 l9 c9 k9 (fun _ _ _ _ _ _ us hl=>by obtain⟨_,rfl⟩:=ZdF us hl;exact rfl),ZU X G a10 l10 c10 k10 (fun _ _ _ _ _ _ us hl=>by obtain⟨_,_,rfl⟩:=ZcC us hl;exact rfl),ZU X G a11 l11 c11 k11 (fun _ _ _ _ _ _ us hl=>by obtain⟨_,_,rfl⟩:=ZcC us hl;exact rfl),ZU X G a12 l12 c12 k12 (fun _ _ _ _ _ _ us hl=>by obtain⟨_,rfl⟩:=ZdF us hl;exact rfl),ZU X G a13 l13 c13 k13 (fun _ _ _ _ _ _ us hl=>by obtain⟨_,rfl⟩:=ZdF us hl;exact rfl),ZU X G a14 l14 c14 k14 (fun _ _ _ _ _ _ us hl=>by obtain⟨_,_,_,rfl⟩:=ZkU us hl;exact rfl),ZU X G a15 l15 c15 k15 (fun _ _ _ _ _ _ us hl=>by obtain⟨_,_,rfl⟩:=ZcC us hl;exact rfl),ZU X G a16 l16 c16 k16 (fun _ _ _ _ _ _ us hl=>by obtain⟨_,_,rfl⟩:=ZcC us hl;exact rfl),ZU X G a17 l17 c17 k17 (fun _ _ _ _ _ _ us hl=>by obtain⟨_,_,rfl⟩:=ZcC us hl;exact rfl),ZU X G a18 l18 c18 k18 (fun _ _ _ _ _ _ us hl=>by obtain⟨_,rfl⟩:=ZdF us hl;exact rfl),ZU X G a19 l19 c19 k19 (fun _ _ _ _ _ _ us hl=>by obtain⟨_,_,rfl⟩:=ZcC us hl;exact rfl),ZU X G a20 l20 c20 k20 (fun _ _ _ _ _ _ us hl=>by obtain⟨_,rfl⟩:=ZdF us hl;exact rfl),ZU X G a21 l21 c21 k21 (fun _ _ _ _ _ _ us hl=>by obtain⟨_,rfl⟩:=ZdF us hl;exact rfl),ZU X G a22 l22 c22 k22 (fun _ _ _ _ _ _ us hl=>by obtain⟨_,_,rfl⟩:=ZcC us hl;exact rfl),ZU X G a23 l23 c23 k23 (fun _ _ _ _ _ _ us hl=>by obtain⟨_,rfl⟩:=ZdF us hl;exact rfl),ZU X G a24 l24 c24 k24 (fun _ _ _ _ _ _ us hl=>by obtain⟨_,_,_,_,rfl⟩:=ZqX us hl;exact rfl),ZU X G a25 l25 c25 k25 (fun _ _ _ _ _ _ us hl=>by obtain⟨_,_,rfl⟩:=ZcC us hl;exact rfl),ZU X G a26 l26 c26 k26 (fun _ _ _ _ _ _ us hl=>by obtain⟨_,_,_,rfl⟩:=ZkU us hl;exact rfl),ZU X G a27 l27 c27 k27 (fun _ _ _ _ _ _ us hl=>by obtain⟨_,_,rfl⟩:=ZcC us hl;exact rfl),ZU X G a28 l28 c28 k28 (fun _ _ _ _ _ _ us hl=>by obtain⟨_,_,rfl⟩:=ZcC us hl;exact rfl),ZU X G a29 l29 c29 k29 (fun _ _ _ _ _ _ us hl=>by obtain⟨_,_,rfl⟩:=ZcC us hl;exact rfl),⟨_,_,ZV (st:=ZaS) l31 c31 k31,⟨mkRow,a31,i31,kcRow⟩,(ZV (st:=ZaS) l31 c31 k31).binds (ps:=["self", "keys"]) (fun _ _ _ _ _ _ us hl=>by obtain⟨_,_,rfl⟩:=ZcC us hl;exact rfl),PySem.W.mg_of X G aCRow⟩,⟨_,_,ZV (st:=ZaI) l32 c32 k32,⟨a32,i32,k32⟩,(ZV (st:=ZaI) l32 c32 k32).binds (ps:=["self"]) (fun _ _ _ _ _ _ us hl=>by obtain⟨_,rfl⟩:=ZdF us hl;exact rfl)⟩,⟨_,_,ZV (st:=ZaU) l33 c33 k33,⟨a33,i33,k33⟩,(ZV (st:=ZaU) l33 c33 k33).binds (ps:=["self"]) (fun _ _ _ _ _ _ us hl=>by obtain⟨_,rfl⟩:=ZdF us hl;exact rfl)⟩,⟨_,_,ZV (st:=ZaC) l34 c34 k34,⟨mkMerge,a34,i34,kcMerge⟩,(ZV (st:=ZaC) l34 c34 k34).binds (ps:=["self", "rows"]) (fun _ _ _ _ _ _ us hl=>by obtain⟨_,_,rfl⟩:=ZcC us hl;exact rfl),PySem.W.mg_of X G aCMerge⟩,⟨_,_,ZV (st:=Zad) l35 c35 k35,⟨a35,i35,k35⟩,(ZV (st:=Zad) l35 c35 k35).binds (ps:=["self"]) (fun _ _ _ _ _ _ us hl=>by obtain⟨_,rfl⟩:=ZdF us hl;exact rfl)⟩,⟨_,_,ZV (st:=Zaz) l36 c36 k36,⟨a36,i36,k36⟩,(ZV (st:=Zaz) l36 c36 k36).binds (ps:=["self"]) (fun _ _ _ _ _ _ us hl=>by obtain⟨_,rfl⟩:=ZdF us hl;exact rfl)⟩,⟨_,_,ZV (st:=ZY) l37 c37 k37,⟨a37,i37,k37⟩,(ZV (st:=ZY) l37 c37 k37).binds (ps:=["self", "many"]) (fun _ _ _ _ _ _ us hl=>by obtain⟨_,_,rfl⟩:=ZcC us hl;exact rfl)⟩,⟨_,_,ZV (st:=ZaH) l38 c38 k38,⟨a38,i38,k38⟩,(ZV (st:=ZaH) l38 c38 k38).binds (ps:=["self"]) (fun _ _ _ _ _ _ us hl=>by obtain⟨_,rfl⟩:=ZdF us hl;exact rfl)⟩,⟨_,_,ZV (st:=ZZ) l39 c39 k39,⟨a39,i39,k39⟩,(ZV (st:=ZZ) l39 c39 k39).binds (ps:=["self"]) (fun _ _ _ _ _ _ us hl=>by obtain⟨_,rfl⟩:=ZdF us hl;exact rfl)⟩,⟨_,_,ZV (st:=ZaA) l40 c40 k40,⟨a40,i40,k40⟩,(ZV (st:=ZaA) l40 c40 k40).binds (ps:=["self", "numbers"]) (fun _ _ _ _ _ _ us hl=>by obtain⟨_,_,rfl⟩:=ZcC us hl;exact rfl)⟩,⟨_,_,ZV (st:=ZX) l41 c41 k41,⟨a41,i41,k41⟩,(ZV (st:=ZX) l41 c41 k41).binds (ps:=["self", "number"]) (fun _ _ _ _ _ _ us hl=>by obtain⟨_,_,rfl⟩:=ZcC us hl;exact rfl)⟩,⟨_,_,ZV (st:=ZM) l42 c42 k42,⟨a42,i42,k42⟩,(ZV (st:=ZM) l42 c42 k42).binds (ps:=["self", "meeting", "comer"]) (fun _ _ _ _ _ _ us hl=>by obtain⟨_,_,_,rfl⟩:=ZkU us hl;exact rfl)⟩,⟨_,_,ZV (st:=Zaw) l43 c43 k43,⟨a43,i43,k43⟩,(ZV (st:=Zaw) l43 c43 k43).binds (ps:=["self", "one", "other", "far"]) (fun _ _ _ _ _ _ us hl=>by obtain⟨_,_,_,_,rfl⟩:=ZqX us hl;exact rfl)⟩,⟨pgRow,hdRow,poRow,saRow⟩,nARow_all_keys,nARow_fars,nARow_gone,⟨pgMerge,hdMerge,poMerge,saMerge⟩,nAMerge_best,nAMerge_likened,nAMerge_looked,nAMerge_next_number,nAMerge_rows,nAMerge_stays⟩
 exact⟨PySem.W.fnOf "law" "law" (Zq Zce) (Zm Zce) (Zg Zce) .none kV30 dc30 pm30 an30 cd30 ct30,fun s v=>.of_eq rfl,fun base _ _=>Zqg (ZV (st:=Zce) l30 c30 k30) T⟩
theorem walk{l:PySem.W.OpenLaw}{q:Program}{loose:List Str}{XP:(Str→Option Value)→Heap→Prop}{YP:World→Heap→Prop}{d:DefRec}{K:Params→PySem.W.Frag}(hn:l.most=some 63)(hdf:d.params.defaults=[])
  (hY:∀ (w:World) (h:Heap),YP w h→(K w.params).In h)
  (F:∀ (w:World) (mg:Str→Option Value) (fa:Addr) (h:Heap),(K w.params).In h→h.Ns mainGlobals mg→mg d.name=some (.ref fa) →
   ∃fd:FuncData,(∀ (s:Shared) (u:Value),BindsTo s fd ⟨[u],[]⟩ [("_law_script",u)])∧∀base:Heap,(K w.params).In base→base.Ns mainGlobals mg→ZdC l.prog w (K w.params) mg base CX0 90 fa fd ["_law_script"] (ZjW (K w.params))) :
  PySem.W.WalkO q loose XP YP l.row.toRowW d [] (fun f vs=>PySem.call f vs) :=
 L2.walk_of (n:=63) (k:=90) (x := "_law_script") (CX:=fun _=>CX0) (sp:=fun w=>ZjW (K w.params)) hn (by decide) hdf ⟨rfl,by decide,by decide,rfl⟩ hY F (fun _ _ a ns hl _ hS=>⟨a,ns,rfl,hS,hl,fun _=>rfl⟩) fun _ _ _ _ _ z=>z
end My
open PySem PySem.W PyProof.Rows
namespace PySem.W.Fast
def tw4183791504546780594:=0
def tw7794784385005344307:=0
def tw1378933443077038835:=0
def tw15642195115195164570:=0
def tw17297521627963534685:=0
def tw9000870396646348158:=0
def tw4876116036525135936:=0
def tw654044951134333409:=0
def tw1920783562156912097:=0
def tw17472715376610813762:=0
def tw2135541175593834402:=0
def tw10602659126809683458:=0
def tw4532784383452485987:=0
def tw10429803662047894211:=0
def tw14444570346078840964:=0
def tw4272379944063777285:=0
def tw2533261235915335465:=0
def tw3313740531180286602:=0
def tw2631676219000296269:=0
def tw9236551290077506095:=0
def tw12469862460493770427:=0
def tw16057335548958334988:=0
def tw5181454052790898035:=0
def tw3590937030987835397:=0
def tw16969576487401017746:=0
def tw14197471885801735031:=0
def tw18157082016916618339:=0
def tw14819315846287011509:=0
def tw16189857984701500919:=0
def tw4818610824234783672:=0
def tw18249507409002733923:=0
def tw16391930619680241984:=0
def tw5454567211228315685:=0
def tw14630292032381145463:=0
def tw498447620792096333:=0
def tw8211424767715108331:=0
def tw12640583702618731675:=0
def tw11676546957992776126:=0
def tw2013219000723546515:=0
def tw9280769211885267933:=0
def tw1170761909194967823:=0
def tw7378262101520725077:=0
def tw16284479031231731779:=0
def tw7167456793335040900:=0
def tw13453869156874459245:=0
def tw6832536015083138503:=0
def tw9144906910953051676:=0
def tw3405097797381923135:=0
def tw10320961838724529829:=0
def tw16397267648057051885:=0
def tw1720988361552172639:=0
def tw11652323745030427462:=0
def tw7230519612919970422:=0
def tw2136736764632948598:=0
def tw16748991111218667906:=0
def tw5072040410616659257:=0
def tw12688791221852137471:=0
def tw12391942219820129804:=0
def tw17168250424718253765:=0
def tw7201535992127688239:=0
def tw826195044455621764:=0
def tw11637908122394034901:=0
def tw13385403922824256933:=0
def tw4264890472067319970:=0
def tw1885210485480412828:=0
def tw9489353216815607583:=0
def tw3175277847341479709:=0
def tw3292589283556275181:=0
def tw9859413355280300615:=0
def tw12343456117997509788:=0
def tw383146778955481497:=0
def tw7771757743572926438:=0
def tw16764026180309790781:=0
def tw15669842217096522536:=0
def tw2939140492106733328:=0
def tw15521393141462955999:=0
def tw15181329166824084355:=0
def tw1202812140306874871:=0
def tw15721771899408144146:=0
def tw13621568991958401512:=0
def tw3030666803588200942:=0
def tw8176266595601488601:=0
def tw6598517489889049722:=0
def tw1264422905011155600:=0
def tw5266826346057201375:=0
def tw491181812747597325:=0
def tw15030209223493760010:=0
def tw5547682499001891223:=0
def tw1947188447824435009:=0
def tw13773249538581650795:=0
def tw10215670205352713037:=0
def tw15876045276442485780:=0
def tw8418126314151938603:=0
def tw12623924353748656360:=0
def tw12052946972896009461:=0
def tw15141583675179040815:=0
def tw2602520891437548620:=0
def tw7081316062724826012:=0
def tw149368949995217405:=0
def tw8984117938535997951:=0
def tw399149073130867606:=0
def tw9292810742233264002:=0
def tw127955348753252319:=0
def tw9016650438520277657:=0
def tw6810054692648692848:=0
def tw13312580397950751885:=0
def tw4217979026423921535:=0
def tw3937107127067504921:=0
def tw4156554587004504886:=0
def tw12536091652679823353:=0
def tw4425065560653159183:=0
def tw1434727740551882234:=0
def tw7967047841843945356:=0
def tw3165592884816950913:=0
def tw2066382833583791334:=0
def tw17338060518576823343:=0
def tw4079986187786081273:=0
def tw938215293856716713:=0
def tw7537589032405671113:=0
def tw10995438762443298812:=0
def tw222731876441258033:=0
def tw11860703910585399602:=0
def tw11560879367677170779:=0
def tw4079521359734498964:=0
def tw2238922735973798379:=0
def tw6296005174856284658:=0
def tw11313661965986579310:=0
def tw5827713904326843913:=0
def tw9780532298447009722:=0
def tw2742873883866516724:=0
def tw2470091113175042360:=0
def tw8738323400426200976:=0
def tw6699146548294241087:=0
def tw8368240330725591665:=0
def tw141634548101007265:=0
def tw4828868105705978300:=0
def tw13253477853304784094:=0
def tw425507821245257143:=0
def tw8704439531637183116:=0
def tw15053861559131080029:=0
def tw7731996656327144704:=0
def tw8241472490414561417:=0
def tw3831802265511471089:=0
def tw17144562280452956224:=0
def tw11382539472803113063:=0
def tw16757901812575598555:=0
def tw5398342209823467497:=0
def tw13713559896073144972:=0
def tw4466901110587009425:=0
def tw2833478237888677396:=0
def tw2899133506948552445:=0
def tw18345932697266114625:=0
def tw7641498519814565303:=0
def tw10217225708269917292:=0
def tw6364586526685996263:=0
def tw7594902793120456776:=0
def tw10150550102398242117:=0
def tw2896088784779795131:=0
def tw6532461565002369762:=0
def tw17266905952011282658:=0
def tw3885103054523631017:=0
def tw1588309435403305189:=0
def tw2810611163680857293:=0
def tw10215009802793988858:=0
def tw17097226015198207049:=0
def tw370119696920132270:=0
def tw8859467064179662278:=0
def tw18148902087890050881:=0
def tw1081997656805898010:=0
def tw14378596507553808343:=0
def tw1507878909047170925:=0
def tw3802069814290396714:=0
def tw9870953387604981859:=0
def tw1835545720036643614:=0
def tw5391197154828705181:=0
def tw3373404632638252256:=0
def tw8764228041753089768:=0
def tw1935901819041468891:=0
def tw13550712118942258614:=0
def tw14228639338323210444:=0
def tw6055828534335551232:=0
def tw3166431768027072598:=0
def tw4741500542272266221:=0
def tw4281494170361479944:=0
def tw4005950307689239683:=0
def tw2696403898729597542:=0
def tw5982585171180597779:=0
def tw11563877732487862203:=0
def tw2302428218889055835:=0
def tw12097916921751547773:=0
def tw1165874951782676724:=0
def tw9808437619183927830:=0
def tw6019921255447078431:=0
def tw11502694610380359065:=0
def tw6136846421780541869:=0
def tw8002397374898104480:=0
def tw13377501505225674772:=0
def tw6718492822636777233:=0
def tw12739354876292884506:=0
def tw14170227463153694614:=0
def tw9105991640611110851:=0
def tw904806429406694032:=0
def tw3194576503016272725:=0
def tw14554279981736098528:=0
def tw1336644597936508518:=0
def tw12332897206140397524:=0
def tw11947096104659014803:=0
def tw4941453309636496416:=0
def tw8693648377473907588:=0
def tw5474935783415821813:=0
def tw464141496941502469:=0
def tw17179743555260492692:=0
def tw7785571580606045138:=0
def tw13249416190957928941:=0
def tw18222767831322756965:=0
def tw16260926319770210348:=0
def tw13418236887703342787:=0
def tw5456125453343447704:=0
def tw6244046782489284140:=0
def tw15789674422817462697:=0
def tw3659732783523292623:=0
def tw5096251161041187226:=0
def tw16004792709705020131:=0
def tw7865537030693086737:=0
def tw2428724000607886775:=0
def tw4101885559301267645:=0
def tw4015625435374072072:=0
def tw1416892692731322492:=0
def tw16018169709792237642:=0
def tw5121838050694995132:=0
def tw13494652992314475159:=0
def tw6359772858078502197:=0
def tw18131353089321956666:=0
def tw11533129189051480483:=0
def tw14942533722565340809:=0
def tw5023546093127177615:=0
def tw1715020616820173615:=0
def tw10515933155391899433:=0
def tw17884385753433678457:=0
def tw12369673127943180397:=0
def tw9712748559503076816:=0
def tw5960341606356860754:=0
def tw13829569289839175245:=0
def tw5857475613549655337:=0
def tw18178496887897983562:=0
def tw1872531405538080991:=0
def tw18389964757433172558:=0
def tw16616510167918016604:=0
def tw9139657135890740182:=0
def tw4734500598191392308:=0
def tw3851867720691034865:=0
def tw4325394134107523775:=0
def tw1808267752285069270:=0
def tw17157552074739108344:=0
def tw8527403627581546121:=0
def tw18138664843138316465:=0
def tw3798958259550334371:=0
def tw4972598517383201191:=0
def tw11591096340279378680:=0
def tw3966259122409395028:=0
def tw8499628546521254130:=0
def tw3579222624319414062:=0
def tw7347225273662881225:=0
def tw12048491937502944145:=0
def tw6018120650259433252:=0
def tw15604900196774513317:=0
def tw13711275687608942463:=0
def tw8138188057420246676:=0
def tw1427151934555210607:=0
def tw17520152192460912910:=0
def tw10521693379653735354:=0
def tw4270674229884447175:=0
def tw5764830744011619942:=0
def tw16824651382642275256:=0
def tw394756622281837213:=0
def tw1349479712070123298:=0
def tw5881595252665719789:=0
def tw17157457926198204028:=0
def tw5557457908761080433:=0
def tw13427041997369498234:=0
def tw3785278027395995452:=0
def tw18295012536152684294:=0
def tw590383764899310700:=0
def tw11334190307405320299:=0
def tw16249851707708706055:=0
def tw5238185390152910433:=0
def tw8159909152121168239:=0
def tw5311485781955579811:=0
def tw10558420226840735312:=0
def tw13324144437444787692:=0
def tw11454641366487080373:=0
def tw10412082305256662374:=0
def tw7568544703397975733:=0
def tw4368998969603330263:=0
def tw6348174256486939746:=0
def tw5903481770720085547:=0
def tw9257426819212667304:=0
def tw8454198647398116302:=0
def tw3899552562160922272:=0
def tw18098813680504965417:=0
def tw4781287269961516074:=0
def tw6059758954238922546:=0
def tw13428555309436016830:=0
def tw16938122074923085399:=0
def tw15505205029726496308:=0
def tw6252028366783710512:=0
def tw12078588535014621452:=0
def tw2209661385043271949:=0
def tw3457957394385276707:=0
def tw12400116632035467679:=0
def tw7925419222199713828:=0
def tw18242433868659479494:=0
def tw636328214103137441:=0
def tw6038525706099950934:=0
def tw7628772059907776186:=0
def tw7003521203613684309:=0
def tw17158794566680233895:=0
def tw10954457346936412138:=0
def tw11132278300414044453:=0
def tw2439774341824832903:=0
def tw7364659607606532408:=0
def tw936440098784208116:=0
def tw6157916977993079101:=0
def tw14678632827092114779:=0
def tw11561563556360203723:=0
def tw17877992718315455894:=0
def tw8451159443519165305:=0
def tw927783805016184673:=0
def tw335208167295627722:=0
def tw3321895683199490692:=0
def tw16641365316774696444:=0
def tw4811019490192971528:=0
def tw10517290209119176992:=0
def tw16770949085507506521:=0
def tw13215302845644934133:=0
def tw3971079736173752513:=0
def tw8423577342462395753:=0
def tw2305129082905536533:=0
def tw304926370603466230:=0
def tw10048507367229264059:=0
def tw3228031038055410585:=0
def tw4028559668792144289:=0
def tw7419934410007018123:=0
def tw11147641888544945387:=0
def tw227633569058451852:=0
def tw9563380629214352191:=0
def tw6912614671041927324:=0
def tw15778281196983586907:=0
def tw3009582899883582596:=0
def tw10577021872107201771:=0
def tw63386183558136370:=0
def tw17001401610486685516:=0
def tw9124860294434714815:=0
def tw1072791633199888487:=0
def tw12233386934015635597:=0
def tw9697271938473516108:=0
def tw1003224329099779118:=0
def tw4879527551783342175:=0
def tw8863170787436620277:=0
def tw16835063405502057129:=0
def tw10048298906013179594:=0
def tw13160216962907396623:=0
def tw7029015053908398019:=0
def tw12507074329497372435:=0
def tw6290811704000339576:=0
def tw713778750656208593:=0
def tw14131428105549444099:=0
def tw5200632094534935545:=0
def tw1284164661800773626:=0
def tw17288739829905491494:=0
def tw15101327347198361487:=0
def tw2436476785968030906:=0
def tw4979310711051271043:=0
def tw4698935033625034489:=0
def tw10110934581427283860:=0
def tw7283687343787333498:=0
def tw17542956971389310720:=0
def tw1793034683520671196:=0
def tw5238837801127019299:=0
def tw14507851423982816378:=0
def tw3989077035829317446:=0
def tw8991477706538019394:=0
def tw11649621783625174661:=0
def tw15045518440209649258:=0
def tw638229682472322680:=0
def tw4744817908747280320:=0
def tw7042102245852039122:=0
def tw17002937209851496457:=0
def tw7563345650034187788:=0
def tw15137327512378143290:=0
def tw17049845869444994264:=0
def tw13119983276698723307:=0
def tw943719691039024498:=0
def tw5030111140046578284:=0
def tw7192020544147306082:=0
def tw11526366868661107304:=0
def tw12556461927770534708:=0
def tw6472433797667021846:=0
def tw2593633610000748471:=0
def tw9487417009276982363:=0
def tw8806722721394550567:=0
def tw18135726356230939507:=0
def tw9369507529864703877:=0
def tw7114313981906976288:=0
def tw2142102417915669101:=0
def tw17810026705377134405:=0
def tw12512688763690622362:=0
def tw3751270160706823283:=0
def tw14996791542648749204:=0
def tw17169183794888736758:=0
def tw4914938781483743257:=0
def tw501169160210140273:=0
def tw17789632898131418731:=0
def tw10213563475940659278:=0
def tw11872767219348153828:=0
def tw13411717286120979666:=0
def tw6218164509154870757:=0
def tw15377520604943456603:=0
def tw17481853873727114966:=0
def tw17032211611253510201:=0
def tw6983941786607870671:=0
def tw17207149994647953505:=0
def tw5396245293176378100:=0
def tw9444981828967560797:=0
def tw5966748420711202504:=0
def tw7549694260417973486:=0
def tw955840135585931199:=0
def tw14564726235402652809:=0
def tw487223160907815093:=0
def tw258897082966522933:=0
def tw14861453726157724922:=0
def tw612512056340714840:=0
def tw10867556773789660431:=0
def tw9092491324892475330:=0
def tw10605476227635948150:=0
def tw2092238066121168821:=0
def tw17359233101071063042:=0
def tw8619521970046816088:=0
def tw16868521746773283106:=0
def tw719732593009697002:=0
def tw4421038941939026413:=0
def tw9355806264992126848:=0
def tw6986212298225307658:=0
def tw7615193914156221403:=0
def tw1301206003174990353:=0
def tw13203291622062247956:=0
def tw18086375732180562106:=0
def tw4691616329469735136:=0
def tw14913024723604318847:=0
def tw4986939507424237427:=0
def tw3627997686445395486:=0
def tw12261836048907512596:=0
def tw7241069071884489661:=0
def tw4415598151612281634:=0
def tw16574163677521020837:=0
def tw9350413266276300862:=0
def tw5031031562840892150:=0
def tw8932919487263089181:=0
def tw12566342024893818069:=0
def tw2151559487593524322:=0
def tw1263448108070423889:=0
end PySem.W.Fast
set_option maxRecDepth 100000 in
set_option maxHeartbeats 0 in
theorem PySem.Challenge.cw_mergetree_k46_runs_merged_by_a_tree_holds : PySem.Challenge.rw_mergetree_k46_runs_merged_by_a_tree.Holds := by
 w_on;o_law;k_head;(case hw=>w_witness2)
 k_fill
 refine My.walk (l:=PySem.Challenge.rw_mergetree_k46_runs_merged_by_a_tree) rfl rfl (fun w h Y=>PySem.W.kIn_of Y) ?F
 case F =>
  intro w mg fa h KX G hmg
  refine' My.all_mk KX G hmg ?aCRow ?pgRow ?hdRow ?poRow ?saRow ?mkRow ?kcRow ?nARow_all_keys ?nARow_fars ?nARow_gone ?aCMerge ?pgMerge ?hdMerge ?poMerge ?saMerge ?mkMerge ?kcMerge ?nAMerge_best ?nAMerge_likened ?nAMerge_looked ?nAMerge_next_number ?nAMerge_rows ?nAMerge_stays ?a0 ?l0 ?c0 ?k0 ?a1 ?l1 ?c1 ?k1 ?a2 ?l2 ?c2 ?k2 ?a3 ?l3 ?c3 ?k3 ?a4 ?l4 ?c4 ?k4 ?a5 ?l5 ?c5 ?k5 ?a6 ?l6 ?c6 ?k6 ?a7 ?l7 ?c7 ?k7 ?a8 ?l8 ?c8 ?k8 ?a9 ?l9 ?c9 ?k9 ?a10 ?l10 ?c10 ?k10 ?a11 ?l11 ?c11 ?k11 ?a12 ?l12 ?c12 ?k12 ?a13 ?l13 ?c13 ?k13 ?a14 ?l14 ?c14 ?k14 ?a15 ?l15 ?c15 ?k15 ?a16 ?l16 ?c16 ?k16 ?a17 ?l17 ?c17 ?k17 ?a18 ?l18 ?c18 ?k18 ?a19 ?l19 ?c19 ?k19 ?a20 ?l20 ?c20 ?k20 ?a21 ?l21 ?c21 ?k21 ?a22 ?l22 ?c22 ?k22 ?a23 ?l23 ?c23 ?k23 ?a24 ?l24 ?c24 ?k24 ?a25 ?l25 ?c25 ?k25 ?a26 ?l26 ?c26 ?k26 ?a27 ?l27 ?c27 ?k27 ?a28 ?l28 ?c28 ?k28 ?a29 ?l29 ?c29 ?k29 ?a30 ?l30 ?c30 ?k30 ?a31 ?i31 ?l31 ?c31 ?k31 ?a32 ?i32 ?l32 ?c32 ?k32 ?a33 ?i33 ?l33 ?c33 ?k33 ?a34 ?i34 ?l34 ?c34 ?k34 ?a35 ?i35 ?l35 ?c35 ?k35 ?a36 ?i36 ?l36 ?c36 ?k36 ?a37 ?i37 ?l37 ?c37 ?k37 ?a38 ?i38 ?l38 ?c38 ?k38 ?a39 ?i39 ?l39 ?c39 ?k39 ?a40 ?i40 ?l40 ?c40 ?k40 ?a41 ?i41 ?l41 ?c41 ?k41 ?a42 ?i42 ?l42 ?c42 ?k42 ?a43 ?i43 ?l43 ?c43 ?k43 ?z0 ?z1 ?z2 ?z3 ?z4 ?z5 ?z6 ?z7 ?z8 ?z9 ?z10 ?z11 ?z12 ?z13 ?z14 ?z15
  (case aCRow=>k_is)
  (case pgRow=>k_is)
  (case hdRow=>k_is)
  (case poRow=>k_is)
  (case saRow=>k_is)
  (case mkRow=>k_is)
  (case kcRow=>k_is)
  (case nARow_all_keys=>k_is)
  (case nARow_fars=>k_is)
  (case nARow_gone=>k_is)
  (case aCMerge=>k_is)
  (case pgMerge=>k_is)
  (case hdMerge=>k_is)
  (case poMerge=>k_is)
  (case saMerge=>k_is)
  (case mkMerge=>k_is)
  (case kcMerge=>k_is)
  (case nAMerge_best=>k_is)
  (case nAMerge_likened=>k_is)
  (case nAMerge_looked=>k_is)
  (case nAMerge_next_number=>k_is)
  (case nAMerge_rows=>k_is)
  (case nAMerge_stays=>k_is)
  (case a0|l0|c0|k0=>k_is)
  (case a1|l1|c1|k1=>k_is)
  (case a2|l2|c2|k2=>k_is)
  (case a3|l3|c3|k3=>k_is)
  (case a4|l4|c4|k4=>k_is)
  (case a5|l5|c5|k5=>k_is)
  (case a6|l6|c6|k6=>k_is)
  (case a7|l7|c7|k7=>k_is)
  (case a8|l8|c8|k8=>k_is)
  (case a9|l9|c9|k9=>k_is)
  (case a10|l10|c10|k10=>k_is)
  (case a11|l11|c11|k11=>k_is)
  (case a12|l12|c12|k12=>k_is)
  (case a13|l13|c13|k13=>k_is)
  (case a14|l14|c14|k14=>k_is)
  (case a15|l15|c15|k15=>k_is)
  (case a16|l16|c16|k16=>k_is)
  (case a17|l17|c17|k17=>k_is)
  (case a18|l18|c18|k18=>k_is)
  (case a19|l19|c19|k19=>k_is)
  (case a20|l20|c20|k20=>k_is)
  (case a21|l21|c21|k21=>k_is)
  (case a22|l22|c22|k22=>k_is)
  (case a23|l23|c23|k23=>k_is)
  (case a24|l24|c24|k24=>k_is)
  (case a25|l25|c25|k25=>k_is)
  (case a26|l26|c26|k26=>k_is)
  (case a27|l27|c27|k27=>k_is)
  (case a28|l28|c28|k28=>k_is)
  (case a29|l29|c29|k29=>k_is)
  (case a30|l30|c30|k30=>k_is)
  (case a31|i31|l31|c31|k31=>k_is)
  (case a32|i32|l32|c32|k32=>k_is)
  (case a33|i33|l33|c33|k33=>k_is)
  (case a34|i34|l34|c34|k34=>k_is)
  (case a35|i35|l35|c35|k35=>k_is)
  (case a36|i36|l36|c36|k36=>k_is)
  (case a37|i37|l37|c37|k37=>k_is)
  (case a38|i38|l38|c38|k38=>k_is)
  (case a39|i39|l39|c39|k39=>k_is)
  (case a40|i40|l40|c40|k40=>k_is)
  (case a41|i41|l41|c41|k41=>k_is)
  (case a42|i42|l42|c42|k42=>k_is)
  (case a43|i43|l43|c43|k43=>k_is)
  (case z0=>k_is)
  (case z1=>k_is)
  (case z2=>k_is)
  (case z3=>k_is)
  (case z4=>k_is)
  (case z5=>k_is)
  (case z6=>k_is)
  (case z7=>k_is)
  (case z8=>k_is)
  (case z9=>k_is)
  (case z10=>k_is)
  (case z11=>k_is)
  (case z12=>k_is)
  (case z13=>k_is)
  (case z14=>k_is)
  (case z15=>k_is)
